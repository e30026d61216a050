/- paddocklaw5.HistoryDown returns true, for whatever group and daemon, where package history answers as it has to. -/
import Derived.Test.YtmfgmdglpeadbaaDownFacts
import Derived.Test.YtmfgmdglpeadbaaVal
namespace Go.Proofs.Ytmfgmdglpeadbaa
set_option linter.unusedSimpArgs false
set_option linter.unusedVariables false
open Go.RowKit

theorem ix_lt {w : World} {ad : Addr} {c : Nat} {xs : List Int} (h : Ix w (some ad) c xs) (hl : 0 < xs.length) : ad.block < w.heap.size := by
  have hc := h.at' ad rfl 0 hl
  have := World.block_lt_of_cell? w _ hc
  have hbl : (ad.add 0).block = ad.block := by unfold Addr.add; split <;> rfl
  omega

theorem incD_ok {o : Nat} (h : o < 5) : IncOk (incD o) := ⟨by show 2 < 256; omega, by show o < 256; omega, by show _ ≤ (0 : Int); decide, by show (0 : Int) ≤ _; decide⟩
theorem incU_ok {o : Nat} (h : o < 5) : IncOk (incU o) := ⟨by show 1 < 256; omega, by show o < 256; omega, by show _ ≤ (0 : Int); decide, by show (0 : Int) ≤ _; decide⟩

set_option maxRecDepth 100000 in
set_option maxHeartbeats 4000000 in
theorem hdown_walk {Is : World → Nat → List IncV → (Nat → Prop) → Prop} (S : HistSpec Is) (g q : Nat) (w : World) (hg : g < 256) (hq' : q < 256) :
    Calls Try.prog 6 #[.int .u8 g, .int .u8 q] w fun e w' => e = .returned (.bool true) ∧ Below w.heap.size w w' := by
  obtain ⟨r, hr⟩ : ∃ r, r = g % 4 := ⟨_, rfl⟩
  have hr4 : r < 4 := by omega
  have hrI : (r : Int) < 4 := by omega
  have hr' : Hid (g % 4 = r) := hr.symm
  obtain ⟨k, hk⟩ : ∃ k, k = q % 3 := ⟨_, rfl⟩
  have hk3 : k < 3 := by omega
  have hkI : (k : Int) < 3 := by omega
  have hk' : Hid (q % 3 = k) := hk.symm
  clear hr hk
  obtain ⟨o, D⟩ := down_is hr4 hk3
  have ho5 := D.lt
  have hoI : (o : Int) < 5 := by omega
  obtain ⟨va, vb, hiv⟩ := D.iv
  have hA3 := D.len
  have hat := D.at'
  generalize actM firstM r = A at *
  go_enter Try.func6, Try.ntmps6
  go_wp2_with (first
    | (go_at_call 9; refine (hknown_any S _).mono ?_; rintro e w1 ⟨rfl, hb⟩)
    | (refine wpList_val (.int .u8 (r : Int)) (by rfl) (run_rem_u8 _ _ _ _ rfl g 4 r rfl rfl hg (by decide) hr'.out) ?_))
  refine (S.new _).mono ?_
  rintro e w2 ⟨p, F, rfl, hH, hF0, hq⟩
  have hF : ∀ b, F b → w.heap.size ≤ b := fun b h => Nat.le_trans hb.size (hF0 b h)
  replace hb := hb.trans (hq.mono hb.size)
  clear hq hF0
  have hpt : ptr p = .pointer (some ⟨p, 0, none⟩) := rfl
  rw [hpt]
  go_wp2_with fail
  have hact := S.acting r hH (by omega)
  rw [D.now0, hA3] at hact
  refine hact.mono ?_
  rintro e w3 ⟨ao, c, rfl, hIx, hq, hfr⟩
  have hlt := S.lt hH
  replace hH := S.later hH hq
  replace hb := hb.trans (hq.mono hb.size)
  have hcap := hIx.cap
  have hle := hIx.le
  rw [hA3] at hle
  clear hq hact
  cases ao with
  | none => have h1 := hIx.nil rfl; omega
  | some ad =>
    have hnF : ¬ F ad.block := fun h => by have h1 := hlt _ h; have h2 := hfr ad rfl; omega
    clear hlt hfr
    have ck := hIx.at' ad rfl k (by omega)
    have ek : A[k]'(by omega) = (o : Int) := by
      rw [← hat]
      simp [List.getD, show k < A.length by omega]
    rw [ek] at ck
    clear ek hat
    go_wp2_with (first
      | (refine wpList_val (.int .i64 (k : Int)) (by rfl) (run_rem_i64 _ _ _ _ rfl q 3 k rfl rfl (by omega) (by decide) hk'.out) ?_))
    have hadd := S.add 2 (incD o) hH (by decide) (incD_ok ho5)
    rw [D.add2] at hadd
    refine hadd.mono ?_
    rintro e w4 ⟨rfl, ⟨F1, hH1, hF1⟩, hoff⟩
    have hIlt := ix_lt hIx (by omega)
    replace hIx := hoff.ix hIx (fun ad' h => by obtain rfl := Option.some.inj h; exact hnF)
    have hnF1 : ¬ F1 ad.block := fun h => by
      rcases hF1 _ h with h | h
      · exact hnF h
      · omega
    obtain ⟨hb1, hF1'⟩ := off_step hb hF hoff hF1
    clear hadd hoff hH hb hF hF1 hnF hIlt ck
    have hsn := S.since r hH1 (by omega)
    rw [D.since1] at hsn
    go_wp2_with fail
    refine hsn.mono ?_
    rintro e w5 ⟨rfl, hq⟩
    replace hH1 := S.later hH1 hq
    replace hIx := hIx.later hq
    replace hb1 := hb1.trans (hq.mono hb1.size)
    clear hq hsn
    have hact := S.acting r hH1 (by omega)
    rw [D.now1] at hact
    go_wp2_with fail
    refine hact.mono ?_
    rintro e w6 ⟨a1, c1, rfl, hI1, hq, _⟩
    have hc1 := hI1.cap
    replace hH1 := S.later hH1 hq
    replace hIx := hIx.later hq
    replace hb1 := hb1.trans (hq.mono hb1.size)
    clear hq hact hI1
    have hadd := S.add 3 incN hH1 (by decide) incN_ok
    rw [D.add3] at hadd
    go_wp2_with fail
    refine hadd.mono ?_
    rintro e w7 ⟨rfl, ⟨F2, hH2, hF2⟩, hoff⟩
    have hIlt := ix_lt hIx (by omega)
    replace hIx := hoff.ix hIx (fun ad' h => by obtain rfl := Option.some.inj h; exact hnF1)
    have hnF2 : ¬ F2 ad.block := fun h => by
      rcases hF2 _ h with h | h
      · exact hnF1 h
      · omega
    obtain ⟨hb2, hF2'⟩ := off_step hb1 hF1' hoff hF2
    clear hadd hoff hH1 hb1 hF1' hF2 hnF1 hIlt
    have hsn := S.since r hH2 (by omega)
    rw [D.since2] at hsn
    go_wp2_with fail
    refine hsn.mono ?_
    rintro e w8 ⟨rfl, hq⟩
    replace hH2 := S.later hH2 hq
    replace hIx := hIx.later hq
    replace hb2 := hb2.trans (hq.mono hb2.size)
    clear hq hsn
    have hadd := S.add 4 (incU o) hH2 (by decide) (incU_ok ho5)
    rw [D.add4] at hadd
    go_wp2_with fail
    refine hadd.mono ?_
    rintro e w9 ⟨rfl, ⟨F3, hH3, hF3⟩, hoff⟩
    replace hIx := hoff.ix hIx (fun ad' h => by obtain rfl := Option.some.inj h; exact hnF2)
    obtain ⟨hb3, hF3'⟩ := off_step hb2 hF2' hoff hF3
    clear hadd hoff hH2 hb2 hF2' hF3 hnF2
    have hint := S.intervals r hH3 (by omega)
    rw [hiv] at hint
    go_wp2_with fail
    refine hint.mono ?_
    rintro e w10 ⟨vo, vc, rfl, hV, hq⟩
    replace hH3 := S.later hH3 hq
    replace hIx := hIx.later hq
    replace hb3 := hb3.trans (hq.mono hb3.size)
    clear hq hint
    have hVc := hV.cap
    have hVl := hV.le
    cases vo with
    | none => have h1 := hV.nil rfl; simp at hVl; omega
    | some vd =>
      obtain ⟨cs, bo, d, cb, hJ⟩ := hV.at' vd rfl 2 (by simp)
      have cs : w10.cell? ⟨vd.block, vd.off + 4, none⟩ = some (.int .u32 4) := cs
      have cb : w10.cell? ⟨vd.block, vd.off + 4 + 1, none⟩ = some (.slice bo A.length d) := cb
      have hJ : Ix w10 bo d A := hJ
      rw [hA3] at cb
      have hints := ints_any bo (some ad) d c A A w10 hJ hIx
      rw [hA3, decide_eq_true rfl] at hints
      go_wp2_with fail
      refine hints.mono ?_
      rintro e w11 ⟨rfl, nq, rfl⟩
      replace hH3 := S.drewN hH3 nq
      replace hIx := hIx.drewN nq
      have hb4 : Below w.heap.size w (w10.drewN nq) := ⟨hb3.os, hb3.tape, hb3.output, hb3.size, hb3.block⟩
      clear hb3 hJ cb cs hints hV
      generalize w10.drewN nq = w12 at *
      have hact := S.acting r hH3 (by omega)
      rw [D.now3, hA3] at hact
      go_wp2_with fail
      refine hact.mono ?_
      rintro e w13 ⟨a2, c2, rfl, hI2, hq, _⟩
      replace hIx := hIx.later hq
      replace hb4 := hb4.trans (hq.mono hb4.size)
      clear hq hact
      have hints := ints_any a2 (some ad) c2 c A A w13 hI2 hIx
      rw [hA3, decide_eq_true rfl] at hints
      go_wp2_with fail
      refine hints.mono ?_
      rintro e w14 ⟨rfl, nq2, rfl⟩
      go_wp2
      go_ret
      exact ⟨rfl, ⟨hb4.os, hb4.tape, hb4.output, hb4.size, hb4.block⟩⟩
end Go.Proofs.Ytmfgmdglpeadbaa
