/- StoOpen, JnlOn, joined. -/
import Derived.Test.YtpnpjblohijajabGreatGrp43
import Derived.Test.YtpnpjblohijajabGreatGrp37
namespace Go.Proofs.YtpnpjblohijajabGreat
section
set_option linter.unusedSimpArgs false
set_option linter.unusedVariables false
set_option maxRecDepth 100000
open Go.RowKit Go.MapKept

theorem sto_built (j cb n : Nat) : Tryz.prog.built 55 [(0, .pointer (some ⟨j, 0, none⟩)), (1, .map (some cb)), (2, .int .i64 (n : Int))] = some (stoC j cb n) := by kernel_rfl
theorem sto_size (j cb n : Nat) : (Tryz.prog.info? 55).map (·.size) = some (stoC j cb n).size := by
  show _ = some 3
  kernel_rfl
set_option maxHeartbeats 1000000 in
theorem empty_any (p kb mb n : Nat) (d : DskV) (j : Nat) (w : World) (hD : DiskAt w p kb mb n d) :
    Calls Tryz.prog 16 #[.pointer (some ⟨p, 0, none⟩), .pointer (some ⟨j, 0, none⟩)] w fun e w' => ∃ s cb, e = .returned (.pointer (some ⟨s, 0, none⟩)) ∧ Has w' s 55 (stoC j cb (16 * n)) ∧ ContAt w' cb [] ∧ (w.heap.size ≤ s ∧ w.heap.size ≤ cb ∧ s ≠ cb) ∧ Below w.heap.size w w' := by
  have hn1 := hD.n1
  have hq1 : Below w.heap.size w (w.alloc (.map #[] 0)) := (Below.refl _ _).alloc (Nat.le_refl _) _
  have hd := dlen_any p kb mb n d (w.alloc (.map #[] 0)) (hD.later hq1)
  have hC := ContAt.new w
  have hsz : (w.alloc (.map #[] 0)).heap.size = w.heap.size + 1 := by simp
  obtain ⟨w1, hw1⟩ : ∃ W, w.alloc (.map #[] 0) = W := ⟨_, rfl⟩
  rw [hw1] at hq1 hd hC hsz
  obtain ⟨w2, hw2, hX, hq2⟩ := one_var w1 55 (stoC j w.heap.size (16 * n))
  have hC2 := hC.later hq2
  have hb2 := hq1.trans (hq2.mono hq1.size)
  rw [hsz] at hX
  have e1 : IntKind.i64.wrap (16 * (n : Int)) = ((16 * n : Nat) : Int) := by rw [IntKind.wrap_i64]; omega
  have e2 : (16 * (n : Int)) = ((16 * n : Nat) : Int) := by omega
  obtain ⟨M, hM⟩ : ∃ m, 16 * n = m := ⟨_, rfl⟩
  rw [hM] at e1 e2 hX hw2 ⊢
  replace hd : Hid _ := hd
  have hbt : Hid _ := sto_built j w.heap.size M
  have hmm := @run_makeMap Tryz.prog
  have hsz' : w.heap.size + 1 = w1.heap.size := hsz.symm
  have hfin : Hid (Has w2 w1.heap.size 55 (stoC j w.heap.size M) ∧ ContAt w2 w.heap.size [] ∧ (w.heap.size ≤ w1.heap.size ∧ w.heap.size ≤ w.heap.size ∧ w1.heap.size ≠ w.heap.size) ∧ Below w.heap.size w w2) := ⟨by rw [hsz]; exact hX, hC2, ⟨by omega, Nat.le_refl _, by omega⟩, hb2⟩
  replace hsz : Hid _ := hsz
  clear hC hD hM hq1 hq2 hsz' hX hC2 hb2
  go_enter Tryz.func16, Tryz.ntmps16
  go_wp2_with fail
  refine Calls.mono hd.out ?_
  rintro e w3 ⟨rfl, h3⟩
  have h3' := h3.symm
  subst h3'
  clear hd hmm
  go_wp2_with (first
    | (refine wpList_build_has (by rfl) 55 _ rfl (stoC j w.heap.size M) ?hb ?_; (case hb => (simp only [List.map_toArray, List.map_cons, List.map_nil]); exact hbt.out))
    | (refine Go.Great.wpList_boxTo rfl 55 _ rfl _ rfl w1.heap.size rfl (stoC j w.heap.size M) rfl ?_; rw [hw2]; clear hw2)
    | fail)
  go_ret
  exact ⟨w1.heap.size, w.heap.size, rfl, hfin.out.1, hfin.out.2.1, hfin.out.2.2.1, hfin.out.2.2.2⟩
theorem smake_few (p kb mb n : Nat) (d : DskV) (w : World) (hD : DiskAt w p kb mb n d) (hn : n < 32) :
    Calls Tryz.prog 5 #[.pointer (some ⟨p, 0, none⟩)] w fun e w' => e = .returned (.tuple #[.pointer none, .int .i64 140]) ∧ w' = w := by
  have hd := dlen_any p kb mb n d w hD
  have hnI : (n : Int) < 32 := by omega
  replace hd : Hid _ := hd
  clear hD
  go_enter Tryz.func5, Tryz.ntmps5
  go_wp2_with fail
  refine Calls.mono hd.out ?_
  rintro e w3 ⟨rfl, h3⟩
  have h3' := h3.symm
  subst h3'
  go_wp2
  go_ret2
  exact ⟨rfl, rfl⟩
set_option maxHeartbeats 1000000 in
theorem smake_on (p kb mb n : Nat) (w : World) (hD : DiskAt w p kb mb n ⟨zeroD n, [], 0, false⟩) (hn : 32 ≤ n) :
    Calls Tryz.prog 5 #[.pointer (some ⟨p, 0, none⟩)] w fun e w' => ∃ s F, e = .returned (.tuple #[.pointer (some ⟨s, 0, none⟩), .int .i64 0]) ∧ StAt w' s p kb mb n 0 F [] 1 ∧ (∀ k, F k → DF p kb mb k ∨ w.heap.size ≤ k) ∧ OffF (DF p kb mb) w w' := by
  have hd := dlen_any p kb mb n _ w hD
  have hf := format_zero p kb mb n 0 w hD (by omega)
  have hnI : ¬ (n : Int) < 32 := by omega
  replace hd : Hid _ := hd
  replace hf : Hid _ := hf
  clear hD
  go_enter Tryz.func5, Tryz.ntmps5
  go_wp2_with fail
  refine Calls.mono hd.out ?_
  rintro e w3 ⟨rfl, h3⟩
  have h3' := h3.symm
  subst h3'
  clear hd
  go_wp2_with fail
  refine Calls.mono hf.out ?_
  rintro e w4 (⟨j, left', rfl, hj, hl, hJ, ho⟩ | ⟨_, hne, _⟩)
  · obtain rfl : left' = 0 := Nat.le_zero.1 hl
    have hdk : ∃ d, DiskAt w4 p kb mb n d := by
      obtain ⟨D, hD4, _⟩ := hJ.disk
      exact ⟨_, hD4⟩
    obtain ⟨d, hD4⟩ := hdk
    have he := empty_any p kb mb n d j w4 hD4
    replace he : Hid _ := he
    clear hf hD4 hl
    go_wp2_with fail
    refine Calls.mono he.out ?_
    rintro e w5 ⟨s, cb, rfl, hX, hC, ⟨h1, h2, h3⟩, hq⟩
    have hJ5 := hJ.later hq
    have hJl := hJ.lt
    have hs4 := ho.size
    have hCl := hC.lt
    have hXl := hX.lt
    have hfin : Hid (StAt w5 s p kb mb n 0 (fun k => k = s ∨ k = cb ∨ FJ j p kb mb none k) [] 1 ∧ (∀ k, (k = s ∨ k = cb ∨ FJ j p kb mb none k) → DF p kb mb k ∨ w.heap.size ≤ k) ∧ OffF (DF p kb mb) w w5) := by
      refine ⟨⟨⟨j, cb, none, 0, [], hX, hJ5, hC, trivial, rfl, ⟨h3, fun z => by have := hJl _ z; omega, fun z => by have := hJl _ z; omega⟩, fun k hk => hk⟩, ⟨Nat.zero_le _, Nat.zero_le _⟩, hn, ?_⟩, ?_, ho.trans (OffF.of hq)⟩
      · rintro k (rfl | rfl | hk)
        · exact hXl
        · exact hCl
        · exact hJ5.lt k hk
      · rintro k (rfl | rfl | rfl | hk | ⟨ad, had, _⟩)
        · exact .inr (by omega)
        · exact .inr (by omega)
        · exact .inr hj
        · exact .inl hk
        · cases had
    clear he hX hC hq hJ ho hJ5 hJl hs4 hCl hXl h1 h2 h3 hj
    go_wp2
    go_ret2
    exact ⟨s, _, rfl, hfin.out.1, hfin.out.2.1, hfin.out.2.2⟩
  · exact absurd rfl hne
theorem rec_len5 : ∀ l : List WrV, 5 * l.length ≤ (recM l).length
  | [] => Nat.le_refl _
  | y :: r => by
    have := rec_len5 r
    rw [recM_cons, List.length_append, wrB_length, List.length_cons]
    omega
open Classical in
set_option maxHeartbeats 4000000 in
theorem replay_good (s j cb n : Nat) (ro : Option Addr) (rc : Nat) (ts : List (List WrV)) (w : World) (hX : Has w s 55 (stoC j cb (16 * n))) (hC : ContAt w cb []) (hS : Strs w ro rc (ts.map recM)) (hro : ∀ ad, ro = some ad → ad.block < w.heap.size ∧ ad.block ≠ cb) (hr : Runs (16 * n) [] ts) (hl : ∀ t ∈ ts, (recM t).length ≤ 20000) (hn : n ≤ 1000) (hsc : s ≠ cb) :
    Calls Tryz.prog 28 #[.pointer (some ⟨s, 0, none⟩), .slice ro ts.length rc] w fun e w' => e = .returned (.bool true) ∧ ContAt w' cb (endL [] ts) ∧ But cb w w' := by
  have hle := hS.le
  have hcap := hS.cap
  rw [List.length_map] at hle
  have hok : ∀ k, Hid (OkL (endL [] (ts.take k))) := fun k => by
    have : ∀ (ts : List (List WrV)) (l : ConL) (k : Nat), Runs (16 * n) l ts → OkL l → OkL (endL l (ts.take k)) := by
      intro ts
      induction ts with
      | nil => intro l k _ h; rw [List.take_nil]; exact h
      | cons t ts ih =>
        intro l k hr h
        cases k with
        | zero => exact h
        | succ k => exact ih (doL l t) k hr.2.2 (h.doL hr.1)
    exact this ts [] k hr OkL.nil
  obtain ⟨L, hL⟩ : ∃ L, ts.length = L := ⟨_, rfl⟩
  rw [hL] at hle ⊢
  replace hL : Hid _ := hL
  replace hr : Hid _ := hr
  replace hl : Hid _ := hl
  go_enter Tryz.func28, Tryz.ntmps28
  go_wp2
  go_loopw [11] (fun iv wr => ∃ k, k ≤ L ∧ iv = .int .i64 (k : Nat) ∧ ContAt wr cb (endL [] (ts.take k)) ∧ Hid ((endL [] (ts.take k)).length ≤ 40) ∧ But cb w wr) (fun iv _ => L - (intOf iv).toNat)
  case atStart => exact ⟨0, Nat.zero_le _, rfl, by rw [List.take_zero]; exact hC, by show _ ≤ _; rw [List.take_zero]; exact Nat.zero_le _, But.of (Below.refl _ _)⟩
  case round =>
    clear hC
    obtain ⟨k, hk, rfl, hC, hfew, hb⟩ := hrel
    by_cases hlt : k < L
    · have hkl : k < ts.length := by rw [hL.out]; exact hlt
      have hltI : (k : Int) < (L : Int) := by omega
      cases ro with
      | none => have := hS.nil rfl; omega
      | some ad =>
        have had := hro ad rfl
        have hSr := hS.same (b := wr) (fun ad' h' => by cases h'; exact hb.block _ had.1 had.2)
        have c0 := hSr.cell ad rfl k (by rw [List.length_map]; exact hkl)
        rw [List.getElem_map] at c0
        have hXr := hb.has hX hsc
        obtain ⟨hw1, hw2⟩ := hr.out.take k hkl
        have hst := endL_take [] ts k hkl
        have hlen := hl.out _ (List.getElem_mem hkl)
        have hoks := (hok (k + 1)).out
        obtain ⟨t, htt⟩ : ∃ t, ts[k] = t := ⟨_, rfl⟩
        rw [htt] at c0 hw1 hw2 hst hlen
        obtain ⟨l, hll⟩ : ∃ l, endL [] (ts.take k) = l := ⟨_, rfl⟩
        rw [hll] at hC hw2 hst hfew
        rw [hst] at hoks
        have h5 := rec_len5 t
        have hwo := writesOf_good t wr hw1 (by omega)
        have hsz9 := hw2.size
        have hsz9' : sizeL (doL l t) ≤ 1000000000 := by omega
        have hel : Hid (∀ x ∈ t, x.key.length ≤ 1000000 ∧ x.bs.length ≤ 1000000) := fun x hx => by have := (hw1 x hx).k2; have := (hw1 x hx).b; omega
        have hlb : l.length + t.length ≤ 100000 := by have := hfew.out; omega
        obtain ⟨M, hM⟩ : ∃ m, t.length = m := ⟨_, rfl⟩
        rw [hM] at hwo hlb
        have hM' : Hid (t.length = M) := hM
        unfold strV at c0 hwo
        replace hwo : Hid _ := hwo
        replace hst : Hid _ := hst
        replace hw2 : Hid _ := hw2
        have hcl := hC.lt
        clear hSr htt hll hkl hw1 hlen hoks h5 hM hsz9 hfew
        go_wp2_with fail
        refine Calls.mono hwo.out ?_
        rintro e w2 ⟨ao, ac, rfl, hW2, hlt2, hq2⟩
        have hX2 := hXr.later hq2
        have c1 := hX2.sto_has
        have hC2 := hC.later hq2
        have hd := cdo_any cb l ao ac t w2 hC2 hW2 (fun d hd => by have := hlt2 d hd; omega) hel.out (by rw [hM'.out]; exact hlb)
        rw [hM'.out] at hd
        replace hd : Hid _ := hd
        have hb2 : But cb w w2 := hb.later hq2
        clear hwo hq2 hC hXr hlt2 hW2 hb
        go_wp2_with fail
        refine Calls.mono hd.out ?_
        rintro e w3 ⟨rfl, hC3, hb3⟩
        have hX3 := hb3.has hX2 hsc
        have c3 := hX3.sto_has
        have hf := fits_any s j cb (16 * n) cb (doL l t) w3 hX3 hC3 hsz9'
        rw [decide_eq_true hw2.out] at hf
        replace hf : Hid _ := hf
        have hb4 := hb2.trans hb3
        clear hd hX2 c1 hC2 hb2 hb3
        go_wp2_with fail
        refine Calls.mono hf.out ?_
        rintro e w4 ⟨rfl, hq4⟩
        have hC4 := hC3.later hq4
        rw [← hst.out] at hC4
        have hb5 := hb4.later hq4
        have hfew4 : Hid ((endL [] (ts.take (k + 1))).length ≤ 40) := by show _ ≤ _; rw [hst.out]; exact hw2.out.few
        clear hf hC3 hX3 c3 hq4 hb4
        go_wp2
        go_roundw
        case rel => exact ⟨k + 1, by omega, by go_num, hC4, hfew4, hb5⟩
        case measure => simp [intOf]; omega
    · have hkL : k = L := by omega
      subst hkL
      rw [← hL.out, List.take_length] at hC
      clear hfew
      go_wp2
      go_ret
      exact ⟨rfl, hC, hb⟩
set_option maxHeartbeats 1000000 in
theorem sopen_good (p kb mb n left : Nat) (D : List UInt8) (ts : List (List WrV)) (N : Nat) (w : World) (hD : DiskAt w p kb mb n ⟨D, [], left, false⟩) (hg : GoodL n D (ts.map recM) N) (hr : Runs (16 * n) [] ts) (hne : FitsL (16 * n) (endL [] ts)) (hn : 32 ≤ n) :
    Calls Tryz.prog 11 #[.pointer (some ⟨p, 0, none⟩)] w fun e w' => ∃ s F, e = .returned (.tuple #[.pointer (some ⟨s, 0, none⟩), .int .i64 0]) ∧ StAt w' s p kb mb n left F (endL [] ts) N ∧ (∀ k, F k → DF p kb mb k ∨ w.heap.size ≤ k) ∧ Below w.heap.size w w' := by
  have ho := open_face p kb mb n left D (ts.map recM) N w hD hg
  have hnI : ¬ (n : Int) < 32 := by omega
  have hn1 := hD.n1
  have hl : Hid (∀ t ∈ ts, (recM t).length ≤ 20000) := fun t ht => by
    obtain ⟨h, g, _⟩ := hg
    exact g.each _ (List.mem_map.2 ⟨t, ht, rfl⟩)
  have hfj : ∀ W, Below w.heap.size w W → DiskAt W p kb mb n ⟨D, [], left, false⟩ := fun W hS => hD.later hS
  have hlp := hD.lp
  rw [List.length_map] at ho
  obtain ⟨L, hL⟩ : ∃ L, ts.length = L := ⟨_, rfl⟩
  rw [hL] at ho
  have hL' : Hid (ts.length = L) := hL
  replace ho : Hid _ := ho
  replace hfj : Hid _ := hfj
  replace hr : Hid _ := hr
  replace hne : Hid _ := hne
  clear hL hg hD
  go_enter Tryz.func11, Tryz.ntmps11
  go_wp2_with fail
  refine Calls.mono ho.out ?_
  rintro e w2 ⟨j, lo, lc, bo, bc, rfl, hJ, hFJ, hS, hlt, hq2⟩
  have he := empty_any p kb mb n _ j w2 (hfj.out w2 hq2)
  replace he : Hid _ := he
  have hnd : ∀ (ad : Addr) (w : World), (binOp .eql 24 (.pointer (some ad)) (.pointer none)).run Tryz.prog w = .ok (.bool false) w := fun ad w => by kernel_rfl
  clear ho
  go_wp2_with fail
  refine Calls.mono he.out ?_
  rintro e w3 ⟨s, cb, rfl, hX, hC, ⟨h1, h2, h3⟩, hq3⟩
  have hS3 := hS.later hq3
  have hJ3 := hJ.later hq3
  have hb3 := hq2.trans (hq3.mono hq2.size)
  have hd := dlen_any p kb mb n _ w3 (hfj.out w3 hb3)
  have hrp := replay_good s j cb n bo bc ts w3 hX hC hS3 (fun ad had => by have := hlt ad had; have := hq3.size; omega) hr.out hl.out hn1 h3
  rw [hL'.out] at hrp
  replace hd : Hid _ := hd
  replace hrp : Hid _ := hrp
  have hs2 := hq2.size
  have hXl := hX.lt
  have hCl := hC.lt
  have hJl := hJ.lt
  clear he hS hJ hlt hS3 hq3 hC
  go_wp2_with (first
    | (go_at_call 14; refine Calls.mono hd.out ?_; rintro e w4 ⟨rfl, h4⟩; have h4' := h4.symm; subst h4'; clear hd)
    | (go_at_call 28; refine Calls.mono hrp.out ?_; rintro e w5 ⟨rfl, hC5, hb5⟩; clear hrp)
    | fail)
  have hfin : Hid (StAt w5 s p kb mb n left (fun k => k = s ∨ k = cb ∨ FJ j p kb mb lo k) (endL [] ts) N ∧ (∀ k, (k = s ∨ k = cb ∨ FJ j p kb mb lo k) → DF p kb mb k ∨ w.heap.size ≤ k) ∧ Below w.heap.size w w5) := by
    have hsF : ¬ FJ j p kb mb lo s := fun z => by have := hJl _ z; omega
    have hcF : ¬ FJ j p kb mb lo cb := fun z => by have := hJl _ z; omega
    have hJ5 : JOk w5 j p kb mb n left lo lc (ts.map recM) N := hJ3.off (OffF.but hb5) (fun k hk e => hcF (e ▸ hk))
    have hs5 := hb5.size
    refine ⟨⟨⟨j, cb, lo, lc, ts, hb5.has hX h3, hJ5, hC5, hr.out, rfl, ⟨h3, hsF, hcF⟩, fun k hk => hk⟩, hne.out, hn, ?_⟩, ?_, hb3.trans (hb5.below (by omega) hb3.size)⟩
    · rintro k (rfl | rfl | hk)
      · omega
      · omega
      · exact hJ5.lt k hk
    · rintro k (rfl | rfl | hk)
      · exact .inr (by omega)
      · exact .inr (by omega)
      · exact hFJ k hk
  clear hX hJ3 hC5 hb5 hb3 hFJ hJl
  go_wp2
  go_ret2
  exact ⟨s, _, rfl, hfin.out.1, hfin.out.2.1, hfin.out.2.2⟩
end

section
set_option linter.unusedSimpArgs false
set_option linter.unusedVariables false
set_option maxRecDepth 100000
open Go.RowKit Go.MapKept

/-- A journal that was made behind w0. -/
structure JL (w0 w : World) (j p kb mb n : Nat) (lo : Option Addr) (lc : Nat) (l : List (List UInt8)) (N : Nat) : Prop where
  ok : JOk w j p kb mb n 0 lo lc l N
  new : ∀ k, FJ j p kb mb lo k → w0.heap.size ≤ k
  below : Below w0.heap.size w0 w
/-- A disk that was made behind w0. -/
structure DL (w0 w : World) (p kb mb n : Nat) (D : List UInt8) : Prop where
  disk : DiskAt w p kb mb n ⟨D, [], 0, false⟩
  new : ∀ k, DF p kb mb k → w0.heap.size ≤ k
  below : Below w0.heap.size w0 w
section
variable {w0 w w' : World} {j p kb mb n N : Nat} {lo : Option Addr} {lc : Nat} {l : List (List UInt8)} {D : List UInt8}
theorem JL.later (H : JL w0 w j p kb mb n lo lc l N) (hb : Below w.heap.size w w') : JL w0 w' j p kb mb n lo lc l N := ⟨H.ok.later hb, H.new, H.below.trans (hb.mono H.below.size)⟩
theorem DL.later (H : DL w0 w p kb mb n D) (hb : Below w.heap.size w w') : DL w0 w' p kb mb n D := ⟨H.disk.later hb, H.new, H.below.trans (hb.mono H.below.size)⟩
theorem JL.off {G : Nat → Prop} (H : JL w0 w j p kb mb n lo lc l N) (hq : OffF G w w') (hG : ∀ k, FJ j p kb mb lo k → ¬ G k) (hG0 : ∀ k, G k → w0.heap.size ≤ k) : JL w0 w' j p kb mb n lo lc l N := ⟨H.ok.off hq hG, H.new, H.below.trans (hq.below hG0 H.below.size)⟩
theorem JL.disk (H : JL w0 w j p kb mb n lo lc l N) : ∃ D, DL w0 w p kb mb n D ∧ GoodL n D l N := by
  obtain ⟨D, hD, hg⟩ := H.ok.disk
  exact ⟨D, ⟨hD, fun k hk => H.new k (.inr (.inl hk)), H.below⟩, hg⟩
end
theorem new_on (w0 : World) (n : Nat) (w : World) (hb : Below w0.heap.size w0 w) (hn0 : 1 ≤ n) (hn1 : n ≤ 1000) :
    Calls Tryz.prog 6 #[.int .i64 (n : Nat)] w fun e w' => ∃ p kb mb, e = .returned (.pointer (some ⟨p, 0, none⟩)) ∧ DL w0 w' p kb mb n (zeroD n) ∧ Below w.heap.size w w' ∧ (∀ k, DF p kb mb k → w.heap.size ≤ k) := by
  refine (new_face n w hn0 hn1).mono ?_
  rintro e w' ⟨p, kb, mb, rfl, hD, hb', hF⟩
  exact ⟨p, kb, mb, rfl, ⟨hD, fun k hk => Nat.le_trans hb.size (hF k hk), hb.trans (hb'.mono hb.size)⟩, hb', hF⟩
theorem format_on (w0 : World) (p kb mb n : Nat) (w : World) (H : DL w0 w p kb mb n (zeroD n)) (hn : 8 ≤ n) :
    Calls Tryz.prog 15 #[.pointer (some ⟨p, 0, none⟩)] w fun e w' => ∃ j, e = .returned (.tuple #[.pointer (some ⟨j, 0, none⟩), .int .i64 0]) ∧ JL w0 w' j p kb mb n none 0 [] 1 ∧ w.heap.size ≤ j ∧ OffF (DF p kb mb) w w' := by
  refine (format_zero p kb mb n 0 w H.disk hn).mono ?_
  rintro e w' (⟨j, left', rfl, hj, hl, H', ho⟩ | ⟨_, hne, _⟩)
  · obtain rfl : left' = 0 := Nat.le_zero.1 hl
    refine ⟨j, rfl, ⟨H', fun k hk => ?_, H.below.trans (ho.below H.new H.below.size)⟩, hj, ho⟩
    rcases hk with z | z | ⟨ad, z, _⟩
    · have := H.below.size; omega
    · exact H.new k z
    · cases z
  · exact absurd rfl hne
theorem few_on (p kb mb n : Nat) (D : List UInt8) (w : World) (hD : DiskAt w p kb mb n ⟨D, [], 0, false⟩) (hn : n < 8) :
    Calls Tryz.prog 15 #[.pointer (some ⟨p, 0, none⟩)] w fun e w' => e = .returned (.tuple #[.pointer none, .int .i64 140]) ∧ Below w.heap.size w w' :=
  format_err p kb mb n _ w hD fun bd bj w' hd hD' => format1_few p kb mb n _ bd bj w' hd hD' hn
theorem append_on (w0 : World) (j p kb mb n : Nat) (lo : Option Addr) (lc : Nat) (l : List (List UInt8)) (N : Nat) (s : List UInt8) (w : World) (H : JL w0 w j p kb mb n lo lc l N) (hN : N < 255) (hs : s.length ≤ 20000) (hr : takenM l + (s.length + 16) ≤ limitM n) :
    Calls Tryz.prog 40 #[.pointer (some ⟨j, 0, none⟩), strV s] w fun e w' => e = .returned (.int .i64 0) ∧ ∃ lo' lc', JL w0 w' j p kb mb n lo' lc' (l ++ [s]) (N + 1) ∧ (∀ k, FJ j p kb mb lo' k → FJ j p kb mb lo k ∨ w.heap.size ≤ k) ∧ OffF (FJ j p kb mb lo) w w' := by
  refine (append_face j p kb mb n 0 lo lc l N s w H.ok hN hs hr).mono ?_
  rintro e w' (⟨rfl, lo', lc', left', hl, H', hF, ho⟩ | ⟨_, hne, _⟩)
  · obtain rfl : left' = 0 := Nat.le_zero.1 hl
    refine ⟨rfl, lo', lc', ⟨H', fun k hk => ?_, H.below.trans (ho.below H.new H.below.size)⟩, hF, ho⟩
    rcases hF k hk with z | z
    · exact H.new k z
    · exact Nat.le_trans H.below.size z
  · exact absurd rfl hne
theorem replace_on (w0 : World) (j p kb mb n : Nat) (lo : Option Addr) (lc : Nat) (l : List (List UInt8)) (N : Nat) (so : Option Addr) (sc : Nat) (m : List (List UInt8)) (w : World) (H : JL w0 w j p kb mb n lo lc l N) (hN : N < 255)
    (hS : Strs w so sc m) (hso : ∀ ad, so = some ad → ad.block < w.heap.size ∧ ¬ FJ j p kb mb lo ad.block) (hm : ∀ r ∈ m, r.length ≤ 20000) (hr : takenM m ≤ limitM n) :
    Calls Tryz.prog 42 #[.pointer (some ⟨j, 0, none⟩), .slice so m.length sc] w fun e w' => e = .returned (.int .i64 0) ∧ ∃ lo' lc', JL w0 w' j p kb mb n lo' lc' m (N + 1) ∧ (∀ k, FJ j p kb mb lo' k → FJ j p kb mb lo k ∨ w.heap.size ≤ k) ∧ OffF (FJ j p kb mb lo) w w' := by
  refine (replace_face j p kb mb n 0 lo lc l N so sc m w H.ok hN hS hso hm hr).mono ?_
  rintro e w' (⟨rfl, lo', lc', left', hl, H', hF, ho⟩ | ⟨_, hne, _⟩)
  · obtain rfl : left' = 0 := Nat.le_zero.1 hl
    refine ⟨rfl, lo', lc', ⟨H', fun k hk => ?_, H.below.trans (ho.below H.new H.below.size)⟩, hF, ho⟩
    rcases hF k hk with z | z
    · exact H.new k z
    · exact Nat.le_trans H.below.size z
  · exact absurd rfl hne
theorem crash_on (w0 : World) (p kb mb n : Nat) (D : List UInt8) (ao : Option Addr) (k c : Nat) (cs : List UInt8) (w : World) (H : DL w0 w p kb mb n D) (hB : By w ao c cs) (hk : k = cs.length) (hlt : ∀ ad, ao = some ad → ad.block < w.heap.size ∧ ¬ DF p kb mb ad.block) :
    Calls Tryz.prog 10 #[.pointer (some ⟨p, 0, none⟩), .slice ao k c] w fun e w' => e = .returned (.tuple #[]) ∧ DL w0 w' p kb mb n D ∧ OffF (DF p kb mb) w w' := by
  refine (crash_face p kb mb n (fun E => E = D) ao k c cs w ⟨_, H.disk, Nat.zero_le _, fun E ht => ht.nil H.disk.len⟩ hB hk hlt).mono ?_
  rintro e w' ⟨rfl, E, rfl, hD, ho⟩
  exact ⟨rfl, ⟨hD, H.new, H.below.trans (ho.below H.new H.below.size)⟩, ho⟩
theorem open_on (w0 : World) (p kb mb n : Nat) (D : List UInt8) (l : List (List UInt8)) (N : Nat) (w : World) (H : DL w0 w p kb mb n D) (hg : GoodL n D l N) :
    Calls Tryz.prog 27 #[.pointer (some ⟨p, 0, none⟩)] w fun e w' => ∃ j lo lc bo bc, e = .returned (.tuple #[.pointer (some ⟨j, 0, none⟩), .slice bo l.length bc, .int .i64 0]) ∧ JL w0 w' j p kb mb n lo lc l N ∧
      (∀ k, FJ j p kb mb lo k → DF p kb mb k ∨ w.heap.size ≤ k) ∧ Strs w' bo bc l ∧ (∀ ad, bo = some ad → w.heap.size ≤ ad.block ∧ ad.block < w'.heap.size ∧ ¬ FJ j p kb mb lo ad.block) ∧ Below w.heap.size w w' := by
  refine (open_face p kb mb n 0 D l N w H.disk hg).mono ?_
  rintro e w' ⟨j, lo, lc, bo, bc, rfl, H', hF, hS, hb, hq⟩
  refine ⟨j, lo, lc, bo, bc, rfl, ⟨H', fun k hk => ?_, H.below.trans (hq.mono H.below.size)⟩, hF, hS, hb, hq⟩
  rcases hF k hk with z | z
  · exact H.new k z
  · exact Nat.le_trans H.below.size z
end
end Go.Proofs.YtpnpjblohijajabGreat
