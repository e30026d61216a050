/- paddocklaw5.HistoryCopies returns true, for whatever row of increments and daemon, where package history answers as it has to. -/
import Derived.Test.YtmfgmdglpeadbabIncRows
import Derived.Test.YtmfgmdglpeadbabPackTools
namespace Go.Proofs.Ytmfgmdglpeadbab
set_option linter.unusedSimpArgs false
set_option linter.unusedVariables false
open Go.RowKit

theorem takeH_le (l : List IncV) (i : Nat) : (takeH l i).length ≤ i := by
  induction i with
  | zero => exact Nat.le_refl _
  | succ i ih =>
    by_cases h : i < l.length
    · rw [takeH_succ h]
      rcases add_next (takeH l i) l[i] with ⟨e, _⟩ | ⟨e, _⟩
      · rw [e]; simp; omega
      · rw [e]; show (takeH l i).length ≤ i + 1; omega
    · have : takeH l (i + 1) = takeH l i := by
        unfold takeH
        rw [List.take_of_length_le (by omega), List.take_of_length_le (by omega)]
      rw [this]; omega

theorem next_good {xs : List IncV} {x : IncV} (hg : Good xs) (hl : xs.length ≤ 30) (hx : isInc x = true) : addH xs (xs.length + 2) x = (0, xs ++ [x]) := by
  refine addH_yes rfl ((okA_is _ _).2 ⟨isH hg _ (Nat.le_refl _), hx, ?_⟩)
  rw [epochH _ _ (Nat.le_refl _)]
  omega

theorem inc_last (xs : List IncV) (x : IncV) : incE (xs ++ [x]) (xs.length + 2) = (x, true) := by
  rw [incE_yes (k := xs.length) (by simp)]
  simp

def incW (o : Nat) : IncV := ⟨3, o, 1⟩
theorem incW_ok {o : Nat} (h : o < 5) : IncOk (incW o) := ⟨by show 3 < 256; omega, by show o < 256; omega, by show _ ≤ (1 : Int); decide, by show (1 : Int) ≤ _; decide⟩
theorem incW_is {o : Nat} (h : o < 5) : isInc (incW o) = true := by
  unfold incW
  rw [isInc_of, decide_eq_true_iff]
  omega
theorem incN_is : isInc incN = true := by decide

set_option maxRecDepth 100000 in
set_option maxHeartbeats 4000000 in
theorem hcopies_walk {Is : World → Nat → List IncV → (Nat → Prop) → Prop} (S : HistSpec Is) (ao : Option Addr) (c : Nat) (l : List IncV) (q : Nat) (w : World) (hS : Sl w ao c 3 (incR l)) (hl : ∀ x ∈ l, IncOk x) (hq' : q < 256) :
    Calls Try.prog 3 #[.slice ao l.length c, .int .u8 q] w fun e w' => e = .returned (.bool true) ∧ Below w.heap.size w w' := by
  obtain ⟨o, ho⟩ : ∃ o, o = q % 5 := ⟨_, rfl⟩
  have ho5 : o < 5 := by omega
  have hoI : (o : Int) < 5 := by omega
  have ho' : Hid (q % 5 = o) := ho.symm
  clear ho
  have hcap := hS.cap
  have hle := hS.le
  rw [incR_len] at hle
  by_cases h30 : 30 < l.length
  · have h30' : (30 : Int) < (l.length : Int) := by omega
    go_enter Try.func3, Try.ntmps3
    go_wp2_with (first
      | (go_at_call 4; refine (hknown_any S _).mono ?_; rintro e w1 ⟨rfl, hb⟩))
    go_ret
    exact ⟨rfl, hb⟩
  · have h30' : (l.length : Int) ≤ 30 := by omega
    go_enter Try.func3, Try.ntmps3
    go_wp2_with (first
      | (go_at_call 4; refine (hknown_any S _).mono ?_; rintro e w1 ⟨rfl, hb⟩))
    refine (S.new _).mono ?_
    rintro e w2 ⟨p, F, rfl, hH, hF0, hq⟩
    have hF : ∀ b, F b → w.heap.size ≤ b := fun b h => Nat.le_trans hb.size (hF0 b h)
    replace hb := hb.trans (hq.mono hb.size)
    clear hq hF0
    have hpt : ptr p = .pointer (some ⟨p, 0, none⟩) := rfl
    rw [hpt]
    go_wp2
    go_loopw [6] (fun i wr => ∃ (n : Nat) (F : Nat → Prop), n ≤ l.length ∧ i = .int .i64 n ∧ Is wr p (takeH l n) F ∧ (∀ b, F b → w.heap.size ≤ b) ∧ Below w.heap.size w wr) (fun i _ => l.length - (intOf i).toNat)
    case atStart => exact ⟨0, F, Nat.zero_le _, rfl, hH, hF, hb⟩
    case round =>
      clear hH hF hb
      obtain ⟨n, F1, hn, rfl, hH, hF, hb⟩ := hrel
      by_cases hlt : n < l.length
      · have hnI : (n : Int) < (l.length : Int) := by omega
        have hxn := hl l[n] (List.getElem_mem hlt)
        have hts : Hid _ := takeH_succ hlt
        have hln := takeH_le l n
        cases ao with
        | none => have h1 := hS.nil rfl; omega
        | some ad =>
          have hci : ∀ W, Below w.heap.size w W → ∀ j v, (incC l[n]).toList[j]? = some v → W.cell? ((ad.add (n * 3)).add j) = some v := fun W hW => incR_at (hS.later hW) n hlt
          generalize l[n] = x at *
          generalize takeH l n = xs at *
          obtain ⟨m, hm⟩ : ∃ m, m = xs.length + 1 := ⟨_, rfl⟩
          have hm' : Hid (m = xs.length + 1) := hm
          have hmb : m < 1000 := by omega
          have hraw : Hid _ := u32_next hmb
          have hlast := fun {w} (h : Is w p xs F1) => S.last h
          rw [← hm] at hlast
          have hadd := fun {w} (h : Is w p xs F1) => S.add (m + 1) x h (by omega) hxn
          rw [show m + 1 = xs.length + 2 by omega] at hadd
          have hmi : ((xs.length + 2 : Nat) : Int) = ((m + 1 : Nat) : Int) := by omega
          rw [hmi] at hadd
          clear hm hmi
          go_wp2
          refine wp_region_plan (fun W => Below w.heap.size w W) (Plan.of [(0, true), (1, true), (4, true), (5, true), (6, true), (7, true), (2, false), (3, true), (8, false)] .done) (by kernel_rfl) (by kernel_rfl) (by kernel_rfl) (by kernel_rfl) hb.drew ?_
          iterate 5
            first
              | (refine plan_pass _ rfl (by rfl) ?_)
              | (refine plan_take _ _ rfl (.inl ⟨by rfl, fun W hS => by clear hS; go_simp; try with_reducible rfl⟩) ?_)
            try simp only [Act.put, List.setIfInBounds_toArray, List.set_cons_zero, List.set_cons_succ]
          refine plan_take _ _ rfl (yields_inc_at x (by rfl) _ rfl (ad.add (n * 3)) rfl hci) ?_
          try simp only [Act.put, List.setIfInBounds_toArray, List.set_cons_zero, List.set_cons_succ]
          refine plan_run _ rfl (fun K hK => ?_)
          go_simp
          have hH2 := S.drewN hH 1
          refine (hlast hH2).mono ?_
          rintro e w3 ⟨rfl, hq⟩
          replace hH2 := S.later hH2 hq
          have hb2 := hb.drew.trans (hq.mono hb.size)
          refine hK.out _ _ hb2 ?_
          clear hK K hq hH hb
          first
            | (refine plan_pass _ rfl (by rfl) ?_)
            | (refine plan_take _ _ rfl (.inl ⟨by rfl, fun W hS => by clear hS; go_simp; try with_reducible rfl⟩) ?_)
          try simp only [Act.put, List.setIfInBounds_toArray, List.set_cons_zero, List.set_cons_succ]
          refine plan_run _ rfl (fun K hK => ?_)
          go_simp
          rw [hraw.out]
          refine (hadd hH2).mono ?_
          rintro e w4 ⟨rfl, ⟨F2, hH3, hF2⟩, hoff⟩
          obtain ⟨hb3, hF3⟩ := off_step hb2 hF hoff hF2
          refine hK.out _ _ hb3 ?_
          clear hK K hoff hH2 hF hF2 hb2 hlast hadd
          refine plan_done ?_
          rw [← hts.out] at hH3
          go_wp2
          go_roundw
          case rel => exact ⟨n + 1, F2, by omega, by go_num, hH3, hF3, hb3⟩
          case measure => simp [intOf]; omega
      · have e5 : n = l.length := by omega
        subst e5
        have hgood := S.good hH
        have hln := takeH_le l l.length
        generalize takeH l l.length = xs at *
        obtain ⟨m, hm⟩ : ∃ m, m = xs.length + 1 := ⟨_, rfl⟩
        have hmb : m ≤ 31 := by omega
        have hmI : (m : Int) ≤ 31 := by omega
        have hac : addH xs (m + 1) (incW o) = (0, xs ++ [incW o]) := by rw [hm]; exact next_good hgood (by omega) (incW_is ho5)
        have hah : addH xs (m + 1) incN = (0, xs ++ [incN]) := by rw [hm]; exact next_good hgood (by omega) incN_is
        have hic : incE (xs ++ [incW o]) (m + 1) = (incW o, true) := by rw [hm]; exact inc_last xs _
        have hih : incE (xs ++ [incN]) (m + 1) = (incN, true) := by rw [hm]; exact inc_last xs _
        have hlc : (xs ++ [incW o]).length + 1 = m + 1 := by rw [hm]; simp
        have hlh : (xs ++ [incN]).length + 1 = m + 1 := by rw [hm]; simp
        have hm' : Hid (m = xs.length + 1) := hm
        have hlast := fun {w} (h : Is w p xs F1) => S.last h
        rw [← hm] at hlast
        clear hm
        go_wp2_with fail
        refine (S.copy hH).mono ?_
        rintro e w3 ⟨k, G, rfl, hC, hG0, hq⟩
        have hdis : ∀ b, F1 b → ¬ G b := fun b h1 h2 => by have := S.lt hH b h1; have := hG0 b h2; omega
        have hG : ∀ b, G b → w.heap.size ≤ b := fun b h => Nat.le_trans hb.size (hG0 b h)
        replace hH := S.later hH hq
        replace hb := hb.trans (hq.mono hb.size)
        clear hq hG0
        have hpk : ptr k = .pointer (some ⟨k, 0, none⟩) := rfl
        rw [hpk]
        go_wp2_with fail
        refine (hlast hH).mono ?_
        rintro e w4 ⟨rfl, hq⟩
        replace hH := S.later hH hq
        replace hC := S.later hC hq
        replace hb := hb.trans (hq.mono hb.size)
        clear hq hlast
        have hadd := S.add (m + 1) (incW o) hC (by omega) (incW_ok ho5)
        rw [hac] at hadd
        go_wp2_with (first
          | (refine wpList_val (.int .u8 (o : Int)) (by rfl) (run_rem_u8 _ _ _ _ rfl q 5 o rfl rfl hq' (by decide) ho'.out) ?_))
        rw [show ((m : Int) + 1) = ((m + 1 : Nat) : Int) from rfl]
        refine hadd.mono ?_
        rintro e w5 ⟨rfl, ⟨G2, hC2, hG2⟩, hoff⟩
        replace hH' := S.off hH hoff (fun b h1 h2 => hdis b h1 h2)
        have hdis2 : ∀ b, G2 b → ¬ F1 b := fun b h1 h2 => by
          rcases hG2 b h1 with h | h
          · exact hdis b h2 h
          · have := S.lt hH b h2; omega
        obtain ⟨hb5, hG3⟩ := off_step hb hG hoff hG2
        clear hadd hoff hC hG hG2 hb hdis hH
        have hadd := S.add (m + 1) incN hH' (by omega) incN_ok
        rw [hah] at hadd
        go_wp2_with fail
        rw [show ((m : Int) + 1) = ((m + 1 : Nat) : Int) from rfl]
        refine hadd.mono ?_
        rintro e w6 ⟨rfl, ⟨F2, hH2, hF2⟩, hoff⟩
        replace hC2 := S.off hC2 hoff hdis2
        obtain ⟨hb6, _⟩ := off_step hb5 hF hoff hF2
        clear hadd hoff hH' hb5 hdis2
        have hinc := S.inc (m + 1) hC2 (by omega)
        rw [hic] at hinc
        go_wp2_with fail
        rw [show ((m : Int) + 1) = ((m + 1 : Nat) : Int) from rfl]
        refine hinc.mono ?_
        rintro e w7 ⟨rfl, hq⟩
        replace hC2 := S.later hC2 hq
        replace hH2 := S.later hH2 hq
        replace hb6 := hb6.trans (hq.mono hb6.size)
        clear hq hinc
        have hX := (Has.new w7 31 (incC ⟨0, 0, 0⟩)).row (incC (incW o))
        have hbb := below_setRow ((Below.refl w7.heap.size w7).alloc (Nat.le_refl _) (.cells (incC ⟨0, 0, 0⟩) 31)) (Nat.le_refl _) (incC (incW o))
        replace hC2 := S.later hC2 hbb
        replace hH2 := S.later hH2 hbb
        replace hb6 := hb6.trans (hbb.mono hb6.size)
        clear hbb
        go_wp2_with (first
          | (refine alloc_inc (by rfl) rfl ?_)
          | (refine store_inc (incW o) ⟨0, 0, 0⟩ (by rfl) _ _ rfl _ rfl rfl ?hg ?_; (case hg => exact Has.new _ _ _); generalize (w7.alloc (.cells (incC ⟨0, 0, 0⟩) 31)).setRow w7.heap.size (incC (incW o)) = w8 at *))
        have hinc := S.inc (m + 1) hH2 (by omega)
        rw [hih] at hinc
        rw [show ((m : Int) + 1) = ((m + 1 : Nat) : Int) from rfl]
        refine hinc.mono ?_
        rintro e w9 ⟨rfl, hq⟩
        replace hC2 := S.later hC2 hq
        replace hH2 := S.later hH2 hq
        replace hX := hX.later hq
        replace hb6 := hb6.trans (hq.mono hb6.size)
        clear hq hinc
        have hY := (Has.new w9 31 (incC ⟨0, 0, 0⟩)).row (incC incN)
        have hbb := below_setRow ((Below.refl w9.heap.size w9).alloc (Nat.le_refl _) (.cells (incC ⟨0, 0, 0⟩) 31)) (Nat.le_refl _) (incC incN)
        replace hC2 := S.later hC2 hbb
        replace hH2 := S.later hH2 hbb
        replace hX := hX.later hbb
        replace hb6 := hb6.trans (hbb.mono hb6.size)
        clear hbb
        have hlc2 := S.last hC2
        rw [hlc] at hlc2
        go_wp2_with (first
          | (refine alloc_inc (by rfl) rfl ?_)
          | (refine store_inc incN ⟨0, 0, 0⟩ (by rfl) _ _ rfl _ rfl rfl ?hg ?_; (case hg => exact Has.new _ _ _); generalize (w9.alloc (.cells (incC ⟨0, 0, 0⟩) 31)).setRow w9.heap.size (incC incN) = w10 at *))
        refine hlc2.mono ?_
        rintro e w11 ⟨rfl, hq⟩
        replace hH2 := S.later hH2 hq
        replace hX := hX.later hq
        replace hY := hY.later hq
        replace hb6 := hb6.trans (hq.mono hb6.size)
        clear hq hlc2
        have hlh2 := S.last hH2
        rw [hlh] at hlh2
        go_wp2_with fail
        refine hlh2.mono ?_
        rintro e w12 ⟨rfl, hq⟩
        replace hX := hX.later hq
        replace hY := hY.later hq
        replace hb6 := hb6.trans (hq.mono hb6.size)
        clear hq hlh2
        have cx := hX.cell 0
        have cy := hY.cell 0
        rw [show (incC (incW o))[0]? = some (.int .u8 3) from rfl] at cx
        rw [show (incC incN)[0]? = some (.int .u8 4) from rfl] at cy
        go_wp2
        go_ret
        exact ⟨rfl, hb6⟩
end Go.Proofs.Ytmfgmdglpeadbab
