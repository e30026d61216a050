/- MergeSelf, walked. -/
import Derived.Test.YtphlfepgaghhhabMergeKnown
import Derived.Test.YtphlfepgaghhhabMergeState
import Derived.Test.YtphlfepgaghhhabOnlyFacts
import Derived.Test.YtphlfepgaghhhabAny
namespace Go.Proofs.Ytphlfepgaghhhab
set_option linter.unusedSimpArgs false
set_option linter.unusedVariables false
set_option maxRecDepth 100000
open Go.RowKit

theorem two_new8 (w : World) (t u : TypeId) (z y c d : Array Value) : ∃ w1 w2 w3, (w.alloc (.cells z t)).alloc (.cells y u) = w1 ∧ w1.setRow w.heap.size c = w2 ∧ w2.setRow (w.heap.size + 1) d = w3 ∧ Has w1 w.heap.size t z ∧ Has w2 (w.heap.size + 1) u y ∧ Has w3 w.heap.size t c ∧ Has w3 (w.heap.size + 1) u d ∧ Below w.heap.size w w3 := by
  obtain ⟨w1, hw1, hA, hB, hb⟩ := two_vars w t u z y
  refine ⟨w1, _, _, hw1, rfl, rfl, hA, hB.row_other (by omega) _, (hA.row _).row_other (by omega) _, (hB.row_other (by omega) _).row _, below_setRow (below_setRow hb (Nat.le_refl _) _) (by omega) _⟩

/-- What MergeSelf asks of what is made of a state and itself, and itself folded further. -/
structure Selfs (S T : StV) : Prop where
  okS : StOk S
  okT : StOk T
  k1 : (makeM S S).kind = 0
  l1 : (makeM S S).log.length = 0
  f1 : (makeM S S).fr = 0
  b1 : bytesM (makeM S S) = 0
  k2 : (makeM S T).kind ≤ 1
  l2 : (makeM S T).log = []
  w2 : (makeM S T).whole.log = []
  app : applyM S (makeM S T) = (T, 0)
theorem selfs {E : List EntV} {r : Nat} (hE : Row E) (hr : E.length - 6 + r ≤ E.length) : Selfs (full 1 E (E.length - 6)) (full 1 E (E.length - 6 + r)) := by
  have hSi : isM (full 1 E (E.length - 6)) = true := full_is hE (by decide) (by omega)
  have hTi : isM (full 1 E (E.length - 6 + r)) = true := full_is hE (by decide) (by omega)
  have hM := make_self hSi
  have hall : (makeM (full 1 E (E.length - 6)) (full 1 E (E.length - 6 + r))).kind ≤ 1 ∧ (makeM (full 1 E (E.length - 6)) (full 1 E (E.length - 6 + r))).log = [] ∧ (makeM (full 1 E (E.length - 6)) (full 1 E (E.length - 6 + r))).whole.log = [] := by
    cases hs : same tSt (startAt (full 1 E (E.length - 6)) (full 1 E (E.length - 6 + r)).started) (full 1 E (E.length - 6 + r)) with
    | true =>
      rw [make_0 hSi hTi hs]
      exact ⟨by show (0 : Int) ≤ 1; decide, rfl, rfl⟩
    | false =>
      have hpre : E = E.take E.length := by rw [List.take_length]
      have hth := through_more (p := 1) (q := 1) (j := E.length - 6) (k := E.length - 6 + r) hE hE hpre (by decide) (by omega) (by omega) hr
      have hsh := part_shared (j := E.length - 6) (k := E.length - 6 + r) (part_more hE hE hpre) (p := 1) (q := 1) (by decide) (by decide) (by omega) (by omega) (by omega) hr
      rw [make_1 hSi hTi hs hth, hsh]
      refine ⟨by show (1 : Int) ≤ 1; decide, ?_, rfl⟩
      show (full 1 E (E.length - 6 + r)).log.drop (E.length - (E.length - 6 + r)) = []
      rw [full_log]
      exact List.drop_of_length_le (by rw [List.length_drop]; omega)
  refine ⟨full_ok hE (by decide), full_ok hE (by decide), ?_, ?_, ?_, ?_, hall.1, hall.2.1, hall.2.2, apply_make hSi hTi⟩
  · rw [hM]
  · rw [hM]; rfl
  · rw [hM]
  · rw [hM]; rfl

set_option maxHeartbeats 8000000 in
theorem self_walk (ao : Option Addr) (c p : Nat) (l : List OpV) (w : World) (h : Sl w ao c 6 (opR l)) (hl : ∀ x ∈ l, OpOk x) (hp : p < 256) :
    Calls Try.prog 4 #[.slice ao l.length c, .int .u8 (p : Int)] w fun en w' => en = .returned (.bool true) ∧ Below w.heap.size w w' := by
  have hle := h.op_len
  have hcap := h.cap
  go_enter Try.func4, Try.ntmps4
  go_wp2_with fail
  refine (known8_any _).mono ?_
  rintro en w1 ⟨rfl, hb⟩
  by_cases q0 : 20 < l.length
  · have hI : (20 : Int) < (l.length : Int) := by omega
    go_wp2
    go_ret
    exact ⟨rfl, hb⟩
  have hI : ¬ (20 : Int) < (l.length : Int) := by omega
  have hst1 := fun W (hW : Below w.heap.size w W) => state_any ao none c 0 0 0 1 l [] W (h.later hW) (Sl.nothing _ _) hl (fun x hx => by cases hx) (by omega) (by decide) (by decide) (by decide) (by decide)
  have hst2 := fun W (hW : Below w.heap.size w W) => state_any ao none c 0 0 p 1 l [] W (h.later hW) (Sl.nothing _ _) hl (fun x hx => by cases hx) (by omega) (by decide) (by decide) hp (by decide)
  have hrow : Row (entA l [] 2) := entA_row (by decide) (by decide) hl (fun x hx => by cases hx) (by omega) (by decide)
  have hSe : stM l [] 0 0 1 = full 1 (entA l [] 2) ((entA l [] 2).length - 6) := only_start l
  have hTe : stM l [] 0 p 1 = full 1 (entA l [] 2) ((entA l [] 2).length - 6 + p % ((entA l [] 2).length - ((entA l [] 2).length - 6) + 1)) := rfl
  have hmod : p % ((entA l [] 2).length - ((entA l [] 2).length - 6) + 1) < (entA l [] 2).length - ((entA l [] 2).length - 6) + 1 := Nat.mod_lt _ (by omega)
  have hSf := selfs (r := p % ((entA l [] 2).length - ((entA l [] 2).length - 6) + 1)) hrow (by omega)
  rw [← hSe, ← hTe] at hSf
  clear hrow hSe hTe hmod
  generalize stM l [] 0 0 1 = S at *
  generalize stM l [] 0 p 1 = T at *
  have hSo := hSf.okS
  have hTo := hSf.okT
  have hD1o := make_fit hSo hSo
  have hD2o := make_fit hSo hTo
  have hlog : Hid (entR (makeM S T).log = []) := by show _ = _; rw [hSf.l2]; rfl
  have hwlog : Hid (entR (makeM S T).whole.log = []) := by show _ = _; rw [hSf.w2]; rfl
  have hl2 : Hid ((makeM S T).log.length = 0) := by show _ = _; rw [hSf.l2]; rfl
  have hk1 : Hid _ := hSf.k1
  have hl1 : Hid _ := hSf.l1
  have hf1 : Hid _ := hSf.f1
  have hb1 : Hid _ := hSf.b1
  have hk2 : Hid _ := hSf.k2
  have happ : Hid _ := hSf.app
  clear hSf
  go_wp2_with fail
  refine (hst1 _ hb).mono ?_
  rintro en w2 ⟨ro, rc, rfl, hG⟩
  have hS8 := hG.sl
  replace hb := hb.trans (hG.below.mono hb.size)
  clear hG hst1
  go_wp2_with fail
  refine (hst2 _ hb).mono ?_
  rintro en w3 ⟨so, sc, rfl, hG⟩
  have hT8 := hG.sl
  replace hS8 := hS8.later hG.below
  replace hb := hb.trans (hG.below.mono hb.size)
  clear hG hst2
  obtain ⟨wa, wb, w5, hwa, hwb, hw5, hA0, hB0, hX, hY, hq⟩ := two_new8 w3 42 42 (stC st0 none 0) (stC st0 none 0) (stC S ro rc) (stC T so sc)
  replace hS8 := hS8.later hq
  replace hT8 := hT8.later hq
  replace hb := hb.trans (hq.mono hb.size)
  clear hq
  go_wp2_with (first
    | (refine wpList_alloc_has (by rfl) 42 rfl (stC st0 none 0) st_zero ?_; try rw [alloc_size]; try rw [hwa])
    | (refine wpList_store_to (by rfl) 42 _ _ rfl (w3.heap.size) rfl (stC S ro rc) rfl 42 (stC st0 none 0) (st_size _ _ _) (st_same _ _ _ _ _ _) (st_one _ _ _) ?hg wb ?hW ?_; (case hg => exact hA0); (case hW => exact hwb))
    | (refine wpList_store_to (by rfl) 42 _ _ rfl (w3.heap.size + 1) rfl (stC T so sc) rfl 42 (stC st0 none 0) (st_size _ _ _) (st_same _ _ _ _ _ _) (st_one _ _ _) ?hg w5 ?hW ?_; (case hg => exact hB0); (case hW => exact hw5))
    | fail)
  clear hwa hwb hw5 hA0 hB0
  generalize w3.heap.size = gs at *
  have hc1 := fun W (hW : Below w5.heap.size w5 W) => make_any S S ro ro rc rc W hSo hSo (hS8.later hW) (hS8.later hW)
  have hc2 := fun W (hW : Below w5.heap.size w5 W) => make_any S T ro so rc sc W hSo hTo (hS8.later hW) (hT8.later hW)
  generalize makeM S S = D1 at *
  generalize makeM S T = D2 at *
  let F8 : Act → Act → World → Prop := fun a a' w' => ∃ (gd ge : Nat) (lo1 : Option Addr) (lc1 : Nat) (wo1 : Option Addr) (wc1 : Nat) (lo2 : Option Addr) (lc2 : Nat) (wo2 : Option Addr) (wc2 : Nat), a' = (((((((a.put (some 21) (.agg (stC S ro rc))).put (some 22) (.agg (stC S ro rc))).put (some 24) (.agg (stC S ro rc))).put (some 25) (.agg (stC T so sc))).put (some 23) (.agg (diffC D1 lo1 lc1 wo1 wc1))).put (some 26) (.agg (diffC D2 lo2 lc2 wo2 wc2))).put (some 7) (.pointer (some ⟨gd, 0, none⟩))).put (some 8) (.pointer (some ⟨ge, 0, none⟩)) ∧ Has w' gd 48 (diffC D1 lo1 lc1 wo1 wc1) ∧ Has w' ge 48 (diffC D2 lo2 lc2 wo2 wc2) ∧ Sl w' lo2 lc2 8 (entR D2.log) ∧ Sl w' wo2 wc2 8 (entR D2.whole.log) ∧ Below w5.heap.size w5 w'
  have hbr : Below w5.heap.size w5 w5.drew := (Below.refl _ _).drew
  refine wp_region_any_mid (fun W => Below w5.heap.size w5 W) 10 (Array.replicate 10 false) F8 (by kernel_rfl) (by kernel_rfl) (by kernel_rfl) ?hplan ?hrest
  case hplan =>
    refine any_take 0 _ _ rfl (by kernel_rfl) (by kernel_rfl) (by kernel_rfl) hbr (yields_load_has (by rfl) 42 _ rfl (gs) rfl 42 (stC S ro rc) _ Try.underlying42 rfl (st_size _ _ _) (fun W hW => hX.later hW)) ?_
    try simp only [Act.put, List.setIfInBounds_toArray, List.set_cons_zero, List.set_cons_succ]
    refine any_take 1 _ _ rfl (by kernel_rfl) (by kernel_rfl) (by kernel_rfl) hbr (yields_load_has (by rfl) 42 _ rfl (gs) rfl 42 (stC S ro rc) _ Try.underlying42 rfl (st_size _ _ _) (fun W hW => hX.later hW)) ?_
    try simp only [Act.put, List.setIfInBounds_toArray, List.set_cons_zero, List.set_cons_succ]
    refine any_take 3 _ _ rfl (by kernel_rfl) (by kernel_rfl) (by kernel_rfl) hbr (yields_load_has (by rfl) 42 _ rfl (gs) rfl 42 (stC S ro rc) _ Try.underlying42 rfl (st_size _ _ _) (fun W hW => hX.later hW)) ?_
    try simp only [Act.put, List.setIfInBounds_toArray, List.set_cons_zero, List.set_cons_succ]
    refine any_take 4 _ _ rfl (by kernel_rfl) (by kernel_rfl) (by kernel_rfl) hbr (yields_load_has (by rfl) 42 _ rfl (gs + 1) rfl 42 (stC T so sc) _ Try.underlying42 rfl (st_size _ _ _) (fun W hW => hY.later hW)) ?_
    try simp only [Act.put, List.setIfInBounds_toArray, List.set_cons_zero, List.set_cons_succ]
    generalize w5.drew = wn at *
    refine any_three 2 6 7 (by kernel_rfl) ?_ ?_ ?_
    · refine any_run _ rfl (fun K hK => ?_)
      go_simp
      refine (hc1 _ hbr).mono ?_
      rintro en wm ⟨lo1, lc1, wo1, wc1, rfl, hG⟩
      have hq := hG.below
      try replace hA := hA.later hq
      try replace hB := hB.later hq
      try replace hL2 := hL2.later hq
      try replace hW2 := hW2.later hq
      replace hbr := hbr.trans (hq.mono hbr.size)
      refine hK.out _ _ hbr ?_
      clear hK K hG hq
      try simp only [Act.put, List.setIfInBounds_toArray, List.set_cons_zero, List.set_cons_succ]
      obtain ⟨wn, hwn⟩ : ∃ W, W = wm := ⟨_, rfl⟩
      subst hwn
      refine any_three 5 6 7 (by kernel_rfl) ?_ ?_ ?_
      · refine any_run _ rfl (fun K hK => ?_)
        go_simp
        refine (hc2 _ hbr).mono ?_
        rintro en wm ⟨lo2, lc2, wo2, wc2, rfl, hG⟩
        have hq := hG.below
        have hL2 := hG.sl
        have hW2 := hG.wl
        try replace hA := hA.later hq
        try replace hB := hB.later hq
        replace hbr := hbr.trans (hq.mono hbr.size)
        refine hK.out _ _ hbr ?_
        clear hK K hG hq
        try simp only [Act.put, List.setIfInBounds_toArray, List.set_cons_zero, List.set_cons_succ]
        obtain ⟨wn, hwn⟩ : ∃ W, W = wm := ⟨_, rfl⟩
        subst hwn
        refine any_two 6 7 (by kernel_rfl) ?_ ?_
        · try have hne := Nat.ne_of_lt hA.lt
          try have hne := Nat.ne_of_lt hB.lt
          refine any_alloc_has _ rfl (by rfl) 48 rfl (diffC diff0 none 0 none 0) diff_zero (hbr.alloc hbr.size _) ?_
          try simp only [Act.put, List.setIfInBounds_toArray, List.set_cons_zero, List.set_cons_succ]
          obtain ⟨wm, hwm, hNew, hq⟩ := one_var wn 48 (diffC diff0 none 0 none 0)
          rw [hwm]
          have hgd : w5.heap.size ≤ wn.heap.size := hbr.size
          try replace hA := hA.later hq
          try replace hB := hB.later hq
          try replace hL2 := hL2.later hq
          try replace hW2 := hW2.later hq
          have hA := hNew
          replace hbr := hbr.trans (hq.mono hbr.size)
          clear hq hwm hNew
          generalize wn.heap.size = gd at *
          obtain ⟨wn, hwn⟩ : ∃ W, W = wm := ⟨_, rfl⟩
          subst hwn
          refine any_one 7 (by kernel_rfl) ?_
          try have hne := Nat.ne_of_lt hA.lt
          try have hne := Nat.ne_of_lt hB.lt
          refine any_alloc_has _ rfl (by rfl) 48 rfl (diffC diff0 none 0 none 0) diff_zero (hbr.alloc hbr.size _) ?_
          try simp only [Act.put, List.setIfInBounds_toArray, List.set_cons_zero, List.set_cons_succ]
          obtain ⟨wm, hwm, hNew, hq⟩ := one_var wn 48 (diffC diff0 none 0 none 0)
          rw [hwm]
          have hge : w5.heap.size ≤ wn.heap.size := hbr.size
          try replace hA := hA.later hq
          try replace hB := hB.later hq
          try replace hL2 := hL2.later hq
          try replace hW2 := hW2.later hq
          have hB := hNew
          replace hbr := hbr.trans (hq.mono hbr.size)
          clear hq hwm hNew
          generalize wn.heap.size = ge at *
          obtain ⟨wn, hwn⟩ : ∃ W, W = wm := ⟨_, rfl⟩
          subst hwn
          have hne1 : gd ≠ ge := by first | exact hne | exact hne.symm
          have hA1 := hA.row (diffC D1 lo1 lc1 wo1 wc1)
          have hB1 := hB.row_other (k := gd) (fun e => hne1 e.symm) (diffC D1 lo1 lc1 wo1 wc1)
          have hL1 := hL2.row_if (k := gd) (fun d hd hn => absurd hn (by rw [hlog.out]; exact Nat.lt_irrefl 0)) (diffC D1 lo1 lc1 wo1 wc1)
          have hW1 := hW2.row_if (k := gd) (fun d hd hn => absurd hn (by rw [hwlog.out]; exact Nat.lt_irrefl 0)) (diffC D1 lo1 lc1 wo1 wc1)
          have hb1 := below_setRow hbr hgd (diffC D1 lo1 lc1 wo1 wc1)
          refine any_one 8 (by kernel_rfl) ?_
          refine any_store_has _ rfl (by rfl) 48 _ _ rfl gd rfl (diffC D1 lo1 lc1 wo1 wc1) rfl 48 (diffC diff0 none 0 none 0) (diff_size _ _ _ _ _) (diff_same _ _ _ _ _ _ _ _ _ _) (diff_one _ _ _ _ _) hA hb1 ?_
          try simp only [Act.put, List.setIfInBounds_toArray, List.set_cons_zero, List.set_cons_succ]
          generalize wn.setRow gd (diffC D1 lo1 lc1 wo1 wc1) = wz at *
          have hB3 := hB1.row (diffC D2 lo2 lc2 wo2 wc2)
          have hA3 := hA1.row_other (k := ge) hne1 (diffC D2 lo2 lc2 wo2 wc2)
          have hL3 := hL1.row_if (k := ge) (fun d hd hn => absurd hn (by rw [hlog.out]; exact Nat.lt_irrefl 0)) (diffC D2 lo2 lc2 wo2 wc2)
          have hW3 := hW1.row_if (k := ge) (fun d hd hn => absurd hn (by rw [hwlog.out]; exact Nat.lt_irrefl 0)) (diffC D2 lo2 lc2 wo2 wc2)
          have hb3 := below_setRow hb1 hge (diffC D2 lo2 lc2 wo2 wc2)
          refine any_one 9 (by kernel_rfl) ?_
          refine any_store_has _ rfl (by rfl) 48 _ _ rfl ge rfl (diffC D2 lo2 lc2 wo2 wc2) rfl 48 (diffC diff0 none 0 none 0) (diff_size _ _ _ _ _) (diff_same _ _ _ _ _ _ _ _ _ _) (diff_one _ _ _ _ _) hB1 hb3 ?_
          try simp only [Act.put, List.setIfInBounds_toArray, List.set_cons_zero, List.set_cons_succ]
          refine any_done (by kernel_rfl) ?_
          refine mid_done ?_
          exact ⟨gd, ge, lo1, lc1, wo1, wc1, lo2, lc2, wo2, wc2, by simp only [Act.put, List.setIfInBounds_toArray, List.set_cons_zero, List.set_cons_succ] <;> rfl, hA3, hB3, hL3, hW3, hb3⟩
        · try have hne := Nat.ne_of_lt hA.lt
          try have hne := Nat.ne_of_lt hB.lt
          refine any_alloc_has _ rfl (by rfl) 48 rfl (diffC diff0 none 0 none 0) diff_zero (hbr.alloc hbr.size _) ?_
          try simp only [Act.put, List.setIfInBounds_toArray, List.set_cons_zero, List.set_cons_succ]
          obtain ⟨wm, hwm, hNew, hq⟩ := one_var wn 48 (diffC diff0 none 0 none 0)
          rw [hwm]
          have hge : w5.heap.size ≤ wn.heap.size := hbr.size
          try replace hA := hA.later hq
          try replace hB := hB.later hq
          try replace hL2 := hL2.later hq
          try replace hW2 := hW2.later hq
          have hB := hNew
          replace hbr := hbr.trans (hq.mono hbr.size)
          clear hq hwm hNew
          generalize wn.heap.size = ge at *
          obtain ⟨wn, hwn⟩ : ∃ W, W = wm := ⟨_, rfl⟩
          subst hwn
          refine any_one 6 (by kernel_rfl) ?_
          try have hne := Nat.ne_of_lt hA.lt
          try have hne := Nat.ne_of_lt hB.lt
          refine any_alloc_has _ rfl (by rfl) 48 rfl (diffC diff0 none 0 none 0) diff_zero (hbr.alloc hbr.size _) ?_
          try simp only [Act.put, List.setIfInBounds_toArray, List.set_cons_zero, List.set_cons_succ]
          obtain ⟨wm, hwm, hNew, hq⟩ := one_var wn 48 (diffC diff0 none 0 none 0)
          rw [hwm]
          have hgd : w5.heap.size ≤ wn.heap.size := hbr.size
          try replace hA := hA.later hq
          try replace hB := hB.later hq
          try replace hL2 := hL2.later hq
          try replace hW2 := hW2.later hq
          have hA := hNew
          replace hbr := hbr.trans (hq.mono hbr.size)
          clear hq hwm hNew
          generalize wn.heap.size = gd at *
          obtain ⟨wn, hwn⟩ : ∃ W, W = wm := ⟨_, rfl⟩
          subst hwn
          have hne1 : gd ≠ ge := by first | exact hne | exact hne.symm
          have hA1 := hA.row (diffC D1 lo1 lc1 wo1 wc1)
          have hB1 := hB.row_other (k := gd) (fun e => hne1 e.symm) (diffC D1 lo1 lc1 wo1 wc1)
          have hL1 := hL2.row_if (k := gd) (fun d hd hn => absurd hn (by rw [hlog.out]; exact Nat.lt_irrefl 0)) (diffC D1 lo1 lc1 wo1 wc1)
          have hW1 := hW2.row_if (k := gd) (fun d hd hn => absurd hn (by rw [hwlog.out]; exact Nat.lt_irrefl 0)) (diffC D1 lo1 lc1 wo1 wc1)
          have hb1 := below_setRow hbr hgd (diffC D1 lo1 lc1 wo1 wc1)
          refine any_one 8 (by kernel_rfl) ?_
          refine any_store_has _ rfl (by rfl) 48 _ _ rfl gd rfl (diffC D1 lo1 lc1 wo1 wc1) rfl 48 (diffC diff0 none 0 none 0) (diff_size _ _ _ _ _) (diff_same _ _ _ _ _ _ _ _ _ _) (diff_one _ _ _ _ _) hA hb1 ?_
          try simp only [Act.put, List.setIfInBounds_toArray, List.set_cons_zero, List.set_cons_succ]
          generalize wn.setRow gd (diffC D1 lo1 lc1 wo1 wc1) = wz at *
          have hB3 := hB1.row (diffC D2 lo2 lc2 wo2 wc2)
          have hA3 := hA1.row_other (k := ge) hne1 (diffC D2 lo2 lc2 wo2 wc2)
          have hL3 := hL1.row_if (k := ge) (fun d hd hn => absurd hn (by rw [hlog.out]; exact Nat.lt_irrefl 0)) (diffC D2 lo2 lc2 wo2 wc2)
          have hW3 := hW1.row_if (k := ge) (fun d hd hn => absurd hn (by rw [hwlog.out]; exact Nat.lt_irrefl 0)) (diffC D2 lo2 lc2 wo2 wc2)
          have hb3 := below_setRow hb1 hge (diffC D2 lo2 lc2 wo2 wc2)
          refine any_one 9 (by kernel_rfl) ?_
          refine any_store_has _ rfl (by rfl) 48 _ _ rfl ge rfl (diffC D2 lo2 lc2 wo2 wc2) rfl 48 (diffC diff0 none 0 none 0) (diff_size _ _ _ _ _) (diff_same _ _ _ _ _ _ _ _ _ _) (diff_one _ _ _ _ _) hB1 hb3 ?_
          try simp only [Act.put, List.setIfInBounds_toArray, List.set_cons_zero, List.set_cons_succ]
          refine any_done (by kernel_rfl) ?_
          refine mid_done ?_
          exact ⟨gd, ge, lo1, lc1, wo1, wc1, lo2, lc2, wo2, wc2, by simp only [Act.put, List.setIfInBounds_toArray, List.set_cons_zero, List.set_cons_succ] <;> rfl, hA3, hB3, hL3, hW3, hb3⟩
      · try have hne := Nat.ne_of_lt hA.lt
        try have hne := Nat.ne_of_lt hB.lt
        refine any_alloc_has _ rfl (by rfl) 48 rfl (diffC diff0 none 0 none 0) diff_zero (hbr.alloc hbr.size _) ?_
        try simp only [Act.put, List.setIfInBounds_toArray, List.set_cons_zero, List.set_cons_succ]
        obtain ⟨wm, hwm, hNew, hq⟩ := one_var wn 48 (diffC diff0 none 0 none 0)
        rw [hwm]
        have hgd : w5.heap.size ≤ wn.heap.size := hbr.size
        try replace hA := hA.later hq
        try replace hB := hB.later hq
        try replace hL2 := hL2.later hq
        try replace hW2 := hW2.later hq
        have hA := hNew
        replace hbr := hbr.trans (hq.mono hbr.size)
        clear hq hwm hNew
        generalize wn.heap.size = gd at *
        obtain ⟨wn, hwn⟩ : ∃ W, W = wm := ⟨_, rfl⟩
        subst hwn
        refine any_two 5 7 (by kernel_rfl) ?_ ?_
        · refine any_run _ rfl (fun K hK => ?_)
          go_simp
          refine (hc2 _ hbr).mono ?_
          rintro en wm ⟨lo2, lc2, wo2, wc2, rfl, hG⟩
          have hq := hG.below
          have hL2 := hG.sl
          have hW2 := hG.wl
          try replace hA := hA.later hq
          try replace hB := hB.later hq
          replace hbr := hbr.trans (hq.mono hbr.size)
          refine hK.out _ _ hbr ?_
          clear hK K hG hq
          try simp only [Act.put, List.setIfInBounds_toArray, List.set_cons_zero, List.set_cons_succ]
          obtain ⟨wn, hwn⟩ : ∃ W, W = wm := ⟨_, rfl⟩
          subst hwn
          refine any_one 7 (by kernel_rfl) ?_
          try have hne := Nat.ne_of_lt hA.lt
          try have hne := Nat.ne_of_lt hB.lt
          refine any_alloc_has _ rfl (by rfl) 48 rfl (diffC diff0 none 0 none 0) diff_zero (hbr.alloc hbr.size _) ?_
          try simp only [Act.put, List.setIfInBounds_toArray, List.set_cons_zero, List.set_cons_succ]
          obtain ⟨wm, hwm, hNew, hq⟩ := one_var wn 48 (diffC diff0 none 0 none 0)
          rw [hwm]
          have hge : w5.heap.size ≤ wn.heap.size := hbr.size
          try replace hA := hA.later hq
          try replace hB := hB.later hq
          try replace hL2 := hL2.later hq
          try replace hW2 := hW2.later hq
          have hB := hNew
          replace hbr := hbr.trans (hq.mono hbr.size)
          clear hq hwm hNew
          generalize wn.heap.size = ge at *
          obtain ⟨wn, hwn⟩ : ∃ W, W = wm := ⟨_, rfl⟩
          subst hwn
          have hne1 : gd ≠ ge := by first | exact hne | exact hne.symm
          have hA1 := hA.row (diffC D1 lo1 lc1 wo1 wc1)
          have hB1 := hB.row_other (k := gd) (fun e => hne1 e.symm) (diffC D1 lo1 lc1 wo1 wc1)
          have hL1 := hL2.row_if (k := gd) (fun d hd hn => absurd hn (by rw [hlog.out]; exact Nat.lt_irrefl 0)) (diffC D1 lo1 lc1 wo1 wc1)
          have hW1 := hW2.row_if (k := gd) (fun d hd hn => absurd hn (by rw [hwlog.out]; exact Nat.lt_irrefl 0)) (diffC D1 lo1 lc1 wo1 wc1)
          have hb1 := below_setRow hbr hgd (diffC D1 lo1 lc1 wo1 wc1)
          refine any_one 8 (by kernel_rfl) ?_
          refine any_store_has _ rfl (by rfl) 48 _ _ rfl gd rfl (diffC D1 lo1 lc1 wo1 wc1) rfl 48 (diffC diff0 none 0 none 0) (diff_size _ _ _ _ _) (diff_same _ _ _ _ _ _ _ _ _ _) (diff_one _ _ _ _ _) hA hb1 ?_
          try simp only [Act.put, List.setIfInBounds_toArray, List.set_cons_zero, List.set_cons_succ]
          generalize wn.setRow gd (diffC D1 lo1 lc1 wo1 wc1) = wz at *
          have hB3 := hB1.row (diffC D2 lo2 lc2 wo2 wc2)
          have hA3 := hA1.row_other (k := ge) hne1 (diffC D2 lo2 lc2 wo2 wc2)
          have hL3 := hL1.row_if (k := ge) (fun d hd hn => absurd hn (by rw [hlog.out]; exact Nat.lt_irrefl 0)) (diffC D2 lo2 lc2 wo2 wc2)
          have hW3 := hW1.row_if (k := ge) (fun d hd hn => absurd hn (by rw [hwlog.out]; exact Nat.lt_irrefl 0)) (diffC D2 lo2 lc2 wo2 wc2)
          have hb3 := below_setRow hb1 hge (diffC D2 lo2 lc2 wo2 wc2)
          refine any_one 9 (by kernel_rfl) ?_
          refine any_store_has _ rfl (by rfl) 48 _ _ rfl ge rfl (diffC D2 lo2 lc2 wo2 wc2) rfl 48 (diffC diff0 none 0 none 0) (diff_size _ _ _ _ _) (diff_same _ _ _ _ _ _ _ _ _ _) (diff_one _ _ _ _ _) hB1 hb3 ?_
          try simp only [Act.put, List.setIfInBounds_toArray, List.set_cons_zero, List.set_cons_succ]
          refine any_done (by kernel_rfl) ?_
          refine mid_done ?_
          exact ⟨gd, ge, lo1, lc1, wo1, wc1, lo2, lc2, wo2, wc2, by simp only [Act.put, List.setIfInBounds_toArray, List.set_cons_zero, List.set_cons_succ] <;> rfl, hA3, hB3, hL3, hW3, hb3⟩
        · try have hne := Nat.ne_of_lt hA.lt
          try have hne := Nat.ne_of_lt hB.lt
          refine any_alloc_has _ rfl (by rfl) 48 rfl (diffC diff0 none 0 none 0) diff_zero (hbr.alloc hbr.size _) ?_
          try simp only [Act.put, List.setIfInBounds_toArray, List.set_cons_zero, List.set_cons_succ]
          obtain ⟨wm, hwm, hNew, hq⟩ := one_var wn 48 (diffC diff0 none 0 none 0)
          rw [hwm]
          have hge : w5.heap.size ≤ wn.heap.size := hbr.size
          try replace hA := hA.later hq
          try replace hB := hB.later hq
          try replace hL2 := hL2.later hq
          try replace hW2 := hW2.later hq
          have hB := hNew
          replace hbr := hbr.trans (hq.mono hbr.size)
          clear hq hwm hNew
          generalize wn.heap.size = ge at *
          obtain ⟨wn, hwn⟩ : ∃ W, W = wm := ⟨_, rfl⟩
          subst hwn
          refine any_one 5 (by kernel_rfl) ?_
          refine any_run _ rfl (fun K hK => ?_)
          go_simp
          refine (hc2 _ hbr).mono ?_
          rintro en wm ⟨lo2, lc2, wo2, wc2, rfl, hG⟩
          have hq := hG.below
          have hL2 := hG.sl
          have hW2 := hG.wl
          try replace hA := hA.later hq
          try replace hB := hB.later hq
          replace hbr := hbr.trans (hq.mono hbr.size)
          refine hK.out _ _ hbr ?_
          clear hK K hG hq
          try simp only [Act.put, List.setIfInBounds_toArray, List.set_cons_zero, List.set_cons_succ]
          obtain ⟨wn, hwn⟩ : ∃ W, W = wm := ⟨_, rfl⟩
          subst hwn
          have hne1 : gd ≠ ge := by first | exact hne | exact hne.symm
          have hA1 := hA.row (diffC D1 lo1 lc1 wo1 wc1)
          have hB1 := hB.row_other (k := gd) (fun e => hne1 e.symm) (diffC D1 lo1 lc1 wo1 wc1)
          have hL1 := hL2.row_if (k := gd) (fun d hd hn => absurd hn (by rw [hlog.out]; exact Nat.lt_irrefl 0)) (diffC D1 lo1 lc1 wo1 wc1)
          have hW1 := hW2.row_if (k := gd) (fun d hd hn => absurd hn (by rw [hwlog.out]; exact Nat.lt_irrefl 0)) (diffC D1 lo1 lc1 wo1 wc1)
          have hb1 := below_setRow hbr hgd (diffC D1 lo1 lc1 wo1 wc1)
          refine any_one 8 (by kernel_rfl) ?_
          refine any_store_has _ rfl (by rfl) 48 _ _ rfl gd rfl (diffC D1 lo1 lc1 wo1 wc1) rfl 48 (diffC diff0 none 0 none 0) (diff_size _ _ _ _ _) (diff_same _ _ _ _ _ _ _ _ _ _) (diff_one _ _ _ _ _) hA hb1 ?_
          try simp only [Act.put, List.setIfInBounds_toArray, List.set_cons_zero, List.set_cons_succ]
          generalize wn.setRow gd (diffC D1 lo1 lc1 wo1 wc1) = wz at *
          have hB3 := hB1.row (diffC D2 lo2 lc2 wo2 wc2)
          have hA3 := hA1.row_other (k := ge) hne1 (diffC D2 lo2 lc2 wo2 wc2)
          have hL3 := hL1.row_if (k := ge) (fun d hd hn => absurd hn (by rw [hlog.out]; exact Nat.lt_irrefl 0)) (diffC D2 lo2 lc2 wo2 wc2)
          have hW3 := hW1.row_if (k := ge) (fun d hd hn => absurd hn (by rw [hwlog.out]; exact Nat.lt_irrefl 0)) (diffC D2 lo2 lc2 wo2 wc2)
          have hb3 := below_setRow hb1 hge (diffC D2 lo2 lc2 wo2 wc2)
          refine any_one 9 (by kernel_rfl) ?_
          refine any_store_has _ rfl (by rfl) 48 _ _ rfl ge rfl (diffC D2 lo2 lc2 wo2 wc2) rfl 48 (diffC diff0 none 0 none 0) (diff_size _ _ _ _ _) (diff_same _ _ _ _ _ _ _ _ _ _) (diff_one _ _ _ _ _) hB1 hb3 ?_
          try simp only [Act.put, List.setIfInBounds_toArray, List.set_cons_zero, List.set_cons_succ]
          refine any_done (by kernel_rfl) ?_
          refine mid_done ?_
          exact ⟨gd, ge, lo1, lc1, wo1, wc1, lo2, lc2, wo2, wc2, by simp only [Act.put, List.setIfInBounds_toArray, List.set_cons_zero, List.set_cons_succ] <;> rfl, hA3, hB3, hL3, hW3, hb3⟩
      · try have hne := Nat.ne_of_lt hA.lt
        try have hne := Nat.ne_of_lt hB.lt
        refine any_alloc_has _ rfl (by rfl) 48 rfl (diffC diff0 none 0 none 0) diff_zero (hbr.alloc hbr.size _) ?_
        try simp only [Act.put, List.setIfInBounds_toArray, List.set_cons_zero, List.set_cons_succ]
        obtain ⟨wm, hwm, hNew, hq⟩ := one_var wn 48 (diffC diff0 none 0 none 0)
        rw [hwm]
        have hge : w5.heap.size ≤ wn.heap.size := hbr.size
        try replace hA := hA.later hq
        try replace hB := hB.later hq
        try replace hL2 := hL2.later hq
        try replace hW2 := hW2.later hq
        have hB := hNew
        replace hbr := hbr.trans (hq.mono hbr.size)
        clear hq hwm hNew
        generalize wn.heap.size = ge at *
        obtain ⟨wn, hwn⟩ : ∃ W, W = wm := ⟨_, rfl⟩
        subst hwn
        refine any_two 5 6 (by kernel_rfl) ?_ ?_
        · refine any_run _ rfl (fun K hK => ?_)
          go_simp
          refine (hc2 _ hbr).mono ?_
          rintro en wm ⟨lo2, lc2, wo2, wc2, rfl, hG⟩
          have hq := hG.below
          have hL2 := hG.sl
          have hW2 := hG.wl
          try replace hA := hA.later hq
          try replace hB := hB.later hq
          replace hbr := hbr.trans (hq.mono hbr.size)
          refine hK.out _ _ hbr ?_
          clear hK K hG hq
          try simp only [Act.put, List.setIfInBounds_toArray, List.set_cons_zero, List.set_cons_succ]
          obtain ⟨wn, hwn⟩ : ∃ W, W = wm := ⟨_, rfl⟩
          subst hwn
          refine any_one 6 (by kernel_rfl) ?_
          try have hne := Nat.ne_of_lt hA.lt
          try have hne := Nat.ne_of_lt hB.lt
          refine any_alloc_has _ rfl (by rfl) 48 rfl (diffC diff0 none 0 none 0) diff_zero (hbr.alloc hbr.size _) ?_
          try simp only [Act.put, List.setIfInBounds_toArray, List.set_cons_zero, List.set_cons_succ]
          obtain ⟨wm, hwm, hNew, hq⟩ := one_var wn 48 (diffC diff0 none 0 none 0)
          rw [hwm]
          have hgd : w5.heap.size ≤ wn.heap.size := hbr.size
          try replace hA := hA.later hq
          try replace hB := hB.later hq
          try replace hL2 := hL2.later hq
          try replace hW2 := hW2.later hq
          have hA := hNew
          replace hbr := hbr.trans (hq.mono hbr.size)
          clear hq hwm hNew
          generalize wn.heap.size = gd at *
          obtain ⟨wn, hwn⟩ : ∃ W, W = wm := ⟨_, rfl⟩
          subst hwn
          have hne1 : gd ≠ ge := by first | exact hne | exact hne.symm
          have hA1 := hA.row (diffC D1 lo1 lc1 wo1 wc1)
          have hB1 := hB.row_other (k := gd) (fun e => hne1 e.symm) (diffC D1 lo1 lc1 wo1 wc1)
          have hL1 := hL2.row_if (k := gd) (fun d hd hn => absurd hn (by rw [hlog.out]; exact Nat.lt_irrefl 0)) (diffC D1 lo1 lc1 wo1 wc1)
          have hW1 := hW2.row_if (k := gd) (fun d hd hn => absurd hn (by rw [hwlog.out]; exact Nat.lt_irrefl 0)) (diffC D1 lo1 lc1 wo1 wc1)
          have hb1 := below_setRow hbr hgd (diffC D1 lo1 lc1 wo1 wc1)
          refine any_one 8 (by kernel_rfl) ?_
          refine any_store_has _ rfl (by rfl) 48 _ _ rfl gd rfl (diffC D1 lo1 lc1 wo1 wc1) rfl 48 (diffC diff0 none 0 none 0) (diff_size _ _ _ _ _) (diff_same _ _ _ _ _ _ _ _ _ _) (diff_one _ _ _ _ _) hA hb1 ?_
          try simp only [Act.put, List.setIfInBounds_toArray, List.set_cons_zero, List.set_cons_succ]
          generalize wn.setRow gd (diffC D1 lo1 lc1 wo1 wc1) = wz at *
          have hB3 := hB1.row (diffC D2 lo2 lc2 wo2 wc2)
          have hA3 := hA1.row_other (k := ge) hne1 (diffC D2 lo2 lc2 wo2 wc2)
          have hL3 := hL1.row_if (k := ge) (fun d hd hn => absurd hn (by rw [hlog.out]; exact Nat.lt_irrefl 0)) (diffC D2 lo2 lc2 wo2 wc2)
          have hW3 := hW1.row_if (k := ge) (fun d hd hn => absurd hn (by rw [hwlog.out]; exact Nat.lt_irrefl 0)) (diffC D2 lo2 lc2 wo2 wc2)
          have hb3 := below_setRow hb1 hge (diffC D2 lo2 lc2 wo2 wc2)
          refine any_one 9 (by kernel_rfl) ?_
          refine any_store_has _ rfl (by rfl) 48 _ _ rfl ge rfl (diffC D2 lo2 lc2 wo2 wc2) rfl 48 (diffC diff0 none 0 none 0) (diff_size _ _ _ _ _) (diff_same _ _ _ _ _ _ _ _ _ _) (diff_one _ _ _ _ _) hB1 hb3 ?_
          try simp only [Act.put, List.setIfInBounds_toArray, List.set_cons_zero, List.set_cons_succ]
          refine any_done (by kernel_rfl) ?_
          refine mid_done ?_
          exact ⟨gd, ge, lo1, lc1, wo1, wc1, lo2, lc2, wo2, wc2, by simp only [Act.put, List.setIfInBounds_toArray, List.set_cons_zero, List.set_cons_succ] <;> rfl, hA3, hB3, hL3, hW3, hb3⟩
        · try have hne := Nat.ne_of_lt hA.lt
          try have hne := Nat.ne_of_lt hB.lt
          refine any_alloc_has _ rfl (by rfl) 48 rfl (diffC diff0 none 0 none 0) diff_zero (hbr.alloc hbr.size _) ?_
          try simp only [Act.put, List.setIfInBounds_toArray, List.set_cons_zero, List.set_cons_succ]
          obtain ⟨wm, hwm, hNew, hq⟩ := one_var wn 48 (diffC diff0 none 0 none 0)
          rw [hwm]
          have hgd : w5.heap.size ≤ wn.heap.size := hbr.size
          try replace hA := hA.later hq
          try replace hB := hB.later hq
          try replace hL2 := hL2.later hq
          try replace hW2 := hW2.later hq
          have hA := hNew
          replace hbr := hbr.trans (hq.mono hbr.size)
          clear hq hwm hNew
          generalize wn.heap.size = gd at *
          obtain ⟨wn, hwn⟩ : ∃ W, W = wm := ⟨_, rfl⟩
          subst hwn
          refine any_one 5 (by kernel_rfl) ?_
          refine any_run _ rfl (fun K hK => ?_)
          go_simp
          refine (hc2 _ hbr).mono ?_
          rintro en wm ⟨lo2, lc2, wo2, wc2, rfl, hG⟩
          have hq := hG.below
          have hL2 := hG.sl
          have hW2 := hG.wl
          try replace hA := hA.later hq
          try replace hB := hB.later hq
          replace hbr := hbr.trans (hq.mono hbr.size)
          refine hK.out _ _ hbr ?_
          clear hK K hG hq
          try simp only [Act.put, List.setIfInBounds_toArray, List.set_cons_zero, List.set_cons_succ]
          obtain ⟨wn, hwn⟩ : ∃ W, W = wm := ⟨_, rfl⟩
          subst hwn
          have hne1 : gd ≠ ge := by first | exact hne | exact hne.symm
          have hA1 := hA.row (diffC D1 lo1 lc1 wo1 wc1)
          have hB1 := hB.row_other (k := gd) (fun e => hne1 e.symm) (diffC D1 lo1 lc1 wo1 wc1)
          have hL1 := hL2.row_if (k := gd) (fun d hd hn => absurd hn (by rw [hlog.out]; exact Nat.lt_irrefl 0)) (diffC D1 lo1 lc1 wo1 wc1)
          have hW1 := hW2.row_if (k := gd) (fun d hd hn => absurd hn (by rw [hwlog.out]; exact Nat.lt_irrefl 0)) (diffC D1 lo1 lc1 wo1 wc1)
          have hb1 := below_setRow hbr hgd (diffC D1 lo1 lc1 wo1 wc1)
          refine any_one 8 (by kernel_rfl) ?_
          refine any_store_has _ rfl (by rfl) 48 _ _ rfl gd rfl (diffC D1 lo1 lc1 wo1 wc1) rfl 48 (diffC diff0 none 0 none 0) (diff_size _ _ _ _ _) (diff_same _ _ _ _ _ _ _ _ _ _) (diff_one _ _ _ _ _) hA hb1 ?_
          try simp only [Act.put, List.setIfInBounds_toArray, List.set_cons_zero, List.set_cons_succ]
          generalize wn.setRow gd (diffC D1 lo1 lc1 wo1 wc1) = wz at *
          have hB3 := hB1.row (diffC D2 lo2 lc2 wo2 wc2)
          have hA3 := hA1.row_other (k := ge) hne1 (diffC D2 lo2 lc2 wo2 wc2)
          have hL3 := hL1.row_if (k := ge) (fun d hd hn => absurd hn (by rw [hlog.out]; exact Nat.lt_irrefl 0)) (diffC D2 lo2 lc2 wo2 wc2)
          have hW3 := hW1.row_if (k := ge) (fun d hd hn => absurd hn (by rw [hwlog.out]; exact Nat.lt_irrefl 0)) (diffC D2 lo2 lc2 wo2 wc2)
          have hb3 := below_setRow hb1 hge (diffC D2 lo2 lc2 wo2 wc2)
          refine any_one 9 (by kernel_rfl) ?_
          refine any_store_has _ rfl (by rfl) 48 _ _ rfl ge rfl (diffC D2 lo2 lc2 wo2 wc2) rfl 48 (diffC diff0 none 0 none 0) (diff_size _ _ _ _ _) (diff_same _ _ _ _ _ _ _ _ _ _) (diff_one _ _ _ _ _) hB1 hb3 ?_
          try simp only [Act.put, List.setIfInBounds_toArray, List.set_cons_zero, List.set_cons_succ]
          refine any_done (by kernel_rfl) ?_
          refine mid_done ?_
          exact ⟨gd, ge, lo1, lc1, wo1, wc1, lo2, lc2, wo2, wc2, by simp only [Act.put, List.setIfInBounds_toArray, List.set_cons_zero, List.set_cons_succ] <;> rfl, hA3, hB3, hL3, hW3, hb3⟩
    · try have hne := Nat.ne_of_lt hA.lt
      try have hne := Nat.ne_of_lt hB.lt
      refine any_alloc_has _ rfl (by rfl) 48 rfl (diffC diff0 none 0 none 0) diff_zero (hbr.alloc hbr.size _) ?_
      try simp only [Act.put, List.setIfInBounds_toArray, List.set_cons_zero, List.set_cons_succ]
      obtain ⟨wm, hwm, hNew, hq⟩ := one_var wn 48 (diffC diff0 none 0 none 0)
      rw [hwm]
      have hgd : w5.heap.size ≤ wn.heap.size := hbr.size
      try replace hA := hA.later hq
      try replace hB := hB.later hq
      try replace hL2 := hL2.later hq
      try replace hW2 := hW2.later hq
      have hA := hNew
      replace hbr := hbr.trans (hq.mono hbr.size)
      clear hq hwm hNew
      generalize wn.heap.size = gd at *
      obtain ⟨wn, hwn⟩ : ∃ W, W = wm := ⟨_, rfl⟩
      subst hwn
      refine any_two 2 7 (by kernel_rfl) ?_ ?_
      · refine any_run _ rfl (fun K hK => ?_)
        go_simp
        refine (hc1 _ hbr).mono ?_
        rintro en wm ⟨lo1, lc1, wo1, wc1, rfl, hG⟩
        have hq := hG.below
        try replace hA := hA.later hq
        try replace hB := hB.later hq
        try replace hL2 := hL2.later hq
        try replace hW2 := hW2.later hq
        replace hbr := hbr.trans (hq.mono hbr.size)
        refine hK.out _ _ hbr ?_
        clear hK K hG hq
        try simp only [Act.put, List.setIfInBounds_toArray, List.set_cons_zero, List.set_cons_succ]
        obtain ⟨wn, hwn⟩ : ∃ W, W = wm := ⟨_, rfl⟩
        subst hwn
        refine any_two 5 7 (by kernel_rfl) ?_ ?_
        · refine any_run _ rfl (fun K hK => ?_)
          go_simp
          refine (hc2 _ hbr).mono ?_
          rintro en wm ⟨lo2, lc2, wo2, wc2, rfl, hG⟩
          have hq := hG.below
          have hL2 := hG.sl
          have hW2 := hG.wl
          try replace hA := hA.later hq
          try replace hB := hB.later hq
          replace hbr := hbr.trans (hq.mono hbr.size)
          refine hK.out _ _ hbr ?_
          clear hK K hG hq
          try simp only [Act.put, List.setIfInBounds_toArray, List.set_cons_zero, List.set_cons_succ]
          obtain ⟨wn, hwn⟩ : ∃ W, W = wm := ⟨_, rfl⟩
          subst hwn
          refine any_one 7 (by kernel_rfl) ?_
          try have hne := Nat.ne_of_lt hA.lt
          try have hne := Nat.ne_of_lt hB.lt
          refine any_alloc_has _ rfl (by rfl) 48 rfl (diffC diff0 none 0 none 0) diff_zero (hbr.alloc hbr.size _) ?_
          try simp only [Act.put, List.setIfInBounds_toArray, List.set_cons_zero, List.set_cons_succ]
          obtain ⟨wm, hwm, hNew, hq⟩ := one_var wn 48 (diffC diff0 none 0 none 0)
          rw [hwm]
          have hge : w5.heap.size ≤ wn.heap.size := hbr.size
          try replace hA := hA.later hq
          try replace hB := hB.later hq
          try replace hL2 := hL2.later hq
          try replace hW2 := hW2.later hq
          have hB := hNew
          replace hbr := hbr.trans (hq.mono hbr.size)
          clear hq hwm hNew
          generalize wn.heap.size = ge at *
          obtain ⟨wn, hwn⟩ : ∃ W, W = wm := ⟨_, rfl⟩
          subst hwn
          have hne1 : gd ≠ ge := by first | exact hne | exact hne.symm
          have hA1 := hA.row (diffC D1 lo1 lc1 wo1 wc1)
          have hB1 := hB.row_other (k := gd) (fun e => hne1 e.symm) (diffC D1 lo1 lc1 wo1 wc1)
          have hL1 := hL2.row_if (k := gd) (fun d hd hn => absurd hn (by rw [hlog.out]; exact Nat.lt_irrefl 0)) (diffC D1 lo1 lc1 wo1 wc1)
          have hW1 := hW2.row_if (k := gd) (fun d hd hn => absurd hn (by rw [hwlog.out]; exact Nat.lt_irrefl 0)) (diffC D1 lo1 lc1 wo1 wc1)
          have hb1 := below_setRow hbr hgd (diffC D1 lo1 lc1 wo1 wc1)
          refine any_one 8 (by kernel_rfl) ?_
          refine any_store_has _ rfl (by rfl) 48 _ _ rfl gd rfl (diffC D1 lo1 lc1 wo1 wc1) rfl 48 (diffC diff0 none 0 none 0) (diff_size _ _ _ _ _) (diff_same _ _ _ _ _ _ _ _ _ _) (diff_one _ _ _ _ _) hA hb1 ?_
          try simp only [Act.put, List.setIfInBounds_toArray, List.set_cons_zero, List.set_cons_succ]
          generalize wn.setRow gd (diffC D1 lo1 lc1 wo1 wc1) = wz at *
          have hB3 := hB1.row (diffC D2 lo2 lc2 wo2 wc2)
          have hA3 := hA1.row_other (k := ge) hne1 (diffC D2 lo2 lc2 wo2 wc2)
          have hL3 := hL1.row_if (k := ge) (fun d hd hn => absurd hn (by rw [hlog.out]; exact Nat.lt_irrefl 0)) (diffC D2 lo2 lc2 wo2 wc2)
          have hW3 := hW1.row_if (k := ge) (fun d hd hn => absurd hn (by rw [hwlog.out]; exact Nat.lt_irrefl 0)) (diffC D2 lo2 lc2 wo2 wc2)
          have hb3 := below_setRow hb1 hge (diffC D2 lo2 lc2 wo2 wc2)
          refine any_one 9 (by kernel_rfl) ?_
          refine any_store_has _ rfl (by rfl) 48 _ _ rfl ge rfl (diffC D2 lo2 lc2 wo2 wc2) rfl 48 (diffC diff0 none 0 none 0) (diff_size _ _ _ _ _) (diff_same _ _ _ _ _ _ _ _ _ _) (diff_one _ _ _ _ _) hB1 hb3 ?_
          try simp only [Act.put, List.setIfInBounds_toArray, List.set_cons_zero, List.set_cons_succ]
          refine any_done (by kernel_rfl) ?_
          refine mid_done ?_
          exact ⟨gd, ge, lo1, lc1, wo1, wc1, lo2, lc2, wo2, wc2, by simp only [Act.put, List.setIfInBounds_toArray, List.set_cons_zero, List.set_cons_succ] <;> rfl, hA3, hB3, hL3, hW3, hb3⟩
        · try have hne := Nat.ne_of_lt hA.lt
          try have hne := Nat.ne_of_lt hB.lt
          refine any_alloc_has _ rfl (by rfl) 48 rfl (diffC diff0 none 0 none 0) diff_zero (hbr.alloc hbr.size _) ?_
          try simp only [Act.put, List.setIfInBounds_toArray, List.set_cons_zero, List.set_cons_succ]
          obtain ⟨wm, hwm, hNew, hq⟩ := one_var wn 48 (diffC diff0 none 0 none 0)
          rw [hwm]
          have hge : w5.heap.size ≤ wn.heap.size := hbr.size
          try replace hA := hA.later hq
          try replace hB := hB.later hq
          try replace hL2 := hL2.later hq
          try replace hW2 := hW2.later hq
          have hB := hNew
          replace hbr := hbr.trans (hq.mono hbr.size)
          clear hq hwm hNew
          generalize wn.heap.size = ge at *
          obtain ⟨wn, hwn⟩ : ∃ W, W = wm := ⟨_, rfl⟩
          subst hwn
          refine any_one 5 (by kernel_rfl) ?_
          refine any_run _ rfl (fun K hK => ?_)
          go_simp
          refine (hc2 _ hbr).mono ?_
          rintro en wm ⟨lo2, lc2, wo2, wc2, rfl, hG⟩
          have hq := hG.below
          have hL2 := hG.sl
          have hW2 := hG.wl
          try replace hA := hA.later hq
          try replace hB := hB.later hq
          replace hbr := hbr.trans (hq.mono hbr.size)
          refine hK.out _ _ hbr ?_
          clear hK K hG hq
          try simp only [Act.put, List.setIfInBounds_toArray, List.set_cons_zero, List.set_cons_succ]
          obtain ⟨wn, hwn⟩ : ∃ W, W = wm := ⟨_, rfl⟩
          subst hwn
          have hne1 : gd ≠ ge := by first | exact hne | exact hne.symm
          have hA1 := hA.row (diffC D1 lo1 lc1 wo1 wc1)
          have hB1 := hB.row_other (k := gd) (fun e => hne1 e.symm) (diffC D1 lo1 lc1 wo1 wc1)
          have hL1 := hL2.row_if (k := gd) (fun d hd hn => absurd hn (by rw [hlog.out]; exact Nat.lt_irrefl 0)) (diffC D1 lo1 lc1 wo1 wc1)
          have hW1 := hW2.row_if (k := gd) (fun d hd hn => absurd hn (by rw [hwlog.out]; exact Nat.lt_irrefl 0)) (diffC D1 lo1 lc1 wo1 wc1)
          have hb1 := below_setRow hbr hgd (diffC D1 lo1 lc1 wo1 wc1)
          refine any_one 8 (by kernel_rfl) ?_
          refine any_store_has _ rfl (by rfl) 48 _ _ rfl gd rfl (diffC D1 lo1 lc1 wo1 wc1) rfl 48 (diffC diff0 none 0 none 0) (diff_size _ _ _ _ _) (diff_same _ _ _ _ _ _ _ _ _ _) (diff_one _ _ _ _ _) hA hb1 ?_
          try simp only [Act.put, List.setIfInBounds_toArray, List.set_cons_zero, List.set_cons_succ]
          generalize wn.setRow gd (diffC D1 lo1 lc1 wo1 wc1) = wz at *
          have hB3 := hB1.row (diffC D2 lo2 lc2 wo2 wc2)
          have hA3 := hA1.row_other (k := ge) hne1 (diffC D2 lo2 lc2 wo2 wc2)
          have hL3 := hL1.row_if (k := ge) (fun d hd hn => absurd hn (by rw [hlog.out]; exact Nat.lt_irrefl 0)) (diffC D2 lo2 lc2 wo2 wc2)
          have hW3 := hW1.row_if (k := ge) (fun d hd hn => absurd hn (by rw [hwlog.out]; exact Nat.lt_irrefl 0)) (diffC D2 lo2 lc2 wo2 wc2)
          have hb3 := below_setRow hb1 hge (diffC D2 lo2 lc2 wo2 wc2)
          refine any_one 9 (by kernel_rfl) ?_
          refine any_store_has _ rfl (by rfl) 48 _ _ rfl ge rfl (diffC D2 lo2 lc2 wo2 wc2) rfl 48 (diffC diff0 none 0 none 0) (diff_size _ _ _ _ _) (diff_same _ _ _ _ _ _ _ _ _ _) (diff_one _ _ _ _ _) hB1 hb3 ?_
          try simp only [Act.put, List.setIfInBounds_toArray, List.set_cons_zero, List.set_cons_succ]
          refine any_done (by kernel_rfl) ?_
          refine mid_done ?_
          exact ⟨gd, ge, lo1, lc1, wo1, wc1, lo2, lc2, wo2, wc2, by simp only [Act.put, List.setIfInBounds_toArray, List.set_cons_zero, List.set_cons_succ] <;> rfl, hA3, hB3, hL3, hW3, hb3⟩
      · try have hne := Nat.ne_of_lt hA.lt
        try have hne := Nat.ne_of_lt hB.lt
        refine any_alloc_has _ rfl (by rfl) 48 rfl (diffC diff0 none 0 none 0) diff_zero (hbr.alloc hbr.size _) ?_
        try simp only [Act.put, List.setIfInBounds_toArray, List.set_cons_zero, List.set_cons_succ]
        obtain ⟨wm, hwm, hNew, hq⟩ := one_var wn 48 (diffC diff0 none 0 none 0)
        rw [hwm]
        have hge : w5.heap.size ≤ wn.heap.size := hbr.size
        try replace hA := hA.later hq
        try replace hB := hB.later hq
        try replace hL2 := hL2.later hq
        try replace hW2 := hW2.later hq
        have hB := hNew
        replace hbr := hbr.trans (hq.mono hbr.size)
        clear hq hwm hNew
        generalize wn.heap.size = ge at *
        obtain ⟨wn, hwn⟩ : ∃ W, W = wm := ⟨_, rfl⟩
        subst hwn
        refine any_one 2 (by kernel_rfl) ?_
        refine any_run _ rfl (fun K hK => ?_)
        go_simp
        refine (hc1 _ hbr).mono ?_
        rintro en wm ⟨lo1, lc1, wo1, wc1, rfl, hG⟩
        have hq := hG.below
        try replace hA := hA.later hq
        try replace hB := hB.later hq
        try replace hL2 := hL2.later hq
        try replace hW2 := hW2.later hq
        replace hbr := hbr.trans (hq.mono hbr.size)
        refine hK.out _ _ hbr ?_
        clear hK K hG hq
        try simp only [Act.put, List.setIfInBounds_toArray, List.set_cons_zero, List.set_cons_succ]
        obtain ⟨wn, hwn⟩ : ∃ W, W = wm := ⟨_, rfl⟩
        subst hwn
        refine any_one 5 (by kernel_rfl) ?_
        refine any_run _ rfl (fun K hK => ?_)
        go_simp
        refine (hc2 _ hbr).mono ?_
        rintro en wm ⟨lo2, lc2, wo2, wc2, rfl, hG⟩
        have hq := hG.below
        have hL2 := hG.sl
        have hW2 := hG.wl
        try replace hA := hA.later hq
        try replace hB := hB.later hq
        replace hbr := hbr.trans (hq.mono hbr.size)
        refine hK.out _ _ hbr ?_
        clear hK K hG hq
        try simp only [Act.put, List.setIfInBounds_toArray, List.set_cons_zero, List.set_cons_succ]
        obtain ⟨wn, hwn⟩ : ∃ W, W = wm := ⟨_, rfl⟩
        subst hwn
        have hne1 : gd ≠ ge := by first | exact hne | exact hne.symm
        have hA1 := hA.row (diffC D1 lo1 lc1 wo1 wc1)
        have hB1 := hB.row_other (k := gd) (fun e => hne1 e.symm) (diffC D1 lo1 lc1 wo1 wc1)
        have hL1 := hL2.row_if (k := gd) (fun d hd hn => absurd hn (by rw [hlog.out]; exact Nat.lt_irrefl 0)) (diffC D1 lo1 lc1 wo1 wc1)
        have hW1 := hW2.row_if (k := gd) (fun d hd hn => absurd hn (by rw [hwlog.out]; exact Nat.lt_irrefl 0)) (diffC D1 lo1 lc1 wo1 wc1)
        have hb1 := below_setRow hbr hgd (diffC D1 lo1 lc1 wo1 wc1)
        refine any_one 8 (by kernel_rfl) ?_
        refine any_store_has _ rfl (by rfl) 48 _ _ rfl gd rfl (diffC D1 lo1 lc1 wo1 wc1) rfl 48 (diffC diff0 none 0 none 0) (diff_size _ _ _ _ _) (diff_same _ _ _ _ _ _ _ _ _ _) (diff_one _ _ _ _ _) hA hb1 ?_
        try simp only [Act.put, List.setIfInBounds_toArray, List.set_cons_zero, List.set_cons_succ]
        generalize wn.setRow gd (diffC D1 lo1 lc1 wo1 wc1) = wz at *
        have hB3 := hB1.row (diffC D2 lo2 lc2 wo2 wc2)
        have hA3 := hA1.row_other (k := ge) hne1 (diffC D2 lo2 lc2 wo2 wc2)
        have hL3 := hL1.row_if (k := ge) (fun d hd hn => absurd hn (by rw [hlog.out]; exact Nat.lt_irrefl 0)) (diffC D2 lo2 lc2 wo2 wc2)
        have hW3 := hW1.row_if (k := ge) (fun d hd hn => absurd hn (by rw [hwlog.out]; exact Nat.lt_irrefl 0)) (diffC D2 lo2 lc2 wo2 wc2)
        have hb3 := below_setRow hb1 hge (diffC D2 lo2 lc2 wo2 wc2)
        refine any_one 9 (by kernel_rfl) ?_
        refine any_store_has _ rfl (by rfl) 48 _ _ rfl ge rfl (diffC D2 lo2 lc2 wo2 wc2) rfl 48 (diffC diff0 none 0 none 0) (diff_size _ _ _ _ _) (diff_same _ _ _ _ _ _ _ _ _ _) (diff_one _ _ _ _ _) hB1 hb3 ?_
        try simp only [Act.put, List.setIfInBounds_toArray, List.set_cons_zero, List.set_cons_succ]
        refine any_done (by kernel_rfl) ?_
        refine mid_done ?_
        exact ⟨gd, ge, lo1, lc1, wo1, wc1, lo2, lc2, wo2, wc2, by simp only [Act.put, List.setIfInBounds_toArray, List.set_cons_zero, List.set_cons_succ] <;> rfl, hA3, hB3, hL3, hW3, hb3⟩
    · try have hne := Nat.ne_of_lt hA.lt
      try have hne := Nat.ne_of_lt hB.lt
      refine any_alloc_has _ rfl (by rfl) 48 rfl (diffC diff0 none 0 none 0) diff_zero (hbr.alloc hbr.size _) ?_
      try simp only [Act.put, List.setIfInBounds_toArray, List.set_cons_zero, List.set_cons_succ]
      obtain ⟨wm, hwm, hNew, hq⟩ := one_var wn 48 (diffC diff0 none 0 none 0)
      rw [hwm]
      have hge : w5.heap.size ≤ wn.heap.size := hbr.size
      try replace hA := hA.later hq
      try replace hB := hB.later hq
      try replace hL2 := hL2.later hq
      try replace hW2 := hW2.later hq
      have hB := hNew
      replace hbr := hbr.trans (hq.mono hbr.size)
      clear hq hwm hNew
      generalize wn.heap.size = ge at *
      obtain ⟨wn, hwn⟩ : ∃ W, W = wm := ⟨_, rfl⟩
      subst hwn
      refine any_two 2 6 (by kernel_rfl) ?_ ?_
      · refine any_run _ rfl (fun K hK => ?_)
        go_simp
        refine (hc1 _ hbr).mono ?_
        rintro en wm ⟨lo1, lc1, wo1, wc1, rfl, hG⟩
        have hq := hG.below
        try replace hA := hA.later hq
        try replace hB := hB.later hq
        try replace hL2 := hL2.later hq
        try replace hW2 := hW2.later hq
        replace hbr := hbr.trans (hq.mono hbr.size)
        refine hK.out _ _ hbr ?_
        clear hK K hG hq
        try simp only [Act.put, List.setIfInBounds_toArray, List.set_cons_zero, List.set_cons_succ]
        obtain ⟨wn, hwn⟩ : ∃ W, W = wm := ⟨_, rfl⟩
        subst hwn
        refine any_two 5 6 (by kernel_rfl) ?_ ?_
        · refine any_run _ rfl (fun K hK => ?_)
          go_simp
          refine (hc2 _ hbr).mono ?_
          rintro en wm ⟨lo2, lc2, wo2, wc2, rfl, hG⟩
          have hq := hG.below
          have hL2 := hG.sl
          have hW2 := hG.wl
          try replace hA := hA.later hq
          try replace hB := hB.later hq
          replace hbr := hbr.trans (hq.mono hbr.size)
          refine hK.out _ _ hbr ?_
          clear hK K hG hq
          try simp only [Act.put, List.setIfInBounds_toArray, List.set_cons_zero, List.set_cons_succ]
          obtain ⟨wn, hwn⟩ : ∃ W, W = wm := ⟨_, rfl⟩
          subst hwn
          refine any_one 6 (by kernel_rfl) ?_
          try have hne := Nat.ne_of_lt hA.lt
          try have hne := Nat.ne_of_lt hB.lt
          refine any_alloc_has _ rfl (by rfl) 48 rfl (diffC diff0 none 0 none 0) diff_zero (hbr.alloc hbr.size _) ?_
          try simp only [Act.put, List.setIfInBounds_toArray, List.set_cons_zero, List.set_cons_succ]
          obtain ⟨wm, hwm, hNew, hq⟩ := one_var wn 48 (diffC diff0 none 0 none 0)
          rw [hwm]
          have hgd : w5.heap.size ≤ wn.heap.size := hbr.size
          try replace hA := hA.later hq
          try replace hB := hB.later hq
          try replace hL2 := hL2.later hq
          try replace hW2 := hW2.later hq
          have hA := hNew
          replace hbr := hbr.trans (hq.mono hbr.size)
          clear hq hwm hNew
          generalize wn.heap.size = gd at *
          obtain ⟨wn, hwn⟩ : ∃ W, W = wm := ⟨_, rfl⟩
          subst hwn
          have hne1 : gd ≠ ge := by first | exact hne | exact hne.symm
          have hA1 := hA.row (diffC D1 lo1 lc1 wo1 wc1)
          have hB1 := hB.row_other (k := gd) (fun e => hne1 e.symm) (diffC D1 lo1 lc1 wo1 wc1)
          have hL1 := hL2.row_if (k := gd) (fun d hd hn => absurd hn (by rw [hlog.out]; exact Nat.lt_irrefl 0)) (diffC D1 lo1 lc1 wo1 wc1)
          have hW1 := hW2.row_if (k := gd) (fun d hd hn => absurd hn (by rw [hwlog.out]; exact Nat.lt_irrefl 0)) (diffC D1 lo1 lc1 wo1 wc1)
          have hb1 := below_setRow hbr hgd (diffC D1 lo1 lc1 wo1 wc1)
          refine any_one 8 (by kernel_rfl) ?_
          refine any_store_has _ rfl (by rfl) 48 _ _ rfl gd rfl (diffC D1 lo1 lc1 wo1 wc1) rfl 48 (diffC diff0 none 0 none 0) (diff_size _ _ _ _ _) (diff_same _ _ _ _ _ _ _ _ _ _) (diff_one _ _ _ _ _) hA hb1 ?_
          try simp only [Act.put, List.setIfInBounds_toArray, List.set_cons_zero, List.set_cons_succ]
          generalize wn.setRow gd (diffC D1 lo1 lc1 wo1 wc1) = wz at *
          have hB3 := hB1.row (diffC D2 lo2 lc2 wo2 wc2)
          have hA3 := hA1.row_other (k := ge) hne1 (diffC D2 lo2 lc2 wo2 wc2)
          have hL3 := hL1.row_if (k := ge) (fun d hd hn => absurd hn (by rw [hlog.out]; exact Nat.lt_irrefl 0)) (diffC D2 lo2 lc2 wo2 wc2)
          have hW3 := hW1.row_if (k := ge) (fun d hd hn => absurd hn (by rw [hwlog.out]; exact Nat.lt_irrefl 0)) (diffC D2 lo2 lc2 wo2 wc2)
          have hb3 := below_setRow hb1 hge (diffC D2 lo2 lc2 wo2 wc2)
          refine any_one 9 (by kernel_rfl) ?_
          refine any_store_has _ rfl (by rfl) 48 _ _ rfl ge rfl (diffC D2 lo2 lc2 wo2 wc2) rfl 48 (diffC diff0 none 0 none 0) (diff_size _ _ _ _ _) (diff_same _ _ _ _ _ _ _ _ _ _) (diff_one _ _ _ _ _) hB1 hb3 ?_
          try simp only [Act.put, List.setIfInBounds_toArray, List.set_cons_zero, List.set_cons_succ]
          refine any_done (by kernel_rfl) ?_
          refine mid_done ?_
          exact ⟨gd, ge, lo1, lc1, wo1, wc1, lo2, lc2, wo2, wc2, by simp only [Act.put, List.setIfInBounds_toArray, List.set_cons_zero, List.set_cons_succ] <;> rfl, hA3, hB3, hL3, hW3, hb3⟩
        · try have hne := Nat.ne_of_lt hA.lt
          try have hne := Nat.ne_of_lt hB.lt
          refine any_alloc_has _ rfl (by rfl) 48 rfl (diffC diff0 none 0 none 0) diff_zero (hbr.alloc hbr.size _) ?_
          try simp only [Act.put, List.setIfInBounds_toArray, List.set_cons_zero, List.set_cons_succ]
          obtain ⟨wm, hwm, hNew, hq⟩ := one_var wn 48 (diffC diff0 none 0 none 0)
          rw [hwm]
          have hgd : w5.heap.size ≤ wn.heap.size := hbr.size
          try replace hA := hA.later hq
          try replace hB := hB.later hq
          try replace hL2 := hL2.later hq
          try replace hW2 := hW2.later hq
          have hA := hNew
          replace hbr := hbr.trans (hq.mono hbr.size)
          clear hq hwm hNew
          generalize wn.heap.size = gd at *
          obtain ⟨wn, hwn⟩ : ∃ W, W = wm := ⟨_, rfl⟩
          subst hwn
          refine any_one 5 (by kernel_rfl) ?_
          refine any_run _ rfl (fun K hK => ?_)
          go_simp
          refine (hc2 _ hbr).mono ?_
          rintro en wm ⟨lo2, lc2, wo2, wc2, rfl, hG⟩
          have hq := hG.below
          have hL2 := hG.sl
          have hW2 := hG.wl
          try replace hA := hA.later hq
          try replace hB := hB.later hq
          replace hbr := hbr.trans (hq.mono hbr.size)
          refine hK.out _ _ hbr ?_
          clear hK K hG hq
          try simp only [Act.put, List.setIfInBounds_toArray, List.set_cons_zero, List.set_cons_succ]
          obtain ⟨wn, hwn⟩ : ∃ W, W = wm := ⟨_, rfl⟩
          subst hwn
          have hne1 : gd ≠ ge := by first | exact hne | exact hne.symm
          have hA1 := hA.row (diffC D1 lo1 lc1 wo1 wc1)
          have hB1 := hB.row_other (k := gd) (fun e => hne1 e.symm) (diffC D1 lo1 lc1 wo1 wc1)
          have hL1 := hL2.row_if (k := gd) (fun d hd hn => absurd hn (by rw [hlog.out]; exact Nat.lt_irrefl 0)) (diffC D1 lo1 lc1 wo1 wc1)
          have hW1 := hW2.row_if (k := gd) (fun d hd hn => absurd hn (by rw [hwlog.out]; exact Nat.lt_irrefl 0)) (diffC D1 lo1 lc1 wo1 wc1)
          have hb1 := below_setRow hbr hgd (diffC D1 lo1 lc1 wo1 wc1)
          refine any_one 8 (by kernel_rfl) ?_
          refine any_store_has _ rfl (by rfl) 48 _ _ rfl gd rfl (diffC D1 lo1 lc1 wo1 wc1) rfl 48 (diffC diff0 none 0 none 0) (diff_size _ _ _ _ _) (diff_same _ _ _ _ _ _ _ _ _ _) (diff_one _ _ _ _ _) hA hb1 ?_
          try simp only [Act.put, List.setIfInBounds_toArray, List.set_cons_zero, List.set_cons_succ]
          generalize wn.setRow gd (diffC D1 lo1 lc1 wo1 wc1) = wz at *
          have hB3 := hB1.row (diffC D2 lo2 lc2 wo2 wc2)
          have hA3 := hA1.row_other (k := ge) hne1 (diffC D2 lo2 lc2 wo2 wc2)
          have hL3 := hL1.row_if (k := ge) (fun d hd hn => absurd hn (by rw [hlog.out]; exact Nat.lt_irrefl 0)) (diffC D2 lo2 lc2 wo2 wc2)
          have hW3 := hW1.row_if (k := ge) (fun d hd hn => absurd hn (by rw [hwlog.out]; exact Nat.lt_irrefl 0)) (diffC D2 lo2 lc2 wo2 wc2)
          have hb3 := below_setRow hb1 hge (diffC D2 lo2 lc2 wo2 wc2)
          refine any_one 9 (by kernel_rfl) ?_
          refine any_store_has _ rfl (by rfl) 48 _ _ rfl ge rfl (diffC D2 lo2 lc2 wo2 wc2) rfl 48 (diffC diff0 none 0 none 0) (diff_size _ _ _ _ _) (diff_same _ _ _ _ _ _ _ _ _ _) (diff_one _ _ _ _ _) hB1 hb3 ?_
          try simp only [Act.put, List.setIfInBounds_toArray, List.set_cons_zero, List.set_cons_succ]
          refine any_done (by kernel_rfl) ?_
          refine mid_done ?_
          exact ⟨gd, ge, lo1, lc1, wo1, wc1, lo2, lc2, wo2, wc2, by simp only [Act.put, List.setIfInBounds_toArray, List.set_cons_zero, List.set_cons_succ] <;> rfl, hA3, hB3, hL3, hW3, hb3⟩
      · try have hne := Nat.ne_of_lt hA.lt
        try have hne := Nat.ne_of_lt hB.lt
        refine any_alloc_has _ rfl (by rfl) 48 rfl (diffC diff0 none 0 none 0) diff_zero (hbr.alloc hbr.size _) ?_
        try simp only [Act.put, List.setIfInBounds_toArray, List.set_cons_zero, List.set_cons_succ]
        obtain ⟨wm, hwm, hNew, hq⟩ := one_var wn 48 (diffC diff0 none 0 none 0)
        rw [hwm]
        have hgd : w5.heap.size ≤ wn.heap.size := hbr.size
        try replace hA := hA.later hq
        try replace hB := hB.later hq
        try replace hL2 := hL2.later hq
        try replace hW2 := hW2.later hq
        have hA := hNew
        replace hbr := hbr.trans (hq.mono hbr.size)
        clear hq hwm hNew
        generalize wn.heap.size = gd at *
        obtain ⟨wn, hwn⟩ : ∃ W, W = wm := ⟨_, rfl⟩
        subst hwn
        refine any_one 2 (by kernel_rfl) ?_
        refine any_run _ rfl (fun K hK => ?_)
        go_simp
        refine (hc1 _ hbr).mono ?_
        rintro en wm ⟨lo1, lc1, wo1, wc1, rfl, hG⟩
        have hq := hG.below
        try replace hA := hA.later hq
        try replace hB := hB.later hq
        try replace hL2 := hL2.later hq
        try replace hW2 := hW2.later hq
        replace hbr := hbr.trans (hq.mono hbr.size)
        refine hK.out _ _ hbr ?_
        clear hK K hG hq
        try simp only [Act.put, List.setIfInBounds_toArray, List.set_cons_zero, List.set_cons_succ]
        obtain ⟨wn, hwn⟩ : ∃ W, W = wm := ⟨_, rfl⟩
        subst hwn
        refine any_one 5 (by kernel_rfl) ?_
        refine any_run _ rfl (fun K hK => ?_)
        go_simp
        refine (hc2 _ hbr).mono ?_
        rintro en wm ⟨lo2, lc2, wo2, wc2, rfl, hG⟩
        have hq := hG.below
        have hL2 := hG.sl
        have hW2 := hG.wl
        try replace hA := hA.later hq
        try replace hB := hB.later hq
        replace hbr := hbr.trans (hq.mono hbr.size)
        refine hK.out _ _ hbr ?_
        clear hK K hG hq
        try simp only [Act.put, List.setIfInBounds_toArray, List.set_cons_zero, List.set_cons_succ]
        obtain ⟨wn, hwn⟩ : ∃ W, W = wm := ⟨_, rfl⟩
        subst hwn
        have hne1 : gd ≠ ge := by first | exact hne | exact hne.symm
        have hA1 := hA.row (diffC D1 lo1 lc1 wo1 wc1)
        have hB1 := hB.row_other (k := gd) (fun e => hne1 e.symm) (diffC D1 lo1 lc1 wo1 wc1)
        have hL1 := hL2.row_if (k := gd) (fun d hd hn => absurd hn (by rw [hlog.out]; exact Nat.lt_irrefl 0)) (diffC D1 lo1 lc1 wo1 wc1)
        have hW1 := hW2.row_if (k := gd) (fun d hd hn => absurd hn (by rw [hwlog.out]; exact Nat.lt_irrefl 0)) (diffC D1 lo1 lc1 wo1 wc1)
        have hb1 := below_setRow hbr hgd (diffC D1 lo1 lc1 wo1 wc1)
        refine any_one 8 (by kernel_rfl) ?_
        refine any_store_has _ rfl (by rfl) 48 _ _ rfl gd rfl (diffC D1 lo1 lc1 wo1 wc1) rfl 48 (diffC diff0 none 0 none 0) (diff_size _ _ _ _ _) (diff_same _ _ _ _ _ _ _ _ _ _) (diff_one _ _ _ _ _) hA hb1 ?_
        try simp only [Act.put, List.setIfInBounds_toArray, List.set_cons_zero, List.set_cons_succ]
        generalize wn.setRow gd (diffC D1 lo1 lc1 wo1 wc1) = wz at *
        have hB3 := hB1.row (diffC D2 lo2 lc2 wo2 wc2)
        have hA3 := hA1.row_other (k := ge) hne1 (diffC D2 lo2 lc2 wo2 wc2)
        have hL3 := hL1.row_if (k := ge) (fun d hd hn => absurd hn (by rw [hlog.out]; exact Nat.lt_irrefl 0)) (diffC D2 lo2 lc2 wo2 wc2)
        have hW3 := hW1.row_if (k := ge) (fun d hd hn => absurd hn (by rw [hwlog.out]; exact Nat.lt_irrefl 0)) (diffC D2 lo2 lc2 wo2 wc2)
        have hb3 := below_setRow hb1 hge (diffC D2 lo2 lc2 wo2 wc2)
        refine any_one 9 (by kernel_rfl) ?_
        refine any_store_has _ rfl (by rfl) 48 _ _ rfl ge rfl (diffC D2 lo2 lc2 wo2 wc2) rfl 48 (diffC diff0 none 0 none 0) (diff_size _ _ _ _ _) (diff_same _ _ _ _ _ _ _ _ _ _) (diff_one _ _ _ _ _) hB1 hb3 ?_
        try simp only [Act.put, List.setIfInBounds_toArray, List.set_cons_zero, List.set_cons_succ]
        refine any_done (by kernel_rfl) ?_
        refine mid_done ?_
        exact ⟨gd, ge, lo1, lc1, wo1, wc1, lo2, lc2, wo2, wc2, by simp only [Act.put, List.setIfInBounds_toArray, List.set_cons_zero, List.set_cons_succ] <;> rfl, hA3, hB3, hL3, hW3, hb3⟩
  case hrest =>
    rintro _ w6 ⟨gd, ge, lo1, lc1, wo1, wc1, lo2, lc2, wo2, wc2, rfl, hA, hB, hL2, hW2, hq⟩
    try simp only [Act.put, List.setIfInBounds_toArray, List.set_cons_zero, List.set_cons_succ]
    replace hS8 := hS8.later hq
    replace hT8 := hT8.later hq
    replace hX := hX.later hq
    replace hY := hY.later hq
    replace hb := hb.trans (hq.mono hb.size)
    clear hq F8 hbr hc1 hc2
    go_wp2_with (first
      | (refine wpList_load_has (by rfl) 42 _ rfl (gs) rfl 42 (stC S ro rc) _ Try.underlying42 rfl (st_size _ _ _) ?hg ?_; (case hg => exact hX))
      | (refine wpList_load_has (by rfl) 48 _ rfl (ge) rfl 48 (diffC D2 lo2 lc2 wo2 wc2) _ Try.underlying48 rfl (diff_size _ _ _ _ _) ?hg ?_; (case hg => exact hB))
      | fail)
    refine (apply_any S D2 ro lo2 wo2 rc lc2 wc2 _ hSo hD2o hS8 hL2 hW2).mono ?_
    rintro en w7 ⟨xo, xc, rfl, hG⟩
    rw [happ.out] at hG
    rw [happ.out]
    have hV8 := hG.sl
    replace hT8 := hT8.later hG.below
    replace hY := hY.later hG.below
    replace hA := hA.later hG.below
    replace hB := hB.later hG.below
    replace hb := hb.trans (hG.below.mono hb.size)
    clear hG happ hL2 hW2
    obtain ⟨w8, hw8, hV, hq⟩ := new_var w7 42 (stC st0 none 0) (stC T xo xc)
    replace hT8 := hT8.later hq
    replace hY := hY.later hq
    replace hA := hA.later hq
    replace hB := hB.later hq
    replace hV8 := hV8.later hq
    replace hb := hb.trans (hq.mono hb.size)
    clear hq
    have a0 := hA.d_kind
    have a1 := hA.d_from
    have a2 := hA.d_log
    rw [hk1.out] at a0
    rw [hf1.out] at a1
    rw [hl1.out] at a2
    go_wp2_with (first
      | (refine wpList_alloc_has (by rfl) 42 rfl (stC st0 none 0) st_zero ?_)
      | (refine wpList_store_to (by rfl) 42 _ _ rfl w7.heap.size rfl (stC T xo xc) rfl 42 (stC st0 none 0) (st_size _ _ _) (st_same _ _ _ _ _ _) (st_one _ _ _) ?hg w8 ?hW ?_; (case hg => exact Has.new _ _ _); (case hW => exact hw8); clear hw8; generalize w7.heap.size = gv at *)
      | (refine wpList_load_has (by rfl) 48 _ rfl (gd) rfl 48 (diffC D1 lo1 lc1 wo1 wc1) _ Try.underlying48 rfl (diff_size _ _ _ _ _) ?hg ?_; (case hg => exact hA))
      | fail)
    refine (bytes_any D1 lo1 wo1 lc1 wc1 _ hD1o).mono ?_
    rintro en w9 ⟨rfl, hq⟩
    rw [hb1.out]
    replace hT8 := hT8.later hq
    replace hY := hY.later hq
    replace hB := hB.later hq
    replace hV := hV.later hq
    replace hV8 := hV8.later hq
    replace hb := hb.trans (hq.mono hb.size)
    clear hq a0 a1 a2 hA
    have b0 := hB.d_kind
    have b2 := hB.d_log
    rw [hl2.out] at b2
    have hkI : D2.kind ≤ 1 := hk2.out
    go_wp2_with (first
      | (refine wpList_load_has (by rfl) 42 _ rfl (gv) rfl 42 (stC T xo xc) _ Try.underlying42 rfl (st_size _ _ _) ?hg ?_; (case hg => exact hV))
      | (refine wpList_load_has (by rfl) 42 _ rfl (gs + 1) rfl 42 (stC T so sc) _ Try.underlying42 rfl (st_size _ _ _) ?hg ?_; (case hg => exact hY))
      | fail)
    refine (same_any T T xo so xc sc _ hTo hTo hV8 hT8).mono ?_
    rintro en w10 ⟨rfl, hq⟩
    rw [same_self]
    replace hb := hb.trans (hq.mono hb.size)
    clear hq
    go_wp2_with fail
    go_ret
    exact ⟨rfl, hb⟩
end Go.Proofs.Ytphlfepgaghhhab
