/- MergeBack, walked. -/
import Derived.Test.YtphlfepgaghhhaaMergeKnown
import Derived.Test.YtphlfepgaghhhaaMergeState
import Derived.Test.YtphlfepgaghhhaaOnlyFacts
import Derived.Test.YtphlfepgaghhhaaAny
namespace Go.Proofs.Ytphlfepgaghhhaa
set_option linter.unusedSimpArgs false
set_option linter.unusedVariables false
set_option maxRecDepth 100000
open Go.RowKit

theorem two_new8 (w : World) (t u : TypeId) (z y c d : Array Value) : ∃ w1 w2 w3, (w.alloc (.cells z t)).alloc (.cells y u) = w1 ∧ w1.setRow w.heap.size c = w2 ∧ w2.setRow (w.heap.size + 1) d = w3 ∧ Has w1 w.heap.size t z ∧ Has w2 (w.heap.size + 1) u y ∧ Has w3 w.heap.size t c ∧ Has w3 (w.heap.size + 1) u d ∧ Below w.heap.size w w3 := by
  obtain ⟨w1, hw1, hA, hB, hb⟩ := two_vars w t u z y
  refine ⟨w1, _, _, hw1, rfl, rfl, hA, hB.row_other (by omega) _, (hA.row _).row_other (by omega) _, (hB.row_other (by omega) _).row _, below_setRow (below_setRow hb (Nat.le_refl _) _) (by omega) _⟩

/-- What MergeBack asks of what is made. -/
structure Backed (T : StV) (D : DiffV) : Prop where
  num : D.kind = 1 → T.tail.n + T.log.length = D.fr + D.log.length
  len : D.kind = 2 ∨ D.whole.log.length = 0 ∧ bytesM D ≤ T.log.length
theorem theres0 : theres base0 6 = 0 := rfl
theorem backed {S T : StV} (hS : isM S = true) (hT : isM T = true) : Backed T (makeM S T) := by
  have hle := shared_le S T.log
  unfold makeM
  rw [if_neg (by rw [hS, hT]; simp)]
  split
  · exact ⟨(fun h => by cases h), .inr ⟨rfl, by show 0 + 0 + theres base0 6 ≤ _; rw [theres0]; omega⟩⟩
  · split
    · refine ⟨fun _ => ?_, .inr ⟨rfl, ?_⟩⟩
      · show _ = T.tail.n + sharedN S T.log + (T.log.drop (sharedN S T.log)).length
        rw [List.length_drop]
        omega
      · show (T.log.drop (sharedN S T.log)).length + 0 + theres base0 6 ≤ _
        rw [theres0, List.length_drop]
        omega
    · exact ⟨(fun h => by cases h), .inl rfl⟩

set_option maxHeartbeats 8000000 in
theorem back_walk (ao bo co : Option Addr) (c d f i k p q : Nat) (l a b : List OpV) (w : World) (h : Sl w ao c 6 (opR l)) (h' : Sl w bo d 6 (opR a)) (h'' : Sl w co f 6 (opR b)) (hl : ∀ x ∈ l, OpOk x) (ha : ∀ x ∈ a, OpOk x) (hb' : ∀ x ∈ b, OpOk x) (hi : i < 4294967296) (hk : k < 4294967296) (hp : p < 256) (hq' : q < 256) :
    Calls Try.prog 5 #[.slice ao l.length c, .slice bo a.length d, .slice co b.length f, .int .u32 (i : Int), .int .u32 (k : Int), .int .u8 (p : Int), .int .u8 (q : Int)] w fun e w' => e = .returned (.bool true) ∧ Below w.heap.size w w' := by
  have hle := h.op_len
  have hcap := h.cap
  have hle' := h'.op_len
  have hcap' := h'.cap
  have hle'' := h''.op_len
  have hcap'' := h''.cap
  go_enter Try.func5, Try.ntmps5
  go_wp2_with fail
  refine (known8_any _).mono ?_
  rintro e w1 ⟨rfl, hb⟩
  by_cases h10 : 20 < l.length
  · have hI : (20 : Int) < (l.length : Int) := by omega
    go_wp2
    go_ret
    exact ⟨rfl, hb⟩
  have hI : ¬ (20 : Int) < (l.length : Int) := by omega
  by_cases h3 : 10 < a.length
  · have hJ : (10 : Int) < (a.length : Int) := by omega
    go_wp2
    go_ret
    exact ⟨rfl, hb⟩
  have hJ : ¬ (10 : Int) < (a.length : Int) := by omega
  by_cases h4 : 10 < b.length
  · have hK : (10 : Int) < (b.length : Int) := by omega
    go_wp2
    go_ret
    exact ⟨rfl, hb⟩
  have hK : ¬ (10 : Int) < (b.length : Int) := by omega
  have hst1 := fun W (hW : Below w.heap.size w W) => state_any ao bo c d i p i l a W (h.later hW) (h'.later hW) hl ha (by omega) (by omega) hi hp hi
  have hst2 := fun W (hW : Below w.heap.size w W) => state_any ao co c f k q k l b W (h.later hW) (h''.later hW) hl hb' (by omega) (by omega) hk hq' hk
  have hSo : StOk (stM l a i p i) := stM_ok hl ha (by omega) (by omega)
  have hTo : StOk (stM l b k q k) := stM_ok hl hb' (by omega) (by omega)
  have hSi : isM (stM l a i p i) = true := stM_is hl ha (by omega) (by omega)
  have hTi : isM (stM l b k q k) = true := stM_is hl hb' (by omega) (by omega)
  generalize stM l a i p i = S at *
  generalize stM l b k q k = T at *
  have hBk := backed hSi hTi
  have happ1 : Hid _ := apply_make hSi hTi
  have happ2 : Hid _ := apply_make hTi hSi
  have hhd : Hid (headM T = ((headE T).since, T.tail.n + T.log.length)) := by show _ = _; rw [head_yes hTi, head_num hTi]
  have hlt32 := last_lt hTo hTi
  have hlen6 := ((is_is T).1 hTi).2.2.2.1
  clear hSi hTi
  go_wp2_with fail
  refine (hst1 _ hb).mono ?_
  rintro en w2 ⟨ro, rc, rfl, hG⟩
  have hS8 := hG.sl
  replace hb := hb.trans (hG.below.mono hb.size)
  clear hG hst1
  go_wp2_with fail
  refine (hst2 _ hb).mono ?_
  rintro en w3 ⟨so, sc, rfl, hG⟩
  have hT8 := hG.sl
  replace hS8 := hS8.later hG.below
  replace hb := hb.trans (hG.below.mono hb.size)
  clear hG hst2
  obtain ⟨w4, w5, w6, hw4, hw5, hw6, hA0, hB0, hX, hY, hq⟩ := two_new8 w3 40 40 (stC st0 none 0) (stC st0 none 0) (stC S ro rc) (stC T so sc)
  replace hS8 := hS8.later hq
  replace hT8 := hT8.later hq
  replace hb := hb.trans (hq.mono hb.size)
  clear hq
  go_wp2_with (first
    | (refine wpList_alloc_has (by rfl) 40 rfl (stC st0 none 0) st_zero ?_; try rw [alloc_size]; try rw [hw4])
    | (refine wpList_store_to (by rfl) 40 _ _ rfl (w3.heap.size) rfl (stC S ro rc) rfl 40 (stC st0 none 0) (st_size _ _ _) (st_same _ _ _ _ _ _) (st_one _ _ _) ?hg w5 ?hW ?_; (case hg => exact hA0); (case hW => exact hw5))
    | (refine wpList_store_to (by rfl) 40 _ _ rfl (w3.heap.size + 1) rfl (stC T so sc) rfl 40 (stC st0 none 0) (st_size _ _ _) (st_same _ _ _ _ _ _) (st_one _ _ _) ?hg w6 ?hW ?_; (case hg => exact hB0); (case hW => exact hw6))
    | (refine wpList_load_has (by rfl) 40 _ rfl (w3.heap.size) rfl 40 (stC S ro rc) _ Try.underlying40 rfl (st_size _ _ _) ?hg ?_; (case hg => exact hX))
    | (refine wpList_load_has (by rfl) 40 _ rfl (w3.heap.size + 1) rfl 40 (stC T so sc) _ Try.underlying40 rfl (st_size _ _ _) ?hg ?_; (case hg => exact hY))
    | fail)
  clear hw4 hw5 hw6 hA0 hB0
  refine (make_any S T ro so rc sc _ hSo hTo hS8 hT8).mono ?_
  rintro en w10 ⟨lo, lc, wo, wc, rfl, hG⟩
  have hDl := hG.sl
  have hDw := hG.wl
  have hDo := make_fit hSo hTo
  replace hS8 := hS8.later hG.below
  replace hT8 := hT8.later hG.below
  replace hX := hX.later hG.below
  replace hY := hY.later hG.below
  replace hb := hb.trans (hG.below.mono hb.size)
  clear hG
  generalize w3.heap.size = gs at *
  generalize makeM S T = D at *
  obtain ⟨w11, hw11, hD, hq⟩ := new_var w10 61 (diffC diff0 none 0 none 0) (diffC D lo lc wo wc)
  replace hS8 := hS8.later hq
  replace hT8 := hT8.later hq
  replace hX := hX.later hq
  replace hY := hY.later hq
  replace hDl := hDl.later hq
  replace hDw := hDw.later hq
  replace hb := hb.trans (hq.mono hb.size)
  clear hq
  go_wp2_with (first
    | (refine wpList_alloc_has (by rfl) 61 rfl (diffC diff0 none 0 none 0) diff_zero ?_)
    | (refine wpList_store_to (by rfl) 61 _ _ rfl w10.heap.size rfl (diffC D lo lc wo wc) rfl 61 (diffC diff0 none 0 none 0) (diff_size _ _ _ _ _) (diff_same _ _ _ _ _ _ _ _ _ _) (diff_one _ _ _ _ _) ?hg w11 ?hW ?_; (case hg => exact Has.new _ _ _); (case hW => exact hw11); clear hw11; generalize w10.heap.size = gd at *)
    | (refine wpList_load_has (by rfl) 40 _ rfl (gs) rfl 40 (stC S ro rc) _ Try.underlying40 rfl (st_size _ _ _) ?hg ?_; (case hg => exact hX))
    | (refine wpList_load_has (by rfl) 61 _ rfl (gd) rfl 61 (diffC D lo lc wo wc) _ Try.underlying61 rfl (diff_size _ _ _ _ _) ?hg ?_; (case hg => exact hD))
    | fail)
  refine (apply_any S D ro lo wo rc lc wc _ hSo hDo hS8 hDl hDw).mono ?_
  rintro en w12 ⟨xo, xc, rfl, hG⟩
  rw [happ1.out] at hG
  rw [happ1.out]
  have hX8 := hG.sl
  replace hS8 := hS8.later hG.below
  replace hT8 := hT8.later hG.below
  replace hX := hX.later hG.below
  replace hY := hY.later hG.below
  replace hD := hD.later hG.below
  replace hb := hb.trans (hG.below.mono hb.size)
  clear hG hDl hDw happ1
  obtain ⟨w13, hw13, hU, hq⟩ := new_var w12 40 (stC st0 none 0) (stC T xo xc)
  replace hS8 := hS8.later hq
  replace hT8 := hT8.later hq
  replace hX := hX.later hq
  replace hY := hY.later hq
  replace hD := hD.later hq
  replace hX8 := hX8.later hq
  replace hb := hb.trans (hq.mono hb.size)
  clear hq
  go_wp2_with (first
    | (refine wpList_alloc_has (by rfl) 40 rfl (stC st0 none 0) st_zero ?_)
    | (refine wpList_store_to (by rfl) 40 _ _ rfl w12.heap.size rfl (stC T xo xc) rfl 40 (stC st0 none 0) (st_size _ _ _) (st_same _ _ _ _ _ _) (st_one _ _ _) ?hg w13 ?hW ?_; (case hg => exact Has.new _ _ _); (case hW => exact hw13); clear hw13; generalize w12.heap.size = gu at *)
    | fail)
  have hP := hY
  have hQ := hX
  have hPo := hTo
  have hQo := hSo
  have hP8 := hT8
  have hQ8 := hS8
  have happ := happ2
  let F8 : Act → Act → World → Prop := fun a a' w' => ∃ (gx : Nat) (xo : Option Addr) (xc : Nat) (lo : Option Addr) (lc : Nat) (wo : Option Addr) (wc : Nat), a' = (((((((((a.put (some 61) (.agg (stC T so sc))).put (some 62) (.agg (stC T so sc))).put (some 63) (.agg (stC S ro rc))).put (some 64) (.agg (diffC (makeM T S) lo lc wo wc))).put (some 65) (.tuple #[.agg (stC S xo xc), .int .i64 ((0 : Nat) : Int)])).put (some 60) (.tuple #[.agg (stC S xo xc), .int .i64 ((0 : Nat) : Int)])).put (some 66) (.agg (stC S xo xc))).put (some 67) (.int .i64 ((0 : Nat) : Int))).put (some 20) (.pointer (some ⟨gx, 0, none⟩))).put (some 21) (.int .i64 ((0 : Nat) : Int)) ∧ Has w' gx 40 (stC S xo xc) ∧ Sl w' xo xc 8 (entR S.log) ∧ Below w13.heap.size w13 w'
  have hbr : Below w13.heap.size w13 w13.drew := (Below.refl _ _).drew
  have hLP := hP
  have hLQ := hQ
  refine wp_region_plan_mid (fun W => Below w13.heap.size w13 W) (Plan.of [(0, true), (1, true), (2, true)] (.either 3 (.either 4 (Plan.of [(5, true), (6, true), (7, true), (8, false), (9, false), (10, true)] .done) 8 (Plan.of [(4, false), (5, true), (6, true), (7, true), (9, false), (10, true)] .done)) 8 (Plan.of [(3, false), (4, false), (5, true), (6, true), (7, true), (9, false), (10, true)] .done))) F8 (by kernel_rfl) (by kernel_rfl) (by kernel_rfl) (by kernel_rfl) hbr ?hplan ?hrest
  case hplan =>
    refine plan_take _ _ rfl (yields_load_has (by rfl) 40 _ rfl (gs + 1) rfl 40 (stC T so sc) _ Try.underlying40 rfl (st_size _ _ _) (fun W hW => hP.later hW)) ?_
    try simp only [Act.put, List.setIfInBounds_toArray, List.set_cons_zero, List.set_cons_succ]
    refine plan_take _ _ rfl (yields_load_has (by rfl) 40 _ rfl (gs + 1) rfl 40 (stC T so sc) _ Try.underlying40 rfl (st_size _ _ _) (fun W hW => hP.later hW)) ?_
    try simp only [Act.put, List.setIfInBounds_toArray, List.set_cons_zero, List.set_cons_succ]
    refine plan_take _ _ rfl (yields_load_has (by rfl) 40 _ rfl (gs) rfl 40 (stC S ro rc) _ Try.underlying40 rfl (st_size _ _ _) (fun W hW => hQ.later hW)) ?_
    try simp only [Act.put, List.setIfInBounds_toArray, List.set_cons_zero, List.set_cons_succ]
    generalize w13.drew = wn at *
    refine plan_either ?_ ?_
    · refine plan_run _ rfl (fun K hK => ?_)
      go_simp
      refine (make_any T S so ro sc rc _ hPo hQo (hP8.later hbr) (hQ8.later hbr)).mono ?_
      rintro en wm ⟨lo, lc, wo, wc, rfl, hG⟩
      have hq := hG.below
      have hDl := hG.sl
      have hDw := hG.wl
      try replace hV := hV.later hq
      replace hbr := hbr.trans (hq.mono hbr.size)
      refine hK.out _ _ hbr ?_
      clear hK K hG hq
      try simp only [Act.put, List.setIfInBounds_toArray, List.set_cons_zero, List.set_cons_succ]
      obtain ⟨wn, hwn⟩ : ∃ W, W = wm := ⟨_, rfl⟩
      subst hwn
      refine plan_either ?_ ?_
      · refine plan_run _ rfl (fun K hK => ?_)
        go_simp
        refine (apply_any T (makeM T S) so lo wo sc lc wc _ hPo (make_fit hPo hQo) (hP8.later hbr) hDl hDw).mono ?_
        rintro en wm ⟨xo, xc, rfl, hG⟩
        rw [happ.out] at hG
        rw [happ.out]
        have hq := hG.below
        have hV8 := hG.sl
        try have hnx : ∀ d, xo = some d → 0 < (entR (S).log).length → d.block ≠ gx := fun d hd _ => by have := hG.new d hd; have := hV.lt; omega
        try replace hV := hV.later hq
        replace hbr := hbr.trans (hq.mono hbr.size)
        refine hK.out _ _ hbr ?_
        clear hK K hG hq
        try simp only [Act.put, List.setIfInBounds_toArray, List.set_cons_zero, List.set_cons_succ]
        obtain ⟨wn, hwn⟩ : ∃ W, W = wm := ⟨_, rfl⟩
        subst hwn
        iterate 3
          first
            | (refine plan_pass _ rfl (by rfl) ?_)
            | (refine plan_take _ _ rfl (.inl ⟨by rfl, fun W hS => by clear hS; go_simp; try with_reducible rfl⟩) ?_)
          try simp only [Act.put, List.setIfInBounds_toArray, List.set_cons_zero, List.set_cons_succ]
        try have hnx : ∀ d, xo = some d → 0 < (entR (S).log).length → d.block ≠ wn.heap.size := fun d hd hn => by subst hd; have := Sl.block_lt hV8 hn (by decide); omega
        refine plan_alloc_has _ rfl (by rfl) 40 rfl (stC st0 none 0) st_zero (hbr.alloc hbr.size _) ?_
        try simp only [Act.put, List.setIfInBounds_toArray, List.set_cons_zero, List.set_cons_succ]
        obtain ⟨wm, hwm, hV, hq⟩ := one_var wn 40 (stC st0 none 0)
        rw [hwm]
        have hgx : w13.heap.size ≤ wn.heap.size := hbr.size
        try replace hDl := hDl.later hq
        try replace hDw := hDw.later hq
        try replace hV8 := hV8.later hq
        replace hbr := hbr.trans (hq.mono hbr.size)
        clear hq hwm
        generalize wn.heap.size = gx at *
        obtain ⟨wn, hwn⟩ : ∃ W, W = wm := ⟨_, rfl⟩
        subst hwn
        have hz := hV.row (stC (S) xo xc)
        have hsl := hV8.row_if hnx (stC (S) xo xc)
        have hbz := below_setRow hbr hgx (stC (S) xo xc)
        refine plan_store_has _ rfl (by rfl) 40 _ _ rfl gx rfl (stC (S) xo xc) rfl 40 (stC st0 none 0) (st_size _ _ _) (st_same _ _ _ _ _ _) (st_one _ _ _) hV hbz ?_
        try simp only [Act.put, List.setIfInBounds_toArray, List.set_cons_zero, List.set_cons_succ]
        iterate 1
          first
            | (refine plan_pass _ rfl (by rfl) ?_)
            | (refine plan_take _ _ rfl (.inl ⟨by rfl, fun W hS => by clear hS; go_simp; try with_reducible rfl⟩) ?_)
          try simp only [Act.put, List.setIfInBounds_toArray, List.set_cons_zero, List.set_cons_succ]
        refine plan_done ?_
        refine mid_done ?_
        exact ⟨gx, xo, xc, lo, lc, wo, wc, by simp only [Act.put, List.setIfInBounds_toArray, List.set_cons_zero, List.set_cons_succ] <;> rfl, hz, hsl, hbz⟩
      · try have hnx : ∀ d, xo = some d → 0 < (entR (S).log).length → d.block ≠ wn.heap.size := fun d hd hn => by subst hd; have := Sl.block_lt hV8 hn (by decide); omega
        refine plan_alloc_has _ rfl (by rfl) 40 rfl (stC st0 none 0) st_zero (hbr.alloc hbr.size _) ?_
        try simp only [Act.put, List.setIfInBounds_toArray, List.set_cons_zero, List.set_cons_succ]
        obtain ⟨wm, hwm, hV, hq⟩ := one_var wn 40 (stC st0 none 0)
        rw [hwm]
        have hgx : w13.heap.size ≤ wn.heap.size := hbr.size
        try replace hDl := hDl.later hq
        try replace hDw := hDw.later hq
        try replace hV8 := hV8.later hq
        replace hbr := hbr.trans (hq.mono hbr.size)
        clear hq hwm
        generalize wn.heap.size = gx at *
        obtain ⟨wn, hwn⟩ : ∃ W, W = wm := ⟨_, rfl⟩
        subst hwn
        refine plan_run _ rfl (fun K hK => ?_)
        go_simp
        refine (apply_any T (makeM T S) so lo wo sc lc wc _ hPo (make_fit hPo hQo) (hP8.later hbr) hDl hDw).mono ?_
        rintro en wm ⟨xo, xc, rfl, hG⟩
        rw [happ.out] at hG
        rw [happ.out]
        have hq := hG.below
        have hV8 := hG.sl
        try have hnx : ∀ d, xo = some d → 0 < (entR (S).log).length → d.block ≠ gx := fun d hd _ => by have := hG.new d hd; have := hV.lt; omega
        try replace hV := hV.later hq
        replace hbr := hbr.trans (hq.mono hbr.size)
        refine hK.out _ _ hbr ?_
        clear hK K hG hq
        try simp only [Act.put, List.setIfInBounds_toArray, List.set_cons_zero, List.set_cons_succ]
        obtain ⟨wn, hwn⟩ : ∃ W, W = wm := ⟨_, rfl⟩
        subst hwn
        iterate 3
          first
            | (refine plan_pass _ rfl (by rfl) ?_)
            | (refine plan_take _ _ rfl (.inl ⟨by rfl, fun W hS => by clear hS; go_simp; try with_reducible rfl⟩) ?_)
          try simp only [Act.put, List.setIfInBounds_toArray, List.set_cons_zero, List.set_cons_succ]
        have hz := hV.row (stC (S) xo xc)
        have hsl := hV8.row_if hnx (stC (S) xo xc)
        have hbz := below_setRow hbr hgx (stC (S) xo xc)
        refine plan_store_has _ rfl (by rfl) 40 _ _ rfl gx rfl (stC (S) xo xc) rfl 40 (stC st0 none 0) (st_size _ _ _) (st_same _ _ _ _ _ _) (st_one _ _ _) hV hbz ?_
        try simp only [Act.put, List.setIfInBounds_toArray, List.set_cons_zero, List.set_cons_succ]
        iterate 1
          first
            | (refine plan_pass _ rfl (by rfl) ?_)
            | (refine plan_take _ _ rfl (.inl ⟨by rfl, fun W hS => by clear hS; go_simp; try with_reducible rfl⟩) ?_)
          try simp only [Act.put, List.setIfInBounds_toArray, List.set_cons_zero, List.set_cons_succ]
        refine plan_done ?_
        refine mid_done ?_
        exact ⟨gx, xo, xc, lo, lc, wo, wc, by simp only [Act.put, List.setIfInBounds_toArray, List.set_cons_zero, List.set_cons_succ] <;> rfl, hz, hsl, hbz⟩
    · try have hnx : ∀ d, xo = some d → 0 < (entR (S).log).length → d.block ≠ wn.heap.size := fun d hd hn => by subst hd; have := Sl.block_lt hV8 hn (by decide); omega
      refine plan_alloc_has _ rfl (by rfl) 40 rfl (stC st0 none 0) st_zero (hbr.alloc hbr.size _) ?_
      try simp only [Act.put, List.setIfInBounds_toArray, List.set_cons_zero, List.set_cons_succ]
      obtain ⟨wm, hwm, hV, hq⟩ := one_var wn 40 (stC st0 none 0)
      rw [hwm]
      have hgx : w13.heap.size ≤ wn.heap.size := hbr.size
      try replace hDl := hDl.later hq
      try replace hDw := hDw.later hq
      try replace hV8 := hV8.later hq
      replace hbr := hbr.trans (hq.mono hbr.size)
      clear hq hwm
      generalize wn.heap.size = gx at *
      obtain ⟨wn, hwn⟩ : ∃ W, W = wm := ⟨_, rfl⟩
      subst hwn
      refine plan_run _ rfl (fun K hK => ?_)
      go_simp
      refine (make_any T S so ro sc rc _ hPo hQo (hP8.later hbr) (hQ8.later hbr)).mono ?_
      rintro en wm ⟨lo, lc, wo, wc, rfl, hG⟩
      have hq := hG.below
      have hDl := hG.sl
      have hDw := hG.wl
      try replace hV := hV.later hq
      replace hbr := hbr.trans (hq.mono hbr.size)
      refine hK.out _ _ hbr ?_
      clear hK K hG hq
      try simp only [Act.put, List.setIfInBounds_toArray, List.set_cons_zero, List.set_cons_succ]
      obtain ⟨wn, hwn⟩ : ∃ W, W = wm := ⟨_, rfl⟩
      subst hwn
      refine plan_run _ rfl (fun K hK => ?_)
      go_simp
      refine (apply_any T (makeM T S) so lo wo sc lc wc _ hPo (make_fit hPo hQo) (hP8.later hbr) hDl hDw).mono ?_
      rintro en wm ⟨xo, xc, rfl, hG⟩
      rw [happ.out] at hG
      rw [happ.out]
      have hq := hG.below
      have hV8 := hG.sl
      try have hnx : ∀ d, xo = some d → 0 < (entR (S).log).length → d.block ≠ gx := fun d hd _ => by have := hG.new d hd; have := hV.lt; omega
      try replace hV := hV.later hq
      replace hbr := hbr.trans (hq.mono hbr.size)
      refine hK.out _ _ hbr ?_
      clear hK K hG hq
      try simp only [Act.put, List.setIfInBounds_toArray, List.set_cons_zero, List.set_cons_succ]
      obtain ⟨wn, hwn⟩ : ∃ W, W = wm := ⟨_, rfl⟩
      subst hwn
      iterate 3
        first
          | (refine plan_pass _ rfl (by rfl) ?_)
          | (refine plan_take _ _ rfl (.inl ⟨by rfl, fun W hS => by clear hS; go_simp; try with_reducible rfl⟩) ?_)
        try simp only [Act.put, List.setIfInBounds_toArray, List.set_cons_zero, List.set_cons_succ]
      have hz := hV.row (stC (S) xo xc)
      have hsl := hV8.row_if hnx (stC (S) xo xc)
      have hbz := below_setRow hbr hgx (stC (S) xo xc)
      refine plan_store_has _ rfl (by rfl) 40 _ _ rfl gx rfl (stC (S) xo xc) rfl 40 (stC st0 none 0) (st_size _ _ _) (st_same _ _ _ _ _ _) (st_one _ _ _) hV hbz ?_
      try simp only [Act.put, List.setIfInBounds_toArray, List.set_cons_zero, List.set_cons_succ]
      iterate 1
        first
          | (refine plan_pass _ rfl (by rfl) ?_)
          | (refine plan_take _ _ rfl (.inl ⟨by rfl, fun W hS => by clear hS; go_simp; try with_reducible rfl⟩) ?_)
        try simp only [Act.put, List.setIfInBounds_toArray, List.set_cons_zero, List.set_cons_succ]
      refine plan_done ?_
      refine mid_done ?_
      exact ⟨gx, xo, xc, lo, lc, wo, wc, by simp only [Act.put, List.setIfInBounds_toArray, List.set_cons_zero, List.set_cons_succ] <;> rfl, hz, hsl, hbz⟩
  case hrest =>
    rintro _ w14 ⟨gx, yo, yc, lo2, lc2, wo2, wc2, rfl, hV, hV8, hq⟩
    try simp only [Act.put, List.setIfInBounds_toArray, List.set_cons_zero, List.set_cons_succ]
    replace hS8 := hS8.later hq
    replace hT8 := hT8.later hq
    replace hX := hX.later hq
    replace hY := hY.later hq
    replace hD := hD.later hq
    replace hU := hU.later hq
    replace hX8 := hX8.later hq
    replace hb := hb.trans (hq.mono hb.size)
    clear hq F8 hP hQ hP8 hQ8 hPo hQo happ happ2
    generalize makeM T S = D2 at *
    go_wp2_with (first
      | (refine wpList_load_has (by rfl) 40 _ rfl (gu) rfl 40 (stC T xo xc) _ Try.underlying40 rfl (st_size _ _ _) ?hg ?_; (case hg => exact hU))
      | (refine wpList_load_has (by rfl) 40 _ rfl (gs + 1) rfl 40 (stC T so sc) _ Try.underlying40 rfl (st_size _ _ _) ?hg ?_; (case hg => exact hY))
      | fail)
    refine (same_any T T xo so xc sc _ hTo hTo hX8 hT8).mono ?_
    rintro en w15 ⟨rfl, hq⟩
    rw [same_self]
    replace hS8 := hS8.later hq
    replace hT8 := hT8.later hq
    replace hX := hX.later hq
    replace hY := hY.later hq
    replace hD := hD.later hq
    replace hV := hV.later hq
    replace hV8 := hV8.later hq
    replace hb := hb.trans (hq.mono hb.size)
    clear hq hU hX8
    go_wp2_with (first
      | (refine wpList_load_has (by rfl) 40 _ rfl (gx) rfl 40 (stC S yo yc) _ Try.underlying40 rfl (st_size _ _ _) ?hg ?_; (case hg => exact hV))
      | (refine wpList_load_has (by rfl) 40 _ rfl (gs) rfl 40 (stC S ro rc) _ Try.underlying40 rfl (st_size _ _ _) ?hg ?_; (case hg => exact hX))
      | fail)
    refine (same_any S S yo ro yc rc _ hSo hSo hV8 hS8).mono ?_
    rintro en w16 ⟨rfl, hq⟩
    rw [same_self]
    replace hT8 := hT8.later hq
    replace hY := hY.later hq
    replace hD := hD.later hq
    replace hb := hb.trans (hq.mono hb.size)
    clear hq hV hV8 hX hS8
    have k0 := hD.d_kind
    by_cases hk1 : D.kind = 1
    · have i1 : (D.kind == 1) = true := by rw [hk1]; rfl
      have i2 : (D.kind == 2) = false := by rw [hk1]; rfl
      have hnum : Hid _ := hBk.num hk1
      have hlen : Hid _ := (hBk.len.resolve_left (by rw [hk1]; decide))
      clear hk1 hBk
      go_wp2_with (first
        | (refine wpList_load_has (by rfl) 40 _ rfl (gs + 1) rfl 40 (stC T so sc) _ Try.underlying40 rfl (st_size _ _ _) ?hg ?_; (case hg => exact hY))
        | fail)
      refine (head_any T so sc _ hTo hT8).mono ?_
      rintro en w17 ⟨rfl, hq⟩
      rw [hhd.out]
      replace hT8 := hT8.later hq
      replace hY := hY.later hq
      replace hD := hD.later hq
      replace hb := hb.trans (hq.mono hb.size)
      clear hq hhd k0
      have k0 := hD.d_kind
      have k1 := hD.d_from
      have k2 := hD.d_log
      generalize (headE T).since = ps at *
      rw [hnum.out] at hlt32
      rw [hnum.out]
      have hdl := hDo.len
      have hfr := hDo.fr
      obtain ⟨n, hn⟩ : ∃ n, D.fr + D.log.length = n := ⟨_, rfl⟩
      rw [hn] at hlt32
      rw [hn]
      replace hn : Hid _ := hn
      generalize hm : D.log.length = m at *
      replace hm : Hid _ := hm
      go_wp2_with (first
        | (refine wpList_val (.int .u32 (m : Int)) (by rfl) (run_sub_u32_8 _ _ _ _ rfl n D.fr m rfl rfl hn.out.symm (by omega)) ?_)
        | fail)
      have hwl : Hid _ := hlen.out.1
      have hbt : (bytesM D : Int) ≤ (T.log.length : Int) := by have := hlen.out.2; omega
      clear hlen
      have hbA : Below w17.heap.size w17 w17.drew := (Below.refl _ _).drew
      refine wp_region_plan (fun W => Below w17.heap.size w17 W) (Plan.of [(0, true), (1, true), (2, true), (3, true), (4, true), (5, true), (6, true), (7, false), (8, true), (9, true), (10, true), (12, true), (13, true)] (.either 11 (Plan.of [(14, false), (15, true), (16, true), (17, true), (18, true)] .done) 14 (Plan.of [(11, false), (15, true), (16, true), (17, true), (18, true)] .done))) (by kernel_rfl) (by kernel_rfl) (by kernel_rfl) (by kernel_rfl) hbA ?_
      iterate 1
        first
          | (refine plan_pass _ rfl (by rfl) ?_)
          | (refine plan_take _ _ rfl (.inl ⟨by rfl, fun W hS => by clear hS; go_simp; try with_reducible rfl⟩) ?_)
        try simp only [Act.put, List.setIfInBounds_toArray, List.set_cons_zero, List.set_cons_succ]
      iterate 1
        first
          | (refine plan_pass _ rfl (by rfl) ?_)
          | (refine plan_take _ _ rfl (.inl ⟨by rfl, fun W hS => by have z0 := (hD.later hS).d_kind; go_simp; try with_reducible rfl⟩) ?_)
        try simp only [Act.put, List.setIfInBounds_toArray, List.set_cons_zero, List.set_cons_succ]
      refine plan_take _ (.bool false) rfl (.inl ⟨by rfl, fun W hS => by clear hS; go_simp; try with_reducible rfl⟩) ?_
      try simp only [Act.put, List.setIfInBounds_toArray, List.set_cons_zero, List.set_cons_succ]
      iterate 3
        first
          | (refine plan_pass _ rfl (by rfl) ?_)
          | (refine plan_take _ _ rfl (.inl ⟨by rfl, fun W hS => by clear hS; go_simp; try with_reducible rfl⟩) ?_)
        try simp only [Act.put, List.setIfInBounds_toArray, List.set_cons_zero, List.set_cons_succ]
      refine plan_take _ (.slice wo 0 wc) rfl (.inl ⟨by rfl, fun W hS => by have z0 := (hD.later hS).d_wlog; rw [hwl.out] at z0; go_simp; try with_reducible rfl⟩) ?_
      try simp only [Act.put, List.setIfInBounds_toArray, List.set_cons_zero, List.set_cons_succ]
      refine plan_run _ rfl (fun K hK => ?_)
      go_simp
      refine hK.out _ _ hbA ?_
      clear hK K
      try simp only [Act.put, List.setIfInBounds_toArray, List.set_cons_zero, List.set_cons_succ]
      refine plan_take _ (.bool true) rfl (.inl ⟨by rfl, fun W hS => by clear hS; go_simp; try with_reducible rfl⟩) ?_
      try simp only [Act.put, List.setIfInBounds_toArray, List.set_cons_zero, List.set_cons_succ]
      iterate 1
        first
          | (refine plan_pass _ rfl (by rfl) ?_)
          | (refine plan_take _ _ rfl (.inl ⟨by rfl, fun W hS => by clear hS; go_simp; try with_reducible rfl⟩) ?_)
        try simp only [Act.put, List.setIfInBounds_toArray, List.set_cons_zero, List.set_cons_succ]
      refine plan_take _ _ rfl (yields_load_has (by rfl) 61 _ rfl gd rfl 61 (diffC D lo lc wo wc) _ Try.underlying61 rfl (diff_size _ _ _ _ _) (fun W hW => hD.later hW)) ?_
      try simp only [Act.put, List.setIfInBounds_toArray, List.set_cons_zero, List.set_cons_succ]
      iterate 1
        first
          | (refine plan_pass _ rfl (by rfl) ?_)
          | (refine plan_take _ _ rfl (.inl ⟨by rfl, fun W hS => by clear hS; go_simp; try with_reducible rfl⟩) ?_)
        try simp only [Act.put, List.setIfInBounds_toArray, List.set_cons_zero, List.set_cons_succ]
      iterate 1
        first
          | (refine plan_pass _ rfl (by rfl) ?_)
          | (refine plan_take _ _ rfl (.inl ⟨by rfl, fun W hS => by have z0 := (hY.later hS).st_log; go_simp; try with_reducible rfl⟩) ?_)
        try simp only [Act.put, List.setIfInBounds_toArray, List.set_cons_zero, List.set_cons_succ]
      refine plan_either ?_ ?_
      · refine plan_run _ rfl (fun K hK => ?_)
        go_simp
        refine (bytes_any D lo wo lc wc _ hDo).mono ?_
        rintro en wy ⟨rfl, hq⟩
        have hbB : Below w17.heap.size w17 wy := hbA.trans (hq.mono hbA.size)
        refine hK.out _ _ hbB ?_
        clear hK K hq
        try simp only [Act.put, List.setIfInBounds_toArray, List.set_cons_zero, List.set_cons_succ]
        refine plan_run _ rfl (fun K hK => ?_)
        go_simp
        refine hK.out _ _ hbB ?_
        clear hK K
        try simp only [Act.put, List.setIfInBounds_toArray, List.set_cons_zero, List.set_cons_succ]
        refine plan_take _ (.bool true) rfl (.inl ⟨by rfl, fun W hS => by clear hS; go_simp; try with_reducible rfl⟩) ?_
        try simp only [Act.put, List.setIfInBounds_toArray, List.set_cons_zero, List.set_cons_succ]
        iterate 3
          first
            | (refine plan_pass _ rfl (by rfl) ?_)
            | (refine plan_take _ _ rfl (.inl ⟨by rfl, fun W hS => by clear hS; go_simp; try with_reducible rfl⟩) ?_)
          try simp only [Act.put, List.setIfInBounds_toArray, List.set_cons_zero, List.set_cons_succ]
        refine plan_done ?_
        go_wp2_with fail
        go_ret
        exact ⟨rfl, hb.trans (hbB.mono hb.size)⟩
      · refine plan_run _ rfl (fun K hK => ?_)
        go_simp
        refine hK.out _ _ hbA ?_
        clear hK K
        try simp only [Act.put, List.setIfInBounds_toArray, List.set_cons_zero, List.set_cons_succ]
        refine plan_run _ rfl (fun K hK => ?_)
        go_simp
        refine (bytes_any D lo wo lc wc _ hDo).mono ?_
        rintro en wy ⟨rfl, hq⟩
        have hbB : Below w17.heap.size w17 wy := hbA.trans (hq.mono hbA.size)
        refine hK.out _ _ hbB ?_
        clear hK K hq
        try simp only [Act.put, List.setIfInBounds_toArray, List.set_cons_zero, List.set_cons_succ]
        refine plan_take _ (.bool true) rfl (.inl ⟨by rfl, fun W hS => by clear hS; go_simp; try with_reducible rfl⟩) ?_
        try simp only [Act.put, List.setIfInBounds_toArray, List.set_cons_zero, List.set_cons_succ]
        iterate 3
          first
            | (refine plan_pass _ rfl (by rfl) ?_)
            | (refine plan_take _ _ rfl (.inl ⟨by rfl, fun W hS => by clear hS; go_simp; try with_reducible rfl⟩) ?_)
          try simp only [Act.put, List.setIfInBounds_toArray, List.set_cons_zero, List.set_cons_succ]
        refine plan_done ?_
        go_wp2_with fail
        go_ret
        exact ⟨rfl, hb.trans (hbB.mono hb.size)⟩
    · have i1 : (D.kind == 1) = false := by rw [beq_eq_false_iff_ne]; exact hk1
      go_wp2_with fail
      by_cases hk2 : D.kind = 2
      · have i2 : (D.kind == 2) = true := by rw [hk2]; rfl
        have hbA : Below w16.heap.size w16 w16.drew := (Below.refl _ _).drew
        refine wp_region_plan (fun W => Below w16.heap.size w16 W) (Plan.of [(0, true), (1, true), (2, true), (3, true), (4, true), (5, true), (6, true), (7, false), (8, true), (9, true), (10, true), (12, true), (13, true)] (.either 11 (Plan.of [(14, false), (15, true), (16, true), (17, true), (18, true)] .done) 14 (Plan.of [(11, false), (15, true), (16, true), (17, true), (18, true)] .done))) (by kernel_rfl) (by kernel_rfl) (by kernel_rfl) (by kernel_rfl) hbA ?_
        iterate 1
          first
            | (refine plan_pass _ rfl (by rfl) ?_)
            | (refine plan_take _ _ rfl (.inl ⟨by rfl, fun W hS => by clear hS; go_simp; try with_reducible rfl⟩) ?_)
          try simp only [Act.put, List.setIfInBounds_toArray, List.set_cons_zero, List.set_cons_succ]
        iterate 1
          first
            | (refine plan_pass _ rfl (by rfl) ?_)
            | (refine plan_take _ _ rfl (.inl ⟨by rfl, fun W hS => by have z0 := (hD.later hS).d_kind; go_simp; try with_reducible rfl⟩) ?_)
          try simp only [Act.put, List.setIfInBounds_toArray, List.set_cons_zero, List.set_cons_succ]
        refine plan_take _ (.bool true) rfl (.inl ⟨by rfl, fun W hS => by clear hS; go_simp; try with_reducible rfl⟩) ?_
        try simp only [Act.put, List.setIfInBounds_toArray, List.set_cons_zero, List.set_cons_succ]
        iterate 4
          first
            | (refine plan_pass _ rfl (by rfl) ?_)
            | (refine plan_take _ _ rfl (.inl ⟨by rfl, fun W hS => by clear hS; go_simp; try with_reducible rfl⟩) ?_)
          try simp only [Act.put, List.setIfInBounds_toArray, List.set_cons_zero, List.set_cons_succ]
        refine plan_run _ rfl (fun K hK => ?_)
        go_simp
        refine hK.out _ _ hbA ?_
        clear hK K
        try simp only [Act.put, List.setIfInBounds_toArray, List.set_cons_zero, List.set_cons_succ]
        iterate 5
          first
            | (refine plan_pass _ rfl (by rfl) ?_)
            | (refine plan_take _ _ rfl (.inl ⟨by rfl, fun W hS => by clear hS; go_simp; try with_reducible rfl⟩) ?_)
          try simp only [Act.put, List.setIfInBounds_toArray, List.set_cons_zero, List.set_cons_succ]
        refine plan_either ?_ ?_
        · refine plan_run _ rfl (fun K hK => ?_)
          go_simp
          refine hK.out _ _ hbA ?_
          clear hK K
          try simp only [Act.put, List.setIfInBounds_toArray, List.set_cons_zero, List.set_cons_succ]
          refine plan_run _ rfl (fun K hK => ?_)
          go_simp
          refine hK.out _ _ hbA ?_
          clear hK K
          try simp only [Act.put, List.setIfInBounds_toArray, List.set_cons_zero, List.set_cons_succ]
          iterate 4
            first
              | (refine plan_pass _ rfl (by rfl) ?_)
              | (refine plan_take _ _ rfl (.inl ⟨by rfl, fun W hS => by clear hS; go_simp; try with_reducible rfl⟩) ?_)
            try simp only [Act.put, List.setIfInBounds_toArray, List.set_cons_zero, List.set_cons_succ]
          refine plan_done ?_
          go_wp2_with fail
          go_ret
          exact ⟨rfl, hb.trans (hbA.mono hb.size)⟩
        · refine plan_run _ rfl (fun K hK => ?_)
          go_simp
          refine hK.out _ _ hbA ?_
          clear hK K
          try simp only [Act.put, List.setIfInBounds_toArray, List.set_cons_zero, List.set_cons_succ]
          refine plan_run _ rfl (fun K hK => ?_)
          go_simp
          refine hK.out _ _ hbA ?_
          clear hK K
          try simp only [Act.put, List.setIfInBounds_toArray, List.set_cons_zero, List.set_cons_succ]
          iterate 4
            first
              | (refine plan_pass _ rfl (by rfl) ?_)
              | (refine plan_take _ _ rfl (.inl ⟨by rfl, fun W hS => by clear hS; go_simp; try with_reducible rfl⟩) ?_)
            try simp only [Act.put, List.setIfInBounds_toArray, List.set_cons_zero, List.set_cons_succ]
          refine plan_done ?_
          go_wp2_with fail
          go_ret
          exact ⟨rfl, hb.trans (hbA.mono hb.size)⟩
      · have i2 : (D.kind == 2) = false := by rw [beq_eq_false_iff_ne]; exact hk2
        have hlen : Hid _ := (hBk.len.resolve_left hk2)
        have hwl : Hid _ := hlen.out.1
        have hbt : (bytesM D : Int) ≤ (T.log.length : Int) := by have := hlen.out.2; omega
        clear hlen
        have hbA : Below w16.heap.size w16 w16.drew := (Below.refl _ _).drew
        refine wp_region_plan (fun W => Below w16.heap.size w16 W) (Plan.of [(0, true), (1, true), (2, true), (3, true), (4, true), (5, true), (6, true), (7, false), (8, true), (9, true), (10, true), (12, true), (13, true)] (.either 11 (Plan.of [(14, false), (15, true), (16, true), (17, true), (18, true)] .done) 14 (Plan.of [(11, false), (15, true), (16, true), (17, true), (18, true)] .done))) (by kernel_rfl) (by kernel_rfl) (by kernel_rfl) (by kernel_rfl) hbA ?_
        iterate 1
          first
            | (refine plan_pass _ rfl (by rfl) ?_)
            | (refine plan_take _ _ rfl (.inl ⟨by rfl, fun W hS => by clear hS; go_simp; try with_reducible rfl⟩) ?_)
          try simp only [Act.put, List.setIfInBounds_toArray, List.set_cons_zero, List.set_cons_succ]
        iterate 1
          first
            | (refine plan_pass _ rfl (by rfl) ?_)
            | (refine plan_take _ _ rfl (.inl ⟨by rfl, fun W hS => by have z0 := (hD.later hS).d_kind; go_simp; try with_reducible rfl⟩) ?_)
          try simp only [Act.put, List.setIfInBounds_toArray, List.set_cons_zero, List.set_cons_succ]
        refine plan_take _ (.bool false) rfl (.inl ⟨by rfl, fun W hS => by clear hS; go_simp; try with_reducible rfl⟩) ?_
        try simp only [Act.put, List.setIfInBounds_toArray, List.set_cons_zero, List.set_cons_succ]
        iterate 3
          first
            | (refine plan_pass _ rfl (by rfl) ?_)
            | (refine plan_take _ _ rfl (.inl ⟨by rfl, fun W hS => by clear hS; go_simp; try with_reducible rfl⟩) ?_)
          try simp only [Act.put, List.setIfInBounds_toArray, List.set_cons_zero, List.set_cons_succ]
        refine plan_take _ (.slice wo 0 wc) rfl (.inl ⟨by rfl, fun W hS => by have z0 := (hD.later hS).d_wlog; rw [hwl.out] at z0; go_simp; try with_reducible rfl⟩) ?_
        try simp only [Act.put, List.setIfInBounds_toArray, List.set_cons_zero, List.set_cons_succ]
        refine plan_run _ rfl (fun K hK => ?_)
        go_simp
        refine hK.out _ _ hbA ?_
        clear hK K
        try simp only [Act.put, List.setIfInBounds_toArray, List.set_cons_zero, List.set_cons_succ]
        refine plan_take _ (.bool true) rfl (.inl ⟨by rfl, fun W hS => by clear hS; go_simp; try with_reducible rfl⟩) ?_
        try simp only [Act.put, List.setIfInBounds_toArray, List.set_cons_zero, List.set_cons_succ]
        iterate 1
          first
            | (refine plan_pass _ rfl (by rfl) ?_)
            | (refine plan_take _ _ rfl (.inl ⟨by rfl, fun W hS => by clear hS; go_simp; try with_reducible rfl⟩) ?_)
          try simp only [Act.put, List.setIfInBounds_toArray, List.set_cons_zero, List.set_cons_succ]
        refine plan_take _ _ rfl (yields_load_has (by rfl) 61 _ rfl gd rfl 61 (diffC D lo lc wo wc) _ Try.underlying61 rfl (diff_size _ _ _ _ _) (fun W hW => hD.later hW)) ?_
        try simp only [Act.put, List.setIfInBounds_toArray, List.set_cons_zero, List.set_cons_succ]
        iterate 1
          first
            | (refine plan_pass _ rfl (by rfl) ?_)
            | (refine plan_take _ _ rfl (.inl ⟨by rfl, fun W hS => by clear hS; go_simp; try with_reducible rfl⟩) ?_)
          try simp only [Act.put, List.setIfInBounds_toArray, List.set_cons_zero, List.set_cons_succ]
        iterate 1
          first
            | (refine plan_pass _ rfl (by rfl) ?_)
            | (refine plan_take _ _ rfl (.inl ⟨by rfl, fun W hS => by have z0 := (hY.later hS).st_log; go_simp; try with_reducible rfl⟩) ?_)
          try simp only [Act.put, List.setIfInBounds_toArray, List.set_cons_zero, List.set_cons_succ]
        refine plan_either ?_ ?_
        · refine plan_run _ rfl (fun K hK => ?_)
          go_simp
          refine (bytes_any D lo wo lc wc _ hDo).mono ?_
          rintro en wy ⟨rfl, hq⟩
          have hbB : Below w16.heap.size w16 wy := hbA.trans (hq.mono hbA.size)
          refine hK.out _ _ hbB ?_
          clear hK K hq
          try simp only [Act.put, List.setIfInBounds_toArray, List.set_cons_zero, List.set_cons_succ]
          refine plan_run _ rfl (fun K hK => ?_)
          go_simp
          refine hK.out _ _ hbB ?_
          clear hK K
          try simp only [Act.put, List.setIfInBounds_toArray, List.set_cons_zero, List.set_cons_succ]
          refine plan_take _ (.bool true) rfl (.inl ⟨by rfl, fun W hS => by clear hS; go_simp; try with_reducible rfl⟩) ?_
          try simp only [Act.put, List.setIfInBounds_toArray, List.set_cons_zero, List.set_cons_succ]
          iterate 3
            first
              | (refine plan_pass _ rfl (by rfl) ?_)
              | (refine plan_take _ _ rfl (.inl ⟨by rfl, fun W hS => by clear hS; go_simp; try with_reducible rfl⟩) ?_)
            try simp only [Act.put, List.setIfInBounds_toArray, List.set_cons_zero, List.set_cons_succ]
          refine plan_done ?_
          go_wp2_with fail
          go_ret
          exact ⟨rfl, hb.trans (hbB.mono hb.size)⟩
        · refine plan_run _ rfl (fun K hK => ?_)
          go_simp
          refine hK.out _ _ hbA ?_
          clear hK K
          try simp only [Act.put, List.setIfInBounds_toArray, List.set_cons_zero, List.set_cons_succ]
          refine plan_run _ rfl (fun K hK => ?_)
          go_simp
          refine (bytes_any D lo wo lc wc _ hDo).mono ?_
          rintro en wy ⟨rfl, hq⟩
          have hbB : Below w16.heap.size w16 wy := hbA.trans (hq.mono hbA.size)
          refine hK.out _ _ hbB ?_
          clear hK K hq
          try simp only [Act.put, List.setIfInBounds_toArray, List.set_cons_zero, List.set_cons_succ]
          refine plan_take _ (.bool true) rfl (.inl ⟨by rfl, fun W hS => by clear hS; go_simp; try with_reducible rfl⟩) ?_
          try simp only [Act.put, List.setIfInBounds_toArray, List.set_cons_zero, List.set_cons_succ]
          iterate 3
            first
              | (refine plan_pass _ rfl (by rfl) ?_)
              | (refine plan_take _ _ rfl (.inl ⟨by rfl, fun W hS => by clear hS; go_simp; try with_reducible rfl⟩) ?_)
            try simp only [Act.put, List.setIfInBounds_toArray, List.set_cons_zero, List.set_cons_succ]
          refine plan_done ?_
          go_wp2_with fail
          go_ret
          exact ⟨rfl, hb.trans (hbB.mono hb.size)⟩
end Go.Proofs.Ytphlfepgaghhhaa
