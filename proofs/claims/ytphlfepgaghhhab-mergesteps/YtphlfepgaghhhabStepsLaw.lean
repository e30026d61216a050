/- MergeSteps, walked. -/
import Derived.Test.YtphlfepgaghhhabMergeKnown
import Derived.Test.YtphlfepgaghhhabMergeState
import Derived.Test.YtphlfepgaghhhabOnlyFacts
import Derived.Test.YtphlfepgaghhhabAny
namespace Go.Proofs.Ytphlfepgaghhhab
set_option linter.unusedSimpArgs false
set_option linter.unusedVariables false
set_option maxRecDepth 100000
open Go.RowKit

theorem three_new8 (w : World) (t u v : TypeId) (z y x c d e : Array Value) : ∃ w1 w2 w3 w4, ((w.alloc (.cells z t)).alloc (.cells y u)).alloc (.cells x v) = w1 ∧ w1.setRow w.heap.size c = w2 ∧ w2.setRow (w.heap.size + 1) d = w3 ∧ w3.setRow (w.heap.size + 1 + 1) e = w4 ∧ Has w1 w.heap.size t z ∧ Has w2 (w.heap.size + 1) u y ∧ Has w3 (w.heap.size + 1 + 1) v x ∧ Has w4 w.heap.size t c ∧ Has w4 (w.heap.size + 1) u d ∧ Has w4 (w.heap.size + 1 + 1) v e ∧ Below w.heap.size w w4 := by
  obtain ⟨w1, hw1, hA, hB, hC, hb⟩ := three_vars w t u v z y x
  refine ⟨w1, _, _, _, hw1, rfl, rfl, rfl, hA, hB.row_other (by omega) _, (hC.row_other (by omega) _).row_other (by omega) _, ((hA.row _).row_other (by omega) _).row_other (by omega) _, ((hB.row_other (by omega) _).row _).row_other (by omega) _, ((hC.row_other (by omega) _).row_other (by omega) _).row _, below_setRow (below_setRow (below_setRow hb (Nat.le_refl _) _) (by omega) _) (by omega) _⟩

set_option maxHeartbeats 8000000 in
theorem steps_walk (ao bo co eo : Option Addr) (c d f g i j k : Nat) (l a b e : List OpV) (w : World) (h : Sl w ao c 6 (opR l)) (h1 : Sl w bo d 6 (opR a)) (h2 : Sl w co f 6 (opR b)) (h3 : Sl w eo g 6 (opR e)) (hl : ∀ x ∈ l, OpOk x) (ha : ∀ x ∈ a, OpOk x) (hb' : ∀ x ∈ b, OpOk x) (he : ∀ x ∈ e, OpOk x) (hi : i < 4294967296) (hj : j < 4294967296) (hk : k < 4294967296) :
    Calls Try.prog 3 #[.slice ao l.length c, .slice bo a.length d, .slice co b.length f, .slice eo e.length g, .int .u32 (i : Int), .int .u32 (j : Int), .int .u32 (k : Int)] w fun en w' => en = .returned (.bool true) ∧ Below w.heap.size w w' := by
  have hle := h.op_len
  have hcap := h.cap
  have hle1 := h1.op_len
  have hcap1 := h1.cap
  have hle2 := h2.op_len
  have hcap2 := h2.cap
  have hle3 := h3.op_len
  have hcap3 := h3.cap
  go_enter Try.func3, Try.ntmps3
  go_wp2_with fail
  refine (known8_any _).mono ?_
  rintro en w1 ⟨rfl, hb⟩
  by_cases q0 : 10 < l.length
  · have hI : (10 : Int) < (l.length : Int) := by omega
    go_wp2
    go_ret
    exact ⟨rfl, hb⟩
  have hI : ¬ (10 : Int) < (l.length : Int) := by omega
  by_cases q1 : 6 < a.length
  · have hJ : (6 : Int) < (a.length : Int) := by omega
    go_wp2
    go_ret
    exact ⟨rfl, hb⟩
  have hJ : ¬ (6 : Int) < (a.length : Int) := by omega
  by_cases q2 : 6 < b.length
  · have hK : (6 : Int) < (b.length : Int) := by omega
    go_wp2
    go_ret
    exact ⟨rfl, hb⟩
  have hK : ¬ (6 : Int) < (b.length : Int) := by omega
  by_cases q3 : 6 < e.length
  · have hL : (6 : Int) < (e.length : Int) := by omega
    go_wp2
    go_ret
    exact ⟨rfl, hb⟩
  have hL : ¬ (6 : Int) < (e.length : Int) := by omega
  have hst1 := fun W (hW : Below w.heap.size w W) => state_any ao bo c d i 1 i l a W (h.later hW) (h1.later hW) hl ha (by omega) (by omega) hi (by decide) hi
  have hst2 := fun W (hW : Below w.heap.size w W) => state_any ao co c f j 2 j l b W (h.later hW) (h2.later hW) hl hb' (by omega) (by omega) hj (by decide) hj
  have hst3 := fun W (hW : Below w.heap.size w W) => state_any ao eo c g k 3 k l e W (h.later hW) (h3.later hW) hl he (by omega) (by omega) hk (by decide) hk
  have hSo : StOk (stM l a i 1 i) := stM_ok hl ha (by omega) (by omega)
  have hTo : StOk (stM l b j 2 j) := stM_ok hl hb' (by omega) (by omega)
  have hUo : StOk (stM l e k 3 k) := stM_ok hl he (by omega) (by omega)
  have hSi : isM (stM l a i 1 i) = true := stM_is hl ha (by omega) (by omega)
  have hTi : isM (stM l b j 2 j) = true := stM_is hl hb' (by omega) (by omega)
  have hUi : isM (stM l e k 3 k) = true := stM_is hl he (by omega) (by omega)
  generalize stM l a i 1 i = S at *
  generalize stM l b j 2 j = T at *
  generalize stM l e k 3 k = U at *
  have happ1 : Hid _ := apply_make hSi hTi
  have happ2 : Hid _ := apply_make hTi hUi
  have happ3 : Hid _ := apply_make hSi hUi
  clear hSi hTi hUi
  go_wp2_with fail
  refine (hst1 _ hb).mono ?_
  rintro en w2 ⟨ro, rc, rfl, hG⟩
  have hS8 := hG.sl
  replace hb := hb.trans (hG.below.mono hb.size)
  clear hG hst1
  go_wp2_with fail
  refine (hst2 _ hb).mono ?_
  rintro en w3 ⟨so, sc, rfl, hG⟩
  have hT8 := hG.sl
  replace hS8 := hS8.later hG.below
  replace hb := hb.trans (hG.below.mono hb.size)
  clear hG hst2
  go_wp2_with fail
  refine (hst3 _ hb).mono ?_
  rintro en w4 ⟨uo, uc, rfl, hG⟩
  have hU8 := hG.sl
  replace hS8 := hS8.later hG.below
  replace hT8 := hT8.later hG.below
  replace hb := hb.trans (hG.below.mono hb.size)
  clear hG hst3
  obtain ⟨w5, w6, w7, w8, hw5, hw6, hw7, hw8, hA0, hB0, hC0, hX, hY, hZ, hq⟩ := three_new8 w4 42 42 42 (stC st0 none 0) (stC st0 none 0) (stC st0 none 0) (stC S ro rc) (stC T so sc) (stC U uo uc)
  replace hS8 := hS8.later hq
  replace hT8 := hT8.later hq
  replace hU8 := hU8.later hq
  replace hb := hb.trans (hq.mono hb.size)
  clear hq
  go_wp2_with (first
    | (refine wpList_alloc_has (by rfl) 42 rfl (stC st0 none 0) st_zero ?_; try rw [alloc_size]; try rw [alloc_size]; try rw [hw5])
    | (refine wpList_store_to (by rfl) 42 _ _ rfl (w4.heap.size) rfl (stC S ro rc) rfl 42 (stC st0 none 0) (st_size _ _ _) (st_same _ _ _ _ _ _) (st_one _ _ _) ?hg w6 ?hW ?_; (case hg => exact hA0); (case hW => exact hw6))
    | (refine wpList_store_to (by rfl) 42 _ _ rfl (w4.heap.size + 1) rfl (stC T so sc) rfl 42 (stC st0 none 0) (st_size _ _ _) (st_same _ _ _ _ _ _) (st_one _ _ _) ?hg w7 ?hW ?_; (case hg => exact hB0); (case hW => exact hw7))
    | (refine wpList_store_to (by rfl) 42 _ _ rfl (w4.heap.size + 1 + 1) rfl (stC U uo uc) rfl 42 (stC st0 none 0) (st_size _ _ _) (st_same _ _ _ _ _ _) (st_one _ _ _) ?hg w8 ?hW ?_; (case hg => exact hC0); (case hW => exact hw8))
    | fail)
  clear hw5 hw6 hw7 hw8 hA0 hB0 hC0
  generalize w4.heap.size = gs at *
  have hP := hX
  have hQ := hY
  have hPo := hSo
  have hQo := hTo
  have hP8 := hS8
  have hQ8 := hT8
  have happ := happ1
  let F8 : Act → Act → World → Prop := fun a a' w' => ∃ (gx : Nat) (xo : Option Addr) (xc : Nat) (lo : Option Addr) (lc : Nat) (wo : Option Addr) (wc : Nat), a' = (((((((((a.put (some 60) (.agg (stC S ro rc))).put (some 61) (.agg (stC S ro rc))).put (some 62) (.agg (stC T so sc))).put (some 63) (.agg (diffC (makeM S T) lo lc wo wc))).put (some 64) (.tuple #[.agg (stC T xo xc), .int .i64 ((0 : Nat) : Int)])).put (some 59) (.tuple #[.agg (stC T xo xc), .int .i64 ((0 : Nat) : Int)])).put (some 65) (.agg (stC T xo xc))).put (some 66) (.int .i64 ((0 : Nat) : Int))).put (some 18) (.pointer (some ⟨gx, 0, none⟩))).put (some 19) (.int .i64 ((0 : Nat) : Int)) ∧ Has w' gx 42 (stC T xo xc) ∧ Sl w' xo xc 8 (entR T.log) ∧ Below w8.heap.size w8 w'
  have hbr : Below w8.heap.size w8 w8.drew := (Below.refl _ _).drew
  have hLP := hP
  have hLQ := hQ
  refine wp_region_plan_mid (fun W => Below w8.heap.size w8 W) (Plan.of [(0, true), (1, true), (2, true)] (.either 3 (.either 4 (Plan.of [(5, true), (6, true), (7, true), (8, false), (9, false), (10, true)] .done) 8 (Plan.of [(4, false), (5, true), (6, true), (7, true), (9, false), (10, true)] .done)) 8 (Plan.of [(3, false), (4, false), (5, true), (6, true), (7, true), (9, false), (10, true)] .done))) F8 (by kernel_rfl) (by kernel_rfl) (by kernel_rfl) (by kernel_rfl) hbr ?hplan ?hrest
  case hplan =>
    refine plan_take _ _ rfl (yields_load_has (by rfl) 42 _ rfl (gs) rfl 42 (stC S ro rc) _ Try.underlying42 rfl (st_size _ _ _) (fun W hW => hP.later hW)) ?_
    try simp only [Act.put, List.setIfInBounds_toArray, List.set_cons_zero, List.set_cons_succ]
    refine plan_take _ _ rfl (yields_load_has (by rfl) 42 _ rfl (gs) rfl 42 (stC S ro rc) _ Try.underlying42 rfl (st_size _ _ _) (fun W hW => hP.later hW)) ?_
    try simp only [Act.put, List.setIfInBounds_toArray, List.set_cons_zero, List.set_cons_succ]
    refine plan_take _ _ rfl (yields_load_has (by rfl) 42 _ rfl (gs + 1) rfl 42 (stC T so sc) _ Try.underlying42 rfl (st_size _ _ _) (fun W hW => hQ.later hW)) ?_
    try simp only [Act.put, List.setIfInBounds_toArray, List.set_cons_zero, List.set_cons_succ]
    generalize w8.drew = wn at *
    refine plan_either ?_ ?_
    · refine plan_run _ rfl (fun K hK => ?_)
      go_simp
      refine (make_any S T ro so rc sc _ hPo hQo (hP8.later hbr) (hQ8.later hbr)).mono ?_
      rintro en wm ⟨lo, lc, wo, wc, rfl, hG⟩
      have hq := hG.below
      have hDl := hG.sl
      have hDw := hG.wl
      try replace hV := hV.later hq
      replace hbr := hbr.trans (hq.mono hbr.size)
      refine hK.out _ _ hbr ?_
      clear hK K hG hq
      try simp only [Act.put, List.setIfInBounds_toArray, List.set_cons_zero, List.set_cons_succ]
      obtain ⟨wn, hwn⟩ : ∃ W, W = wm := ⟨_, rfl⟩
      subst hwn
      refine plan_either ?_ ?_
      · refine plan_run _ rfl (fun K hK => ?_)
        go_simp
        refine (apply_any S (makeM S T) ro lo wo rc lc wc _ hPo (make_fit hPo hQo) (hP8.later hbr) hDl hDw).mono ?_
        rintro en wm ⟨xo, xc, rfl, hG⟩
        rw [happ.out] at hG
        rw [happ.out]
        have hq := hG.below
        have hV8 := hG.sl
        try have hnx : ∀ d, xo = some d → 0 < (entR (T).log).length → d.block ≠ gx := fun d hd _ => by have := hG.new d hd; have := hV.lt; omega
        try replace hV := hV.later hq
        replace hbr := hbr.trans (hq.mono hbr.size)
        refine hK.out _ _ hbr ?_
        clear hK K hG hq
        try simp only [Act.put, List.setIfInBounds_toArray, List.set_cons_zero, List.set_cons_succ]
        obtain ⟨wn, hwn⟩ : ∃ W, W = wm := ⟨_, rfl⟩
        subst hwn
        iterate 3
          first
            | (refine plan_pass _ rfl (by rfl) ?_)
            | (refine plan_take _ _ rfl (.inl ⟨by rfl, fun W hS => by clear hS; go_simp; try with_reducible rfl⟩) ?_)
          try simp only [Act.put, List.setIfInBounds_toArray, List.set_cons_zero, List.set_cons_succ]
        try have hnx : ∀ d, xo = some d → 0 < (entR (T).log).length → d.block ≠ wn.heap.size := fun d hd hn => by subst hd; have := Sl.block_lt hV8 hn (by decide); omega
        refine plan_alloc_has _ rfl (by rfl) 42 rfl (stC st0 none 0) st_zero (hbr.alloc hbr.size _) ?_
        try simp only [Act.put, List.setIfInBounds_toArray, List.set_cons_zero, List.set_cons_succ]
        obtain ⟨wm, hwm, hV, hq⟩ := one_var wn 42 (stC st0 none 0)
        rw [hwm]
        have hgx : w8.heap.size ≤ wn.heap.size := hbr.size
        try replace hDl := hDl.later hq
        try replace hDw := hDw.later hq
        try replace hV8 := hV8.later hq
        replace hbr := hbr.trans (hq.mono hbr.size)
        clear hq hwm
        generalize wn.heap.size = gx at *
        obtain ⟨wn, hwn⟩ : ∃ W, W = wm := ⟨_, rfl⟩
        subst hwn
        have hz := hV.row (stC (T) xo xc)
        have hsl := hV8.row_if hnx (stC (T) xo xc)
        have hbz := below_setRow hbr hgx (stC (T) xo xc)
        refine plan_store_has _ rfl (by rfl) 42 _ _ rfl gx rfl (stC (T) xo xc) rfl 42 (stC st0 none 0) (st_size _ _ _) (st_same _ _ _ _ _ _) (st_one _ _ _) hV hbz ?_
        try simp only [Act.put, List.setIfInBounds_toArray, List.set_cons_zero, List.set_cons_succ]
        iterate 1
          first
            | (refine plan_pass _ rfl (by rfl) ?_)
            | (refine plan_take _ _ rfl (.inl ⟨by rfl, fun W hS => by clear hS; go_simp; try with_reducible rfl⟩) ?_)
          try simp only [Act.put, List.setIfInBounds_toArray, List.set_cons_zero, List.set_cons_succ]
        refine plan_done ?_
        refine mid_done ?_
        exact ⟨gx, xo, xc, lo, lc, wo, wc, by simp only [Act.put, List.setIfInBounds_toArray, List.set_cons_zero, List.set_cons_succ] <;> rfl, hz, hsl, hbz⟩
      · try have hnx : ∀ d, xo = some d → 0 < (entR (T).log).length → d.block ≠ wn.heap.size := fun d hd hn => by subst hd; have := Sl.block_lt hV8 hn (by decide); omega
        refine plan_alloc_has _ rfl (by rfl) 42 rfl (stC st0 none 0) st_zero (hbr.alloc hbr.size _) ?_
        try simp only [Act.put, List.setIfInBounds_toArray, List.set_cons_zero, List.set_cons_succ]
        obtain ⟨wm, hwm, hV, hq⟩ := one_var wn 42 (stC st0 none 0)
        rw [hwm]
        have hgx : w8.heap.size ≤ wn.heap.size := hbr.size
        try replace hDl := hDl.later hq
        try replace hDw := hDw.later hq
        try replace hV8 := hV8.later hq
        replace hbr := hbr.trans (hq.mono hbr.size)
        clear hq hwm
        generalize wn.heap.size = gx at *
        obtain ⟨wn, hwn⟩ : ∃ W, W = wm := ⟨_, rfl⟩
        subst hwn
        refine plan_run _ rfl (fun K hK => ?_)
        go_simp
        refine (apply_any S (makeM S T) ro lo wo rc lc wc _ hPo (make_fit hPo hQo) (hP8.later hbr) hDl hDw).mono ?_
        rintro en wm ⟨xo, xc, rfl, hG⟩
        rw [happ.out] at hG
        rw [happ.out]
        have hq := hG.below
        have hV8 := hG.sl
        try have hnx : ∀ d, xo = some d → 0 < (entR (T).log).length → d.block ≠ gx := fun d hd _ => by have := hG.new d hd; have := hV.lt; omega
        try replace hV := hV.later hq
        replace hbr := hbr.trans (hq.mono hbr.size)
        refine hK.out _ _ hbr ?_
        clear hK K hG hq
        try simp only [Act.put, List.setIfInBounds_toArray, List.set_cons_zero, List.set_cons_succ]
        obtain ⟨wn, hwn⟩ : ∃ W, W = wm := ⟨_, rfl⟩
        subst hwn
        iterate 3
          first
            | (refine plan_pass _ rfl (by rfl) ?_)
            | (refine plan_take _ _ rfl (.inl ⟨by rfl, fun W hS => by clear hS; go_simp; try with_reducible rfl⟩) ?_)
          try simp only [Act.put, List.setIfInBounds_toArray, List.set_cons_zero, List.set_cons_succ]
        have hz := hV.row (stC (T) xo xc)
        have hsl := hV8.row_if hnx (stC (T) xo xc)
        have hbz := below_setRow hbr hgx (stC (T) xo xc)
        refine plan_store_has _ rfl (by rfl) 42 _ _ rfl gx rfl (stC (T) xo xc) rfl 42 (stC st0 none 0) (st_size _ _ _) (st_same _ _ _ _ _ _) (st_one _ _ _) hV hbz ?_
        try simp only [Act.put, List.setIfInBounds_toArray, List.set_cons_zero, List.set_cons_succ]
        iterate 1
          first
            | (refine plan_pass _ rfl (by rfl) ?_)
            | (refine plan_take _ _ rfl (.inl ⟨by rfl, fun W hS => by clear hS; go_simp; try with_reducible rfl⟩) ?_)
          try simp only [Act.put, List.setIfInBounds_toArray, List.set_cons_zero, List.set_cons_succ]
        refine plan_done ?_
        refine mid_done ?_
        exact ⟨gx, xo, xc, lo, lc, wo, wc, by simp only [Act.put, List.setIfInBounds_toArray, List.set_cons_zero, List.set_cons_succ] <;> rfl, hz, hsl, hbz⟩
    · try have hnx : ∀ d, xo = some d → 0 < (entR (T).log).length → d.block ≠ wn.heap.size := fun d hd hn => by subst hd; have := Sl.block_lt hV8 hn (by decide); omega
      refine plan_alloc_has _ rfl (by rfl) 42 rfl (stC st0 none 0) st_zero (hbr.alloc hbr.size _) ?_
      try simp only [Act.put, List.setIfInBounds_toArray, List.set_cons_zero, List.set_cons_succ]
      obtain ⟨wm, hwm, hV, hq⟩ := one_var wn 42 (stC st0 none 0)
      rw [hwm]
      have hgx : w8.heap.size ≤ wn.heap.size := hbr.size
      try replace hDl := hDl.later hq
      try replace hDw := hDw.later hq
      try replace hV8 := hV8.later hq
      replace hbr := hbr.trans (hq.mono hbr.size)
      clear hq hwm
      generalize wn.heap.size = gx at *
      obtain ⟨wn, hwn⟩ : ∃ W, W = wm := ⟨_, rfl⟩
      subst hwn
      refine plan_run _ rfl (fun K hK => ?_)
      go_simp
      refine (make_any S T ro so rc sc _ hPo hQo (hP8.later hbr) (hQ8.later hbr)).mono ?_
      rintro en wm ⟨lo, lc, wo, wc, rfl, hG⟩
      have hq := hG.below
      have hDl := hG.sl
      have hDw := hG.wl
      try replace hV := hV.later hq
      replace hbr := hbr.trans (hq.mono hbr.size)
      refine hK.out _ _ hbr ?_
      clear hK K hG hq
      try simp only [Act.put, List.setIfInBounds_toArray, List.set_cons_zero, List.set_cons_succ]
      obtain ⟨wn, hwn⟩ : ∃ W, W = wm := ⟨_, rfl⟩
      subst hwn
      refine plan_run _ rfl (fun K hK => ?_)
      go_simp
      refine (apply_any S (makeM S T) ro lo wo rc lc wc _ hPo (make_fit hPo hQo) (hP8.later hbr) hDl hDw).mono ?_
      rintro en wm ⟨xo, xc, rfl, hG⟩
      rw [happ.out] at hG
      rw [happ.out]
      have hq := hG.below
      have hV8 := hG.sl
      try have hnx : ∀ d, xo = some d → 0 < (entR (T).log).length → d.block ≠ gx := fun d hd _ => by have := hG.new d hd; have := hV.lt; omega
      try replace hV := hV.later hq
      replace hbr := hbr.trans (hq.mono hbr.size)
      refine hK.out _ _ hbr ?_
      clear hK K hG hq
      try simp only [Act.put, List.setIfInBounds_toArray, List.set_cons_zero, List.set_cons_succ]
      obtain ⟨wn, hwn⟩ : ∃ W, W = wm := ⟨_, rfl⟩
      subst hwn
      iterate 3
        first
          | (refine plan_pass _ rfl (by rfl) ?_)
          | (refine plan_take _ _ rfl (.inl ⟨by rfl, fun W hS => by clear hS; go_simp; try with_reducible rfl⟩) ?_)
        try simp only [Act.put, List.setIfInBounds_toArray, List.set_cons_zero, List.set_cons_succ]
      have hz := hV.row (stC (T) xo xc)
      have hsl := hV8.row_if hnx (stC (T) xo xc)
      have hbz := below_setRow hbr hgx (stC (T) xo xc)
      refine plan_store_has _ rfl (by rfl) 42 _ _ rfl gx rfl (stC (T) xo xc) rfl 42 (stC st0 none 0) (st_size _ _ _) (st_same _ _ _ _ _ _) (st_one _ _ _) hV hbz ?_
      try simp only [Act.put, List.setIfInBounds_toArray, List.set_cons_zero, List.set_cons_succ]
      iterate 1
        first
          | (refine plan_pass _ rfl (by rfl) ?_)
          | (refine plan_take _ _ rfl (.inl ⟨by rfl, fun W hS => by clear hS; go_simp; try with_reducible rfl⟩) ?_)
        try simp only [Act.put, List.setIfInBounds_toArray, List.set_cons_zero, List.set_cons_succ]
      refine plan_done ?_
      refine mid_done ?_
      exact ⟨gx, xo, xc, lo, lc, wo, wc, by simp only [Act.put, List.setIfInBounds_toArray, List.set_cons_zero, List.set_cons_succ] <;> rfl, hz, hsl, hbz⟩
  case hrest =>
    rintro _ w9 ⟨gx, xo, xc, lo2, lc2, wo2, wc2, rfl, hV, hV8, hq⟩
    try simp only [Act.put, List.setIfInBounds_toArray, List.set_cons_zero, List.set_cons_succ]
    replace hS8 := hS8.later hq
    replace hT8 := hT8.later hq
    replace hU8 := hU8.later hq
    replace hX := hX.later hq
    replace hY := hY.later hq
    replace hZ := hZ.later hq
    replace hb := hb.trans (hq.mono hb.size)
    clear hq F8 hP hQ hP8 hQ8 hPo hQo happ happ1 hbr hLP hLQ
    generalize makeM S T = D2 at *
    go_wp2_with fail
    have hP := hV
    have hQ := hZ
    have hPo := hTo
    have hQo := hUo
    have hP8 := hV8
    have hQ8 := hU8
    have happ := happ2
    let F8 : Act → Act → World → Prop := fun a a' w' => ∃ (gx : Nat) (yo : Option Addr) (yc : Nat) (lo : Option Addr) (lc : Nat) (wo : Option Addr) (wc : Nat), a' = (((((((((a.put (some 70) (.agg (stC T xo xc))).put (some 71) (.agg (stC T xo xc))).put (some 72) (.agg (stC U uo uc))).put (some 73) (.agg (diffC (makeM T U) lo lc wo wc))).put (some 74) (.tuple #[.agg (stC U yo yc), .int .i64 ((0 : Nat) : Int)])).put (some 69) (.tuple #[.agg (stC U yo yc), .int .i64 ((0 : Nat) : Int)])).put (some 75) (.agg (stC U yo yc))).put (some 76) (.int .i64 ((0 : Nat) : Int))).put (some 20) (.pointer (some ⟨gx, 0, none⟩))).put (some 21) (.int .i64 ((0 : Nat) : Int)) ∧ Has w' gx 42 (stC U yo yc) ∧ Sl w' yo yc 8 (entR U.log) ∧ Below w9.heap.size w9 w'
    generalize gx = gv at *
    have hbr : Below w9.heap.size w9 w9.drew := (Below.refl _ _).drew
    have hLP := hP
    have hLQ := hQ
    refine wp_region_plan_mid (fun W => Below w9.heap.size w9 W) (Plan.of [(0, true), (1, true), (2, true)] (.either 3 (.either 4 (Plan.of [(5, true), (6, true), (7, true), (8, false), (9, false), (10, true)] .done) 8 (Plan.of [(4, false), (5, true), (6, true), (7, true), (9, false), (10, true)] .done)) 8 (Plan.of [(3, false), (4, false), (5, true), (6, true), (7, true), (9, false), (10, true)] .done))) F8 (by kernel_rfl) (by kernel_rfl) (by kernel_rfl) (by kernel_rfl) hbr ?hplan ?hrest
    case hplan =>
      refine plan_take _ _ rfl (yields_load_has (by rfl) 42 _ rfl (gv) rfl 42 (stC T xo xc) _ Try.underlying42 rfl (st_size _ _ _) (fun W hW => hP.later hW)) ?_
      try simp only [Act.put, List.setIfInBounds_toArray, List.set_cons_zero, List.set_cons_succ]
      refine plan_take _ _ rfl (yields_load_has (by rfl) 42 _ rfl (gv) rfl 42 (stC T xo xc) _ Try.underlying42 rfl (st_size _ _ _) (fun W hW => hP.later hW)) ?_
      try simp only [Act.put, List.setIfInBounds_toArray, List.set_cons_zero, List.set_cons_succ]
      refine plan_take _ _ rfl (yields_load_has (by rfl) 42 _ rfl (gs + 1 + 1) rfl 42 (stC U uo uc) _ Try.underlying42 rfl (st_size _ _ _) (fun W hW => hQ.later hW)) ?_
      try simp only [Act.put, List.setIfInBounds_toArray, List.set_cons_zero, List.set_cons_succ]
      generalize w9.drew = wn at *
      refine plan_either ?_ ?_
      · refine plan_run _ rfl (fun K hK => ?_)
        go_simp
        refine (make_any T U xo uo xc uc _ hPo hQo (hP8.later hbr) (hQ8.later hbr)).mono ?_
        rintro en wm ⟨lo, lc, wo, wc, rfl, hG⟩
        have hq := hG.below
        have hDl := hG.sl
        have hDw := hG.wl
        try replace hV := hV.later hq
        replace hbr := hbr.trans (hq.mono hbr.size)
        refine hK.out _ _ hbr ?_
        clear hK K hG hq
        try simp only [Act.put, List.setIfInBounds_toArray, List.set_cons_zero, List.set_cons_succ]
        obtain ⟨wn, hwn⟩ : ∃ W, W = wm := ⟨_, rfl⟩
        subst hwn
        refine plan_either ?_ ?_
        · refine plan_run _ rfl (fun K hK => ?_)
          go_simp
          refine (apply_any T (makeM T U) xo lo wo xc lc wc _ hPo (make_fit hPo hQo) (hP8.later hbr) hDl hDw).mono ?_
          rintro en wm ⟨xo, xc, rfl, hG⟩
          rw [happ.out] at hG
          rw [happ.out]
          have hq := hG.below
          have hV8 := hG.sl
          try have hnx : ∀ d, xo = some d → 0 < (entR (U).log).length → d.block ≠ gx := fun d hd _ => by have := hG.new d hd; have := hV.lt; omega
          try replace hV := hV.later hq
          replace hbr := hbr.trans (hq.mono hbr.size)
          refine hK.out _ _ hbr ?_
          clear hK K hG hq
          try simp only [Act.put, List.setIfInBounds_toArray, List.set_cons_zero, List.set_cons_succ]
          obtain ⟨wn, hwn⟩ : ∃ W, W = wm := ⟨_, rfl⟩
          subst hwn
          iterate 3
            first
              | (refine plan_pass _ rfl (by rfl) ?_)
              | (refine plan_take _ _ rfl (.inl ⟨by rfl, fun W hS => by clear hS; go_simp; try with_reducible rfl⟩) ?_)
            try simp only [Act.put, List.setIfInBounds_toArray, List.set_cons_zero, List.set_cons_succ]
          try have hnx : ∀ d, xo = some d → 0 < (entR (U).log).length → d.block ≠ wn.heap.size := fun d hd hn => by subst hd; have := Sl.block_lt hV8 hn (by decide); omega
          refine plan_alloc_has _ rfl (by rfl) 42 rfl (stC st0 none 0) st_zero (hbr.alloc hbr.size _) ?_
          try simp only [Act.put, List.setIfInBounds_toArray, List.set_cons_zero, List.set_cons_succ]
          obtain ⟨wm, hwm, hV, hq⟩ := one_var wn 42 (stC st0 none 0)
          rw [hwm]
          have hgx : w9.heap.size ≤ wn.heap.size := hbr.size
          try replace hDl := hDl.later hq
          try replace hDw := hDw.later hq
          try replace hV8 := hV8.later hq
          replace hbr := hbr.trans (hq.mono hbr.size)
          clear hq hwm
          generalize wn.heap.size = gx at *
          obtain ⟨wn, hwn⟩ : ∃ W, W = wm := ⟨_, rfl⟩
          subst hwn
          have hz := hV.row (stC (U) xo xc)
          have hsl := hV8.row_if hnx (stC (U) xo xc)
          have hbz := below_setRow hbr hgx (stC (U) xo xc)
          refine plan_store_has _ rfl (by rfl) 42 _ _ rfl gx rfl (stC (U) xo xc) rfl 42 (stC st0 none 0) (st_size _ _ _) (st_same _ _ _ _ _ _) (st_one _ _ _) hV hbz ?_
          try simp only [Act.put, List.setIfInBounds_toArray, List.set_cons_zero, List.set_cons_succ]
          iterate 1
            first
              | (refine plan_pass _ rfl (by rfl) ?_)
              | (refine plan_take _ _ rfl (.inl ⟨by rfl, fun W hS => by clear hS; go_simp; try with_reducible rfl⟩) ?_)
            try simp only [Act.put, List.setIfInBounds_toArray, List.set_cons_zero, List.set_cons_succ]
          refine plan_done ?_
          refine mid_done ?_
          exact ⟨gx, xo, xc, lo, lc, wo, wc, by simp only [Act.put, List.setIfInBounds_toArray, List.set_cons_zero, List.set_cons_succ] <;> rfl, hz, hsl, hbz⟩
        · try have hnx : ∀ d, xo = some d → 0 < (entR (U).log).length → d.block ≠ wn.heap.size := fun d hd hn => by subst hd; have := Sl.block_lt hV8 hn (by decide); omega
          refine plan_alloc_has _ rfl (by rfl) 42 rfl (stC st0 none 0) st_zero (hbr.alloc hbr.size _) ?_
          try simp only [Act.put, List.setIfInBounds_toArray, List.set_cons_zero, List.set_cons_succ]
          obtain ⟨wm, hwm, hV, hq⟩ := one_var wn 42 (stC st0 none 0)
          rw [hwm]
          have hgx : w9.heap.size ≤ wn.heap.size := hbr.size
          try replace hDl := hDl.later hq
          try replace hDw := hDw.later hq
          try replace hV8 := hV8.later hq
          replace hbr := hbr.trans (hq.mono hbr.size)
          clear hq hwm
          generalize wn.heap.size = gx at *
          obtain ⟨wn, hwn⟩ : ∃ W, W = wm := ⟨_, rfl⟩
          subst hwn
          refine plan_run _ rfl (fun K hK => ?_)
          go_simp
          refine (apply_any T (makeM T U) xo lo wo xc lc wc _ hPo (make_fit hPo hQo) (hP8.later hbr) hDl hDw).mono ?_
          rintro en wm ⟨xo, xc, rfl, hG⟩
          rw [happ.out] at hG
          rw [happ.out]
          have hq := hG.below
          have hV8 := hG.sl
          try have hnx : ∀ d, xo = some d → 0 < (entR (U).log).length → d.block ≠ gx := fun d hd _ => by have := hG.new d hd; have := hV.lt; omega
          try replace hV := hV.later hq
          replace hbr := hbr.trans (hq.mono hbr.size)
          refine hK.out _ _ hbr ?_
          clear hK K hG hq
          try simp only [Act.put, List.setIfInBounds_toArray, List.set_cons_zero, List.set_cons_succ]
          obtain ⟨wn, hwn⟩ : ∃ W, W = wm := ⟨_, rfl⟩
          subst hwn
          iterate 3
            first
              | (refine plan_pass _ rfl (by rfl) ?_)
              | (refine plan_take _ _ rfl (.inl ⟨by rfl, fun W hS => by clear hS; go_simp; try with_reducible rfl⟩) ?_)
            try simp only [Act.put, List.setIfInBounds_toArray, List.set_cons_zero, List.set_cons_succ]
          have hz := hV.row (stC (U) xo xc)
          have hsl := hV8.row_if hnx (stC (U) xo xc)
          have hbz := below_setRow hbr hgx (stC (U) xo xc)
          refine plan_store_has _ rfl (by rfl) 42 _ _ rfl gx rfl (stC (U) xo xc) rfl 42 (stC st0 none 0) (st_size _ _ _) (st_same _ _ _ _ _ _) (st_one _ _ _) hV hbz ?_
          try simp only [Act.put, List.setIfInBounds_toArray, List.set_cons_zero, List.set_cons_succ]
          iterate 1
            first
              | (refine plan_pass _ rfl (by rfl) ?_)
              | (refine plan_take _ _ rfl (.inl ⟨by rfl, fun W hS => by clear hS; go_simp; try with_reducible rfl⟩) ?_)
            try simp only [Act.put, List.setIfInBounds_toArray, List.set_cons_zero, List.set_cons_succ]
          refine plan_done ?_
          refine mid_done ?_
          exact ⟨gx, xo, xc, lo, lc, wo, wc, by simp only [Act.put, List.setIfInBounds_toArray, List.set_cons_zero, List.set_cons_succ] <;> rfl, hz, hsl, hbz⟩
      · try have hnx : ∀ d, xo = some d → 0 < (entR (U).log).length → d.block ≠ wn.heap.size := fun d hd hn => by subst hd; have := Sl.block_lt hV8 hn (by decide); omega
        refine plan_alloc_has _ rfl (by rfl) 42 rfl (stC st0 none 0) st_zero (hbr.alloc hbr.size _) ?_
        try simp only [Act.put, List.setIfInBounds_toArray, List.set_cons_zero, List.set_cons_succ]
        obtain ⟨wm, hwm, hV, hq⟩ := one_var wn 42 (stC st0 none 0)
        rw [hwm]
        have hgx : w9.heap.size ≤ wn.heap.size := hbr.size
        try replace hDl := hDl.later hq
        try replace hDw := hDw.later hq
        try replace hV8 := hV8.later hq
        replace hbr := hbr.trans (hq.mono hbr.size)
        clear hq hwm
        generalize wn.heap.size = gx at *
        obtain ⟨wn, hwn⟩ : ∃ W, W = wm := ⟨_, rfl⟩
        subst hwn
        refine plan_run _ rfl (fun K hK => ?_)
        go_simp
        refine (make_any T U xo uo xc uc _ hPo hQo (hP8.later hbr) (hQ8.later hbr)).mono ?_
        rintro en wm ⟨lo, lc, wo, wc, rfl, hG⟩
        have hq := hG.below
        have hDl := hG.sl
        have hDw := hG.wl
        try replace hV := hV.later hq
        replace hbr := hbr.trans (hq.mono hbr.size)
        refine hK.out _ _ hbr ?_
        clear hK K hG hq
        try simp only [Act.put, List.setIfInBounds_toArray, List.set_cons_zero, List.set_cons_succ]
        obtain ⟨wn, hwn⟩ : ∃ W, W = wm := ⟨_, rfl⟩
        subst hwn
        refine plan_run _ rfl (fun K hK => ?_)
        go_simp
        refine (apply_any T (makeM T U) xo lo wo xc lc wc _ hPo (make_fit hPo hQo) (hP8.later hbr) hDl hDw).mono ?_
        rintro en wm ⟨xo, xc, rfl, hG⟩
        rw [happ.out] at hG
        rw [happ.out]
        have hq := hG.below
        have hV8 := hG.sl
        try have hnx : ∀ d, xo = some d → 0 < (entR (U).log).length → d.block ≠ gx := fun d hd _ => by have := hG.new d hd; have := hV.lt; omega
        try replace hV := hV.later hq
        replace hbr := hbr.trans (hq.mono hbr.size)
        refine hK.out _ _ hbr ?_
        clear hK K hG hq
        try simp only [Act.put, List.setIfInBounds_toArray, List.set_cons_zero, List.set_cons_succ]
        obtain ⟨wn, hwn⟩ : ∃ W, W = wm := ⟨_, rfl⟩
        subst hwn
        iterate 3
          first
            | (refine plan_pass _ rfl (by rfl) ?_)
            | (refine plan_take _ _ rfl (.inl ⟨by rfl, fun W hS => by clear hS; go_simp; try with_reducible rfl⟩) ?_)
          try simp only [Act.put, List.setIfInBounds_toArray, List.set_cons_zero, List.set_cons_succ]
        have hz := hV.row (stC (U) xo xc)
        have hsl := hV8.row_if hnx (stC (U) xo xc)
        have hbz := below_setRow hbr hgx (stC (U) xo xc)
        refine plan_store_has _ rfl (by rfl) 42 _ _ rfl gx rfl (stC (U) xo xc) rfl 42 (stC st0 none 0) (st_size _ _ _) (st_same _ _ _ _ _ _) (st_one _ _ _) hV hbz ?_
        try simp only [Act.put, List.setIfInBounds_toArray, List.set_cons_zero, List.set_cons_succ]
        iterate 1
          first
            | (refine plan_pass _ rfl (by rfl) ?_)
            | (refine plan_take _ _ rfl (.inl ⟨by rfl, fun W hS => by clear hS; go_simp; try with_reducible rfl⟩) ?_)
          try simp only [Act.put, List.setIfInBounds_toArray, List.set_cons_zero, List.set_cons_succ]
        refine plan_done ?_
        refine mid_done ?_
        exact ⟨gx, xo, xc, lo, lc, wo, wc, by simp only [Act.put, List.setIfInBounds_toArray, List.set_cons_zero, List.set_cons_succ] <;> rfl, hz, hsl, hbz⟩
    case hrest =>
      rintro _ w10 ⟨gx, yo, yc, lo3, lc3, wo3, wc3, rfl, hW2, hW8, hq⟩
      try simp only [Act.put, List.setIfInBounds_toArray, List.set_cons_zero, List.set_cons_succ]
      replace hS8 := hS8.later hq
      replace hU8 := hU8.later hq
      replace hX := hX.later hq
      replace hZ := hZ.later hq
      replace hb := hb.trans (hq.mono hb.size)
      clear hq F8 hP hQ hP8 hQ8 hPo hQo happ happ2 hbr hLP hLQ hV hV8
      generalize makeM T U = D3 at *
      go_wp2_with fail
      have hP := hX
      have hQ := hZ
      have hPo := hSo
      have hQo := hUo
      have hP8 := hS8
      have hQ8 := hU8
      have happ := happ3
      let F8 : Act → Act → World → Prop := fun a a' w' => ∃ (gx : Nat) (zo : Option Addr) (zc : Nat) (lo : Option Addr) (lc : Nat) (wo : Option Addr) (wc : Nat), a' = (((((((((a.put (some 78) (.agg (stC S ro rc))).put (some 79) (.agg (stC S ro rc))).put (some 80) (.agg (stC U uo uc))).put (some 81) (.agg (diffC (makeM S U) lo lc wo wc))).put (some 82) (.tuple #[.agg (stC U zo zc), .int .i64 ((0 : Nat) : Int)])).put (some 77) (.tuple #[.agg (stC U zo zc), .int .i64 ((0 : Nat) : Int)])).put (some 83) (.agg (stC U zo zc))).put (some 84) (.int .i64 ((0 : Nat) : Int))).put (some 22) (.pointer (some ⟨gx, 0, none⟩))).put (some 23) (.int .i64 ((0 : Nat) : Int)) ∧ Has w' gx 42 (stC U zo zc) ∧ Sl w' zo zc 8 (entR U.log) ∧ Below w10.heap.size w10 w'
      generalize gx = gy at *
      have hbr : Below w10.heap.size w10 w10.drew := (Below.refl _ _).drew
      have hLP := hP
      have hLQ := hQ
      refine wp_region_plan_mid (fun W => Below w10.heap.size w10 W) (Plan.of [(0, true), (1, true), (2, true)] (.either 3 (.either 4 (Plan.of [(5, true), (6, true), (7, true), (8, false), (9, false), (10, true)] .done) 8 (Plan.of [(4, false), (5, true), (6, true), (7, true), (9, false), (10, true)] .done)) 8 (Plan.of [(3, false), (4, false), (5, true), (6, true), (7, true), (9, false), (10, true)] .done))) F8 (by kernel_rfl) (by kernel_rfl) (by kernel_rfl) (by kernel_rfl) hbr ?hplan ?hrest
      case hplan =>
        refine plan_take _ _ rfl (yields_load_has (by rfl) 42 _ rfl (gs) rfl 42 (stC S ro rc) _ Try.underlying42 rfl (st_size _ _ _) (fun W hW => hP.later hW)) ?_
        try simp only [Act.put, List.setIfInBounds_toArray, List.set_cons_zero, List.set_cons_succ]
        refine plan_take _ _ rfl (yields_load_has (by rfl) 42 _ rfl (gs) rfl 42 (stC S ro rc) _ Try.underlying42 rfl (st_size _ _ _) (fun W hW => hP.later hW)) ?_
        try simp only [Act.put, List.setIfInBounds_toArray, List.set_cons_zero, List.set_cons_succ]
        refine plan_take _ _ rfl (yields_load_has (by rfl) 42 _ rfl (gs + 1 + 1) rfl 42 (stC U uo uc) _ Try.underlying42 rfl (st_size _ _ _) (fun W hW => hQ.later hW)) ?_
        try simp only [Act.put, List.setIfInBounds_toArray, List.set_cons_zero, List.set_cons_succ]
        generalize w10.drew = wn at *
        refine plan_either ?_ ?_
        · refine plan_run _ rfl (fun K hK => ?_)
          go_simp
          refine (make_any S U ro uo rc uc _ hPo hQo (hP8.later hbr) (hQ8.later hbr)).mono ?_
          rintro en wm ⟨lo, lc, wo, wc, rfl, hG⟩
          have hq := hG.below
          have hDl := hG.sl
          have hDw := hG.wl
          try replace hV := hV.later hq
          replace hbr := hbr.trans (hq.mono hbr.size)
          refine hK.out _ _ hbr ?_
          clear hK K hG hq
          try simp only [Act.put, List.setIfInBounds_toArray, List.set_cons_zero, List.set_cons_succ]
          obtain ⟨wn, hwn⟩ : ∃ W, W = wm := ⟨_, rfl⟩
          subst hwn
          refine plan_either ?_ ?_
          · refine plan_run _ rfl (fun K hK => ?_)
            go_simp
            refine (apply_any S (makeM S U) ro lo wo rc lc wc _ hPo (make_fit hPo hQo) (hP8.later hbr) hDl hDw).mono ?_
            rintro en wm ⟨xo, xc, rfl, hG⟩
            rw [happ.out] at hG
            rw [happ.out]
            have hq := hG.below
            have hV8 := hG.sl
            try have hnx : ∀ d, xo = some d → 0 < (entR (U).log).length → d.block ≠ gx := fun d hd _ => by have := hG.new d hd; have := hV.lt; omega
            try replace hV := hV.later hq
            replace hbr := hbr.trans (hq.mono hbr.size)
            refine hK.out _ _ hbr ?_
            clear hK K hG hq
            try simp only [Act.put, List.setIfInBounds_toArray, List.set_cons_zero, List.set_cons_succ]
            obtain ⟨wn, hwn⟩ : ∃ W, W = wm := ⟨_, rfl⟩
            subst hwn
            iterate 3
              first
                | (refine plan_pass _ rfl (by rfl) ?_)
                | (refine plan_take _ _ rfl (.inl ⟨by rfl, fun W hS => by clear hS; go_simp; try with_reducible rfl⟩) ?_)
              try simp only [Act.put, List.setIfInBounds_toArray, List.set_cons_zero, List.set_cons_succ]
            try have hnx : ∀ d, xo = some d → 0 < (entR (U).log).length → d.block ≠ wn.heap.size := fun d hd hn => by subst hd; have := Sl.block_lt hV8 hn (by decide); omega
            refine plan_alloc_has _ rfl (by rfl) 42 rfl (stC st0 none 0) st_zero (hbr.alloc hbr.size _) ?_
            try simp only [Act.put, List.setIfInBounds_toArray, List.set_cons_zero, List.set_cons_succ]
            obtain ⟨wm, hwm, hV, hq⟩ := one_var wn 42 (stC st0 none 0)
            rw [hwm]
            have hgx : w10.heap.size ≤ wn.heap.size := hbr.size
            try replace hDl := hDl.later hq
            try replace hDw := hDw.later hq
            try replace hV8 := hV8.later hq
            replace hbr := hbr.trans (hq.mono hbr.size)
            clear hq hwm
            generalize wn.heap.size = gx at *
            obtain ⟨wn, hwn⟩ : ∃ W, W = wm := ⟨_, rfl⟩
            subst hwn
            have hz := hV.row (stC (U) xo xc)
            have hsl := hV8.row_if hnx (stC (U) xo xc)
            have hbz := below_setRow hbr hgx (stC (U) xo xc)
            refine plan_store_has _ rfl (by rfl) 42 _ _ rfl gx rfl (stC (U) xo xc) rfl 42 (stC st0 none 0) (st_size _ _ _) (st_same _ _ _ _ _ _) (st_one _ _ _) hV hbz ?_
            try simp only [Act.put, List.setIfInBounds_toArray, List.set_cons_zero, List.set_cons_succ]
            iterate 1
              first
                | (refine plan_pass _ rfl (by rfl) ?_)
                | (refine plan_take _ _ rfl (.inl ⟨by rfl, fun W hS => by clear hS; go_simp; try with_reducible rfl⟩) ?_)
              try simp only [Act.put, List.setIfInBounds_toArray, List.set_cons_zero, List.set_cons_succ]
            refine plan_done ?_
            refine mid_done ?_
            exact ⟨gx, xo, xc, lo, lc, wo, wc, by simp only [Act.put, List.setIfInBounds_toArray, List.set_cons_zero, List.set_cons_succ] <;> rfl, hz, hsl, hbz⟩
          · try have hnx : ∀ d, xo = some d → 0 < (entR (U).log).length → d.block ≠ wn.heap.size := fun d hd hn => by subst hd; have := Sl.block_lt hV8 hn (by decide); omega
            refine plan_alloc_has _ rfl (by rfl) 42 rfl (stC st0 none 0) st_zero (hbr.alloc hbr.size _) ?_
            try simp only [Act.put, List.setIfInBounds_toArray, List.set_cons_zero, List.set_cons_succ]
            obtain ⟨wm, hwm, hV, hq⟩ := one_var wn 42 (stC st0 none 0)
            rw [hwm]
            have hgx : w10.heap.size ≤ wn.heap.size := hbr.size
            try replace hDl := hDl.later hq
            try replace hDw := hDw.later hq
            try replace hV8 := hV8.later hq
            replace hbr := hbr.trans (hq.mono hbr.size)
            clear hq hwm
            generalize wn.heap.size = gx at *
            obtain ⟨wn, hwn⟩ : ∃ W, W = wm := ⟨_, rfl⟩
            subst hwn
            refine plan_run _ rfl (fun K hK => ?_)
            go_simp
            refine (apply_any S (makeM S U) ro lo wo rc lc wc _ hPo (make_fit hPo hQo) (hP8.later hbr) hDl hDw).mono ?_
            rintro en wm ⟨xo, xc, rfl, hG⟩
            rw [happ.out] at hG
            rw [happ.out]
            have hq := hG.below
            have hV8 := hG.sl
            try have hnx : ∀ d, xo = some d → 0 < (entR (U).log).length → d.block ≠ gx := fun d hd _ => by have := hG.new d hd; have := hV.lt; omega
            try replace hV := hV.later hq
            replace hbr := hbr.trans (hq.mono hbr.size)
            refine hK.out _ _ hbr ?_
            clear hK K hG hq
            try simp only [Act.put, List.setIfInBounds_toArray, List.set_cons_zero, List.set_cons_succ]
            obtain ⟨wn, hwn⟩ : ∃ W, W = wm := ⟨_, rfl⟩
            subst hwn
            iterate 3
              first
                | (refine plan_pass _ rfl (by rfl) ?_)
                | (refine plan_take _ _ rfl (.inl ⟨by rfl, fun W hS => by clear hS; go_simp; try with_reducible rfl⟩) ?_)
              try simp only [Act.put, List.setIfInBounds_toArray, List.set_cons_zero, List.set_cons_succ]
            have hz := hV.row (stC (U) xo xc)
            have hsl := hV8.row_if hnx (stC (U) xo xc)
            have hbz := below_setRow hbr hgx (stC (U) xo xc)
            refine plan_store_has _ rfl (by rfl) 42 _ _ rfl gx rfl (stC (U) xo xc) rfl 42 (stC st0 none 0) (st_size _ _ _) (st_same _ _ _ _ _ _) (st_one _ _ _) hV hbz ?_
            try simp only [Act.put, List.setIfInBounds_toArray, List.set_cons_zero, List.set_cons_succ]
            iterate 1
              first
                | (refine plan_pass _ rfl (by rfl) ?_)
                | (refine plan_take _ _ rfl (.inl ⟨by rfl, fun W hS => by clear hS; go_simp; try with_reducible rfl⟩) ?_)
              try simp only [Act.put, List.setIfInBounds_toArray, List.set_cons_zero, List.set_cons_succ]
            refine plan_done ?_
            refine mid_done ?_
            exact ⟨gx, xo, xc, lo, lc, wo, wc, by simp only [Act.put, List.setIfInBounds_toArray, List.set_cons_zero, List.set_cons_succ] <;> rfl, hz, hsl, hbz⟩
        · try have hnx : ∀ d, xo = some d → 0 < (entR (U).log).length → d.block ≠ wn.heap.size := fun d hd hn => by subst hd; have := Sl.block_lt hV8 hn (by decide); omega
          refine plan_alloc_has _ rfl (by rfl) 42 rfl (stC st0 none 0) st_zero (hbr.alloc hbr.size _) ?_
          try simp only [Act.put, List.setIfInBounds_toArray, List.set_cons_zero, List.set_cons_succ]
          obtain ⟨wm, hwm, hV, hq⟩ := one_var wn 42 (stC st0 none 0)
          rw [hwm]
          have hgx : w10.heap.size ≤ wn.heap.size := hbr.size
          try replace hDl := hDl.later hq
          try replace hDw := hDw.later hq
          try replace hV8 := hV8.later hq
          replace hbr := hbr.trans (hq.mono hbr.size)
          clear hq hwm
          generalize wn.heap.size = gx at *
          obtain ⟨wn, hwn⟩ : ∃ W, W = wm := ⟨_, rfl⟩
          subst hwn
          refine plan_run _ rfl (fun K hK => ?_)
          go_simp
          refine (make_any S U ro uo rc uc _ hPo hQo (hP8.later hbr) (hQ8.later hbr)).mono ?_
          rintro en wm ⟨lo, lc, wo, wc, rfl, hG⟩
          have hq := hG.below
          have hDl := hG.sl
          have hDw := hG.wl
          try replace hV := hV.later hq
          replace hbr := hbr.trans (hq.mono hbr.size)
          refine hK.out _ _ hbr ?_
          clear hK K hG hq
          try simp only [Act.put, List.setIfInBounds_toArray, List.set_cons_zero, List.set_cons_succ]
          obtain ⟨wn, hwn⟩ : ∃ W, W = wm := ⟨_, rfl⟩
          subst hwn
          refine plan_run _ rfl (fun K hK => ?_)
          go_simp
          refine (apply_any S (makeM S U) ro lo wo rc lc wc _ hPo (make_fit hPo hQo) (hP8.later hbr) hDl hDw).mono ?_
          rintro en wm ⟨xo, xc, rfl, hG⟩
          rw [happ.out] at hG
          rw [happ.out]
          have hq := hG.below
          have hV8 := hG.sl
          try have hnx : ∀ d, xo = some d → 0 < (entR (U).log).length → d.block ≠ gx := fun d hd _ => by have := hG.new d hd; have := hV.lt; omega
          try replace hV := hV.later hq
          replace hbr := hbr.trans (hq.mono hbr.size)
          refine hK.out _ _ hbr ?_
          clear hK K hG hq
          try simp only [Act.put, List.setIfInBounds_toArray, List.set_cons_zero, List.set_cons_succ]
          obtain ⟨wn, hwn⟩ : ∃ W, W = wm := ⟨_, rfl⟩
          subst hwn
          iterate 3
            first
              | (refine plan_pass _ rfl (by rfl) ?_)
              | (refine plan_take _ _ rfl (.inl ⟨by rfl, fun W hS => by clear hS; go_simp; try with_reducible rfl⟩) ?_)
            try simp only [Act.put, List.setIfInBounds_toArray, List.set_cons_zero, List.set_cons_succ]
          have hz := hV.row (stC (U) xo xc)
          have hsl := hV8.row_if hnx (stC (U) xo xc)
          have hbz := below_setRow hbr hgx (stC (U) xo xc)
          refine plan_store_has _ rfl (by rfl) 42 _ _ rfl gx rfl (stC (U) xo xc) rfl 42 (stC st0 none 0) (st_size _ _ _) (st_same _ _ _ _ _ _) (st_one _ _ _) hV hbz ?_
          try simp only [Act.put, List.setIfInBounds_toArray, List.set_cons_zero, List.set_cons_succ]
          iterate 1
            first
              | (refine plan_pass _ rfl (by rfl) ?_)
              | (refine plan_take _ _ rfl (.inl ⟨by rfl, fun W hS => by clear hS; go_simp; try with_reducible rfl⟩) ?_)
            try simp only [Act.put, List.setIfInBounds_toArray, List.set_cons_zero, List.set_cons_succ]
          refine plan_done ?_
          refine mid_done ?_
          exact ⟨gx, xo, xc, lo, lc, wo, wc, by simp only [Act.put, List.setIfInBounds_toArray, List.set_cons_zero, List.set_cons_succ] <;> rfl, hz, hsl, hbz⟩
      case hrest =>
        rintro _ w11 ⟨gx, zo, zc, lo4, lc4, wo4, wc4, rfl, hV, hV8, hq⟩
        try simp only [Act.put, List.setIfInBounds_toArray, List.set_cons_zero, List.set_cons_succ]
        replace hU8 := hU8.later hq
        replace hZ := hZ.later hq
        replace hW2 := hW2.later hq
        replace hW8 := hW8.later hq
        replace hb := hb.trans (hq.mono hb.size)
        clear hq F8 hP hQ hP8 hQ8 hPo hQo happ happ3 hbr hLP hLQ
        generalize makeM S U = D4 at *
        go_wp2_with (first
          | (refine wpList_load_has (by rfl) 42 _ rfl (gy) rfl 42 (stC U yo yc) _ Try.underlying42 rfl (st_size _ _ _) ?hg ?_; (case hg => exact hW2))
          | (refine wpList_load_has (by rfl) 42 _ rfl (gx) rfl 42 (stC U zo zc) _ Try.underlying42 rfl (st_size _ _ _) ?hg ?_; (case hg => exact hV))
          | fail)
        refine (same_any U U yo zo yc zc _ hUo hUo hW8 hV8).mono ?_
        rintro en w12 ⟨rfl, hq⟩
        rw [same_self]
        replace hU8 := hU8.later hq
        replace hZ := hZ.later hq
        replace hW2 := hW2.later hq
        replace hW8 := hW8.later hq
        replace hb := hb.trans (hq.mono hb.size)
        clear hq
        go_wp2_with (first
          | (refine wpList_load_has (by rfl) 42 _ rfl (gy) rfl 42 (stC U yo yc) _ Try.underlying42 rfl (st_size _ _ _) ?hg ?_; (case hg => exact hW2))
          | (refine wpList_load_has (by rfl) 42 _ rfl (gs + 1 + 1) rfl 42 (stC U uo uc) _ Try.underlying42 rfl (st_size _ _ _) ?hg ?_; (case hg => exact hZ))
          | fail)
        refine (same_any U U yo uo yc uc _ hUo hUo hW8 hU8).mono ?_
        rintro en w13 ⟨rfl, hq⟩
        rw [same_self]
        replace hb := hb.trans (hq.mono hb.size)
        clear hq
        go_wp2_with fail
        go_ret
        exact ⟨rfl, hb⟩
end Go.Proofs.Ytphlfepgaghhhab
