/- The contracts of merge's ended. -/
import Derived.Test.YtphlfepgaghhhabMergeWay
namespace Go.Proofs.Ytphlfepgaghhhab
set_option linter.unusedSimpArgs false
set_option linter.unusedVariables false
set_option maxRecDepth 100000
open Go.RowKit

theorem ended_parts (s t : StV) : endedM s t = (startAt (tailM s t.tail.n).1 t.started, decide ((tailM s t.tail.n).2 = 0) && decide ((startAt (tailM s t.tail.n).1 t.started).tail.since = t.tail.since)) := rfl

set_option maxHeartbeats 4000000 in
theorem ended_any (s t : StV) (ao bo : Option Addr) (c d : Nat) (w : World) (hs : StOk s) (ht : StOk t) (h : Sl w ao c 8 (entR s.log)) :
    Calls Try.prog 32 #[.agg (stC s ao c), .agg (stC t bo d)] w fun en w' => ∃ ro rc, en = .returned (.tuple #[.agg (stC (endedM s t).1 ro rc), .bool (endedM s t).2]) ∧ Gives w w' (endedM s t).1 ro rc := by
  obtain ⟨w1, hw1, hX, hY, hR, hb⟩ := three_vars w 42 42 42 (stC s ao c) (stC t bo d) (stC st0 none 0)
  have hM : Hid _ := ended_parts s t
  have y1 := hY.st_tail_n
  go_enter Try.func32, Try.ntmps32
  go_wp2_with (first
    | (refine wpList_alloc_has (by rfl) 42 rfl (stC st0 none 0) st_zero ?_; rw [hw1])
    | (refine wpList_load_has (by rfl) 42 _ rfl (w.heap.size) rfl 42 (stC s ao c) _ Try.underlying42 rfl (st_size _ _ _) ?hg ?_; (case hg => exact hX))
    | fail)
  refine (tail_any s ao c t.tail.n _ hs (h.later hb) ht.tail.n).mono ?_
  rintro en w2 ⟨ro, rc, rfl, hG⟩
  have hlt0 := hR.lt
  have hS2 := hG.sl
  have hnew : ∀ d, ro = some d → w.heap.size + 1 + 1 < d.block := fun d hd => by have := hG.new d hd; omega
  replace hX := hX.later hG.below
  replace hY := hY.later hG.below
  replace hR := hR.later hG.below
  replace hb := hb.trans (hG.below.mono hb.size)
  clear hG y1 hw1
  generalize (tailM s t.tail.n).1 = T at *
  generalize (tailM s t.tail.n).2 = E at *
  have hX3 := hX.row (stC T ro rc)
  have hY3 := hY.row_other (k := w.heap.size) (by omega) (stC T ro rc)
  have hR3 := hR.row_other (k := w.heap.size) (by omega) (stC T ro rc)
  have hS3 := hS2.row_other (k := w.heap.size) (fun d hd => by have := hnew d hd; omega) (stC T ro rc)
  have hb3 := below_setRow hb (Nat.le_refl _) (stC T ro rc)
  obtain ⟨w3, hw3⟩ : ∃ W, w2.setRow w.heap.size (stC T ro rc) = W := ⟨_, rfl⟩
  rw [hw3] at hX3 hY3 hR3 hS3 hb3
  have y0 := hY3.st_started
  have x0 := hX3.st_started
  have f0 := hX3.free 0
  have hX4 := hX3.setStart t.started
  have hY4 := hY3.set_other (a := ⟨w.heap.size, 0, none⟩) (show w.heap.size + 1 ≠ w.heap.size by omega) (.int .u32 (t.started : Int))
  have hR4 := hR3.set_other (a := ⟨w.heap.size, 0, none⟩) (show w.heap.size + 1 + 1 ≠ w.heap.size by omega) (.int .u32 (t.started : Int))
  have hS4 := hS3.cell_other (a := ⟨w.heap.size, 0, none⟩) (fun d hd => by have := hnew d hd; show d.block ≠ w.heap.size; omega) (.int .u32 (t.started : Int))
  have hb4 := hb3.setCell (show w.heap.size ≤ (⟨w.heap.size, 0, none⟩ : Addr).block from Nat.le_refl _) (.int .u32 (t.started : Int))
  obtain ⟨w4, hw4⟩ : ∃ W, w3.setCell ⟨w.heap.size, 0, none⟩ (.int .u32 (t.started : Int)) = W := ⟨_, rfl⟩
  rw [hw4] at hX4 hY4 hR4 hS4 hb4
  have hS4 : Sl w4 ro rc 8 (entR (startAt T t.started).log) := hS4
  clear hY hR hb hS2 hX3 hY3 hR3 hS3 hb3
  go_wp2_with (first
    | (refine wpList_store_to (by rfl) 42 _ _ rfl (w.heap.size) rfl (stC T ro rc) rfl 42 (stC s ao c) (st_size _ _ _) (st_same _ _ _ _ _ _) (st_one _ _ _) ?hg w3 ?hW ?_; (case hg => exact hX); (case hW => exact hw3))
    | fail)
  clear hX x0 y0 f0 hw3 hw4
  generalize startAt T t.started = U at *
  have hXA := hX4.drew
  have hYA := hY4.drew
  have hRA := hR4.drew
  have hz := hRA.row (stC U ro rc)
  have hsl := (hS4.later ((Below.refl w4.heap.size w4).drew)).row_other (k := w.heap.size + 1 + 1) (fun d hd => by have := hnew d hd; omega) (stC U ro rc)
  have hbz := below_setRow hb4.drew (show w.heap.size ≤ w.heap.size + 1 + 1 by omega) (stC U ro rc)
  have hgn : ∀ d, ro = some d → w.heap.size ≤ d.block := fun d hd => by have := hnew d hd; omega
  have hXz := hXA.row_other (k := w.heap.size + 1 + 1) (by omega) (stC U ro rc)
  have hYz := hYA.row_other (k := w.heap.size + 1 + 1) (by omega) (stC U ro rc)
  refine wp_region_plan (fun W => Has W w.heap.size 42 (stC U ro rc) ∧ Has W (w.heap.size + 1) 42 (stC t bo d)) (Plan.of [(0, true), (1, true), (2, true), (3, true), (4, true), (5, true), (6, true), (7, true), (8, true), (9, true), (10, true), (11, true), (12, false), (13, true)] .done) (by kernel_rfl) (by kernel_rfl) (by kernel_rfl) (by kernel_rfl) ⟨hXA, hYA⟩ ?_
  refine plan_take _ _ rfl (yields_load_has (by rfl) 42 _ rfl (w.heap.size) rfl 42 (stC U ro rc) _ Try.underlying42 rfl (st_size _ _ _) (fun W hW => hW.1)) ?_
  try simp only [Act.put, List.setIfInBounds_toArray, List.set_cons_zero, List.set_cons_succ]
  iterate 1
    first
      | (refine plan_pass _ rfl (by rfl) ?_)
      | (refine plan_take _ _ rfl (.inl ⟨by rfl, fun W hS => by clear hS; go_simp; try with_reducible rfl⟩) ?_)
    try simp only [Act.put, List.setIfInBounds_toArray, List.set_cons_zero, List.set_cons_succ]
  by_cases h0 : E = 0
  · have h0I : ((E : Int) == 0) = true := by rw [h0]; rfl
    have h0N : (E == 0) = true := by rw [h0]; rfl
    rw [decide_eq_true h0, Bool.true_and] at hM
    clear h0
    refine plan_take _ (.bool true) rfl (.inl ⟨by rfl, fun W hS => by clear hS; go_simp; try with_reducible rfl⟩) ?_
    try simp only [Act.put, List.setIfInBounds_toArray, List.set_cons_zero, List.set_cons_succ]
    iterate 1
      first
        | (refine plan_pass _ rfl (by rfl) ?_)
        | (refine plan_take _ _ rfl (.inl ⟨by rfl, fun W hS => by clear hS; go_simp; try with_reducible rfl⟩) ?_)
      try simp only [Act.put, List.setIfInBounds_toArray, List.set_cons_zero, List.set_cons_succ]
    iterate 3
      first
        | (refine plan_pass _ rfl (by rfl) ?_)
        | (refine plan_take _ _ rfl (.inl ⟨by rfl, fun W hS => by have z0 := hS.1.st_tail_since; go_simp; try with_reducible rfl⟩) ?_)
      try simp only [Act.put, List.setIfInBounds_toArray, List.set_cons_zero, List.set_cons_succ]
    iterate 3
      first
        | (refine plan_pass _ rfl (by rfl) ?_)
        | (refine plan_take _ _ rfl (.inl ⟨by rfl, fun W hS => by have z0 := hS.2.st_tail_since; go_simp; try with_reducible rfl⟩) ?_)
      try simp only [Act.put, List.setIfInBounds_toArray, List.set_cons_zero, List.set_cons_succ]
    by_cases h1 : U.tail.since = t.tail.since
    · have h1I : ((U.tail.since : Int) == (t.tail.since : Int)) = true := by rw [h1]; simp
      have h1N : (U.tail.since == t.tail.since) = true := by rw [h1]; simp
      rw [decide_eq_true h1] at hM
      clear h1
      refine plan_take _ (.bool true) rfl (.inl ⟨by rfl, fun W hS => by clear hS; go_simp; try with_reducible rfl⟩) ?_
      try simp only [Act.put, List.setIfInBounds_toArray, List.set_cons_zero, List.set_cons_succ]
      iterate 1
        first
          | (refine plan_pass _ rfl (by rfl) ?_)
          | (refine plan_take _ _ rfl (.inl ⟨by rfl, fun W hS => by clear hS; go_simp; try with_reducible rfl⟩) ?_)
        try simp only [Act.put, List.setIfInBounds_toArray, List.set_cons_zero, List.set_cons_succ]
      refine plan_store_has _ rfl (by rfl) 42 _ _ rfl (w.heap.size + 1 + 1) rfl (stC U ro rc) rfl 42 (stC st0 none 0) (st_size _ _ _) (st_same _ _ _ _ _ _) (st_one _ _ _) hRA ⟨hXz, hYz⟩ ?_
      try simp only [Act.put, List.setIfInBounds_toArray, List.set_cons_zero, List.set_cons_succ]
      iterate 1
        first
          | (refine plan_pass _ rfl (by rfl) ?_)
          | (refine plan_take _ _ rfl (.inl ⟨by rfl, fun W hS => by clear hS; go_simp; try with_reducible rfl⟩) ?_)
        try simp only [Act.put, List.setIfInBounds_toArray, List.set_cons_zero, List.set_cons_succ]
      refine plan_done ?_
      go_wp2
      refine ret_has_tmp rfl (w.heap.size + 1 + 1) rfl 42 (stC U ro rc) _ Try.underlying42 rfl (st_size _ _ _) hz rfl ⟨ro, rc, by rw [hM.out]; rfl, ?_⟩
      rw [hM.out]
      exact ⟨hsl, hgn, hbz⟩
    · have h1I : ((U.tail.since : Int) == (t.tail.since : Int)) = false := by rw [beq_eq_false_iff_ne]; omega
      have h1N : (U.tail.since == t.tail.since) = false := by rw [beq_eq_false_iff_ne]; omega
      rw [decide_eq_false h1] at hM
      clear h1
      refine plan_take _ (.bool false) rfl (.inl ⟨by rfl, fun W hS => by clear hS; go_simp; try with_reducible rfl⟩) ?_
      try simp only [Act.put, List.setIfInBounds_toArray, List.set_cons_zero, List.set_cons_succ]
      iterate 1
        first
          | (refine plan_pass _ rfl (by rfl) ?_)
          | (refine plan_take _ _ rfl (.inl ⟨by rfl, fun W hS => by clear hS; go_simp; try with_reducible rfl⟩) ?_)
        try simp only [Act.put, List.setIfInBounds_toArray, List.set_cons_zero, List.set_cons_succ]
      refine plan_store_has _ rfl (by rfl) 42 _ _ rfl (w.heap.size + 1 + 1) rfl (stC U ro rc) rfl 42 (stC st0 none 0) (st_size _ _ _) (st_same _ _ _ _ _ _) (st_one _ _ _) hRA ⟨hXz, hYz⟩ ?_
      try simp only [Act.put, List.setIfInBounds_toArray, List.set_cons_zero, List.set_cons_succ]
      iterate 1
        first
          | (refine plan_pass _ rfl (by rfl) ?_)
          | (refine plan_take _ _ rfl (.inl ⟨by rfl, fun W hS => by clear hS; go_simp; try with_reducible rfl⟩) ?_)
        try simp only [Act.put, List.setIfInBounds_toArray, List.set_cons_zero, List.set_cons_succ]
      refine plan_done ?_
      go_wp2
      refine ret_has_tmp rfl (w.heap.size + 1 + 1) rfl 42 (stC U ro rc) _ Try.underlying42 rfl (st_size _ _ _) hz rfl ⟨ro, rc, by rw [hM.out]; rfl, ?_⟩
      rw [hM.out]
      exact ⟨hsl, hgn, hbz⟩
  · have h0I : ((E : Int) == 0) = false := by rw [beq_eq_false_iff_ne]; omega
    have h0N : (E == 0) = false := by rw [beq_eq_false_iff_ne]; omega
    rw [decide_eq_false h0, Bool.false_and] at hM
    clear h0
    refine plan_take _ (.bool false) rfl (.inl ⟨by rfl, fun W hS => by clear hS; go_simp; try with_reducible rfl⟩) ?_
    try simp only [Act.put, List.setIfInBounds_toArray, List.set_cons_zero, List.set_cons_succ]
    iterate 9
      first
        | (refine plan_pass _ rfl (by rfl) ?_)
        | (refine plan_take _ _ rfl (.inl ⟨by rfl, fun W hS => by clear hS; go_simp; try with_reducible rfl⟩) ?_)
      try simp only [Act.put, List.setIfInBounds_toArray, List.set_cons_zero, List.set_cons_succ]
    refine plan_store_has _ rfl (by rfl) 42 _ _ rfl (w.heap.size + 1 + 1) rfl (stC U ro rc) rfl 42 (stC st0 none 0) (st_size _ _ _) (st_same _ _ _ _ _ _) (st_one _ _ _) hRA ⟨hXz, hYz⟩ ?_
    try simp only [Act.put, List.setIfInBounds_toArray, List.set_cons_zero, List.set_cons_succ]
    iterate 1
      first
        | (refine plan_pass _ rfl (by rfl) ?_)
        | (refine plan_take _ _ rfl (.inl ⟨by rfl, fun W hS => by clear hS; go_simp; try with_reducible rfl⟩) ?_)
      try simp only [Act.put, List.setIfInBounds_toArray, List.set_cons_zero, List.set_cons_succ]
    refine plan_done ?_
    go_wp2
    refine ret_has_tmp rfl (w.heap.size + 1 + 1) rfl 42 (stC U ro rc) _ Try.underlying42 rfl (st_size _ _ _) hz rfl ⟨ro, rc, by rw [hM.out]; rfl, ?_⟩
    rw [hM.out]
    exact ⟨hsl, hgn, hbz⟩
end Go.Proofs.Ytphlfepgaghhhab
