/- Ref8Make, Ref8Ext, joined. -/
import Derived.Test.YtphlfepgaghhhaaRef8Low
import Derived.Test.YtphlfepgaghhhaaRefMost
import Derived.Test.YtphlfepgaghhhaaMergeDone
namespace Go.Proofs.Ytphlfepgaghhhaa
set_option linter.unusedSimpArgs false
set_option linter.unusedVariables false
set_option maxRecDepth 100000
open Go.RowKit

theorem wpList_build_one8 {P : Program} {ops : Array Oper} {rest : List Oper} {o : Oper} {a : Act} {w : World} {Q : Exit → Act → World → Prop} (hw : Region.wanted o (yielded ops a.tmps) = true) (t : TypeId) (i : Nat) (x : Operand) (ho : o.op = .build t #[(i, x)]) (p : Value) (hx : a.eval x = p) (c : Array Value) (hf : P.built t [(i, p)] = some c)
    (h : wpList P ops Q rest (a.put o.dst (.agg c)) w) : wpList P ops Q (o :: rest) a w :=
  wpList_build_has hw t _ ho c (by simpa [hx] using hf) h

set_option maxHeartbeats 8000000 in
theorem refmake_any (s t : StV) (ao bo : Option Addr) (c d : Nat) (w : World) (hs : StOk s) (ht : StOk t) (h : Sl w ao c 8 (entR s.log)) (h' : Sl w bo d 8 (entR t.log)) :
    Calls Try.prog 32 #[.agg (stC s ao c), .agg (stC t bo d)] w fun en w' => ∃ lo lc wo wc, en = .returned (.agg (diffC (makeM s t) lo lc wo wc)) ∧ Sl w' lo lc 8 (entR (makeM s t).log) ∧ Sl w' wo wc 8 (entR (makeM s t).whole.log) ∧ Below w.heap.size w w' := by
  obtain ⟨w1, hw1, hX, hY, hR, hb⟩ := three_vars w 40 40 61 (stC s ao c) (stC t bo d) (diffC diff0 none 0 none 0)
  have hle' := h'.ent_le
  have hcap' := h'.cap
  go_enter Try.func32, Try.ntmps32
  go_wp2_with ((with_reducible refine at_open ?_); first
    | (refine wpList_alloc_has (by rfl) 61 rfl (diffC diff0 none 0 none 0) diff_zero ?_; rw [hw1])
    | (refine wpList_load_has (by rfl) 40 _ rfl (w.heap.size) rfl 40 (stC s ao c) _ Try.underlying40 rfl (st_size _ _ _) ?hg ?_; (case hg => exact hX))
    | fail)
  refine (refis_any s ao c _ hs (h.later hb)).mono ?_
  rintro en w2 ⟨rfl, hq⟩
  replace hX := hX.later hq
  replace hY := hY.later hq
  replace hR := hR.later hq
  replace hb := hb.trans (hq.mono hb.size)
  clear hq hw1
  cases hi : isM s with
  | false =>
    have hM : Hid _ := make_no (a := s) (b := t) (.inl hi)
    have hz := hR.row (diffC diff0 none 0 none 0)
    have hbz := below_setRow hb (show w.heap.size ≤ w.heap.size + 1 + 1 by omega) (diffC diff0 none 0 none 0)
    go_wp2_with ((with_reducible refine at_open ?_); first
      | (refine wpList_build_has (by rfl) 61 #[] rfl (diffC diff0 none 0 none 0) (by simpa using diff_built0) ?_)
      | (refine wpList_store_has (by rfl) 61 _ _ rfl (w.heap.size + 1 + 1) rfl (diffC diff0 none 0 none 0) rfl 61 (diffC diff0 none 0 none 0) (diff_size _ _ _ _ _) (diff_same _ _ _ _ _ _ _ _ _ _) (diff_one _ _ _ _ _) ?hg ?_; (case hg => exact hR))
      | fail)
    refine ret_has rfl (w.heap.size + 1 + 1) rfl 61 (diffC diff0 none 0 none 0) _ Try.underlying61 rfl (diff_size _ _ _ _ _) hz rfl ⟨none, 0, none, 0, by rw [hM.out], ?_⟩
    rw [hM.out]
    exact ⟨Sl.nothing _ _, Sl.nothing _ _, hbz⟩
  | true =>
  go_wp2_with (first
    | (refine wpList_load_has (by rfl) 40 _ rfl (w.heap.size + 1) rfl 40 (stC t bo d) _ Try.underlying40 rfl (st_size _ _ _) ?hg ?_; (case hg => exact hY))
    | fail)
  refine (refis_any t bo d _ ht (h'.later hb)).mono ?_
  rintro en w3 ⟨rfl, hq⟩
  replace hX := hX.later hq
  replace hY := hY.later hq
  replace hR := hR.later hq
  replace hb := hb.trans (hq.mono hb.size)
  clear hq
  cases hj : isM t with
  | false =>
    have hM : Hid _ := make_no (a := s) (b := t) (.inr hj)
    have hz := hR.row (diffC diff0 none 0 none 0)
    have hbz := below_setRow hb (show w.heap.size ≤ w.heap.size + 1 + 1 by omega) (diffC diff0 none 0 none 0)
    go_wp2_with ((with_reducible refine at_open ?_); first
      | (refine wpList_build_has (by rfl) 61 #[] rfl (diffC diff0 none 0 none 0) (by simpa using diff_built0) ?_)
      | (refine wpList_store_has (by rfl) 61 _ _ rfl (w.heap.size + 1 + 1) rfl (diffC diff0 none 0 none 0) rfl 61 (diffC diff0 none 0 none 0) (diff_size _ _ _ _ _) (diff_same _ _ _ _ _ _ _ _ _ _) (diff_one _ _ _ _ _) ?hg ?_; (case hg => exact hR))
      | fail)
    refine ret_has rfl (w.heap.size + 1 + 1) rfl 61 (diffC diff0 none 0 none 0) _ Try.underlying61 rfl (diff_size _ _ _ _ _) hz rfl ⟨none, 0, none, 0, by rw [hM.out], ?_⟩
    rw [hM.out]
    exact ⟨Sl.nothing _ _, Sl.nothing _ _, hbz⟩
  | true =>
  have hllt := last_lt ht hj
  have m0 : Hid _ := make_0 hi hj
  have m1 : Hid _ := make_1 hi hj
  have m2 : Hid _ := make_2 hi hj
  have y0 := hY.st_started
  have yt := hY.st_tail
  have hlt3 := hR.lt
  obtain ⟨w4, hw4, hV, hq⟩ := new_var w3 61 (diffC diff0 none 0 none 0) (diffC ⟨0, 0, [], endsM t⟩ none 0 none 0)
  have hX4 := hX.later hq
  have hY4 := hY.later hq
  have hR4 := hR.later hq
  have hb4 := hb.trans (hq.mono hb.size)
  clear hq
  have hlt4 := hV.lt
  obtain ⟨w5, hw5, hH, hq⟩ := new_var w4 40 (stC st0 none 0) (stC s ao c)
  replace hV := hV.later hq
  have hX5 := hX4.later hq
  have hY5 := hY4.later hq
  have hR5 := hR4.later hq
  have hb5 := hb4.trans (hq.mono hb4.size)
  clear hq
  have y5 := hY5.st_started
  have g0 := hH.st_started
  have f0 := hH.free 0
  have hH6 := hH.setStart t.started
  have hV6 := hV.set_other (a := ⟨w4.heap.size, 0, none⟩) (show w3.heap.size ≠ w4.heap.size by omega) (.int .u32 (t.started : Int))
  have hX6 := hX5.set_other (a := ⟨w4.heap.size, 0, none⟩) (show w.heap.size ≠ w4.heap.size by omega) (.int .u32 (t.started : Int))
  have hY6 := hY5.set_other (a := ⟨w4.heap.size, 0, none⟩) (show w.heap.size + 1 ≠ w4.heap.size by omega) (.int .u32 (t.started : Int))
  have hR6 := hR5.set_other (a := ⟨w4.heap.size, 0, none⟩) (show w.heap.size + 1 + 1 ≠ w4.heap.size by omega) (.int .u32 (t.started : Int))
  have hb6 := hb5.setCell (show w.heap.size ≤ (⟨w4.heap.size, 0, none⟩ : Addr).block by show w.heap.size ≤ w4.heap.size; omega) (.int .u32 (t.started : Int))
  obtain ⟨w6, hw6⟩ : ∃ W, w5.setCell ⟨w4.heap.size, 0, none⟩ (.int .u32 (t.started : Int)) = W := ⟨_, rfl⟩
  rw [hw6] at hH6 hV6 hX6 hY6 hR6 hb6
  clear hX hR hb hX5 hY5 hR5 hb5 hY4 hR4 hb4 hV
  go_wp2_with ((with_reducible refine at_open ?_); first
    | (refine wpList_load_mid' (by rfl) 37 _ rfl (w.heap.size + 1) (40) rfl (entL t.tail) _ ?hg Try.underlying37 rfl (ent_size _) ?_; (case hg => exact yt))
    | (refine wpList_build_two (by rfl) 40 0 2 _ _ rfl (.int .u32 (t.started : Int)) (.agg (entC t.tail)) rfl rfl (stC (endsM t) none 0) (st_built_ends t.started t.tail) ?_)
    | (refine wpList_build_one8 (by rfl) 61 3 _ rfl (.agg (stC (endsM t) none 0)) rfl (diffC ⟨0, 0, [], endsM t⟩ none 0 none 0) (diff_built_w (endsM t) none 0) ?_)
    | (refine wpList_alloc_has (by rfl) 61 rfl (diffC diff0 none 0 none 0) diff_zero ?_)
    | (refine wpList_store_to (by rfl) 61 _ _ rfl w3.heap.size rfl (diffC ⟨0, 0, [], endsM t⟩ none 0 none 0) rfl 61 (diffC diff0 none 0 none 0) (diff_size _ _ _ _ _) (diff_same _ _ _ _ _ _ _ _ _ _) (diff_one _ _ _ _ _) ?hg w4 ?hW ?_; (case hg => exact Has.new _ _ _); (case hW => exact hw4); clear hw4)
    | (refine wpList_load_has (by rfl) 40 _ rfl (w.heap.size) rfl 40 (stC s ao c) _ Try.underlying40 rfl (st_size _ _ _) ?hg ?_; (case hg => exact hX4))
    | (refine wpList_alloc_has (by rfl) 40 rfl (stC st0 none 0) st_zero ?_)
    | (refine wpList_store_to (by rfl) 40 _ _ rfl w4.heap.size rfl (stC s ao c) rfl 40 (stC st0 none 0) (st_size _ _ _) (st_same _ _ _ _ _ _) (st_one _ _ _) ?hg w5 ?hW ?_; (case hg => exact Has.new _ _ _); (case hW => exact hw5); clear hw5)
    | (refine wpList_load_has (by rfl) 40 _ rfl (w4.heap.size) rfl 40 (stC (startAt s t.started) ao c) _ Try.underlying40 rfl (st_size _ _ _) ?hg ?_; (case hg => exact hH6))
    | (refine wpList_load_has (by rfl) 40 _ rfl (w.heap.size + 1) rfl 40 (stC t bo d) _ Try.underlying40 rfl (st_size _ _ _) ?hg ?_; (case hg => exact hY6))
    | fail)
  clear hw6 g0 f0 y0 y5 yt hX4 hY hH
  have hsA := startAt_ok hs ht.started
  have hA6 : Sl w6 ao c 8 (entR (startAt s t.started).log) := h.later hb6
  refine (refsame_any (startAt s t.started) t ao bo c d _ hsA ht hA6 (h'.later hb6)).mono ?_
  rintro en w7 ⟨rfl, hq⟩
  replace hV6 := hV6.later hq
  replace hX6 := hX6.later hq
  replace hY6 := hY6.later hq
  replace hR6 := hR6.later hq
  replace hb6 := hb6.trans (hq.mono hb6.size)
  clear hq hA6 hsA hH6
  generalize same tSt (startAt s t.started) t = b at *
  cases b with
  | true =>
    have hM : Hid _ := m0.out (by first | trivial | rfl)
    clear m0 m1 m2
    have hz := hR6.row (diffC ⟨0, 0, [], endsM t⟩ none 0 none 0)
    have hbz := below_setRow hb6 (show w.heap.size ≤ w.heap.size + 1 + 1 by omega) (diffC ⟨0, 0, [], endsM t⟩ none 0 none 0)
    go_wp2_with ((with_reducible refine at_open ?_); first
      | (refine wpList_load_has (by rfl) 61 _ rfl (w3.heap.size) rfl 61 (diffC ⟨0, 0, [], endsM t⟩ none 0 none 0) _ Try.underlying61 rfl (diff_size _ _ _ _ _) ?hg ?_; (case hg => exact hV6))
      | (refine wpList_store_has (by rfl) 61 _ _ rfl (w.heap.size + 1 + 1) rfl (diffC ⟨0, 0, [], endsM t⟩ none 0 none 0) rfl 61 (diffC diff0 none 0 none 0) (diff_size _ _ _ _ _) (diff_same _ _ _ _ _ _ _ _ _ _) (diff_one _ _ _ _ _) ?hg ?_; (case hg => exact hR6))
      | fail)
    refine ret_has rfl (w.heap.size + 1 + 1) rfl 61 (diffC ⟨0, 0, [], endsM t⟩ none 0 none 0) _ Try.underlying61 rfl (diff_size _ _ _ _ _) hz rfl ⟨none, 0, none, 0, by rw [hM.out], ?_⟩
    rw [hM.out]
    exact ⟨Sl.nothing _ _, Sl.nothing _ _, hbz⟩
  | false =>
  go_wp2_with ((with_reducible refine at_open ?_); first
    | (refine wpList_load_has (by rfl) 40 _ rfl (w.heap.size) rfl 40 (stC s ao c) _ Try.underlying40 rfl (st_size _ _ _) ?hg ?_; (case hg => exact hX6))
    | (refine wpList_load_has (by rfl) 40 _ rfl (w.heap.size + 1) rfl 40 (stC t bo d) _ Try.underlying40 rfl (st_size _ _ _) ?hg ?_; (case hg => exact hY6))
    | fail)
  refine (refshared_any s t ao bo c d _ hs ht hi hj (h.later hb6)).mono ?_
  rintro en w8 ⟨rfl, hq⟩
  replace hV6 := hV6.later hq
  replace hX6 := hX6.later hq
  replace hY6 := hY6.later hq
  replace hR6 := hR6.later hq
  replace hb6 := hb6.trans (hq.mono hb6.size)
  clear hq
  generalize throughM s t = b at *
  cases b with
  | false =>
    have hM : Hid _ := m2.out (by first | trivial | rfl) (by first | trivial | rfl)
    clear m0 m1 m2
    have hRlt := hR6.lt
    have k0 : w8.drew.cell? ⟨w3.heap.size, 0, none⟩ = some (.int .i64 0) := hV6.cell 0
    have f0 : w8.drew.frozen? ⟨w3.heap.size, 0, none⟩ = false := hV6.free 0
    have hVk : Has (w8.drew.setCell ⟨w3.heap.size, 0, none⟩ (.int .i64 2)) w3.heap.size 61 (diffC ⟨2, 0, [], endsM t⟩ none 0 none 0) := hV6.drew.d_setKind 2
    have hYk := hY6.drew.set_other (a := ⟨w3.heap.size, 0, none⟩) (show w.heap.size + 1 ≠ w3.heap.size by omega) (.int .i64 2)
    have hRk := hR6.drew.set_other (a := ⟨w3.heap.size, 0, none⟩) (show w.heap.size + 1 + 1 ≠ w3.heap.size by omega) (.int .i64 2)
    have hbk := hb6.drew.setCell (show w.heap.size ≤ (⟨w3.heap.size, 0, none⟩ : Addr).block by show w.heap.size ≤ w3.heap.size; omega) (.int .i64 2)
    go_wp2
    refine wp_region_plan (fun W => Has W (w.heap.size + 1) 40 (stC t bo d)) (Plan.of [(0, true), (1, true), (2, false), (3, true), (4, false)] .done) (by kernel_rfl) (by kernel_rfl) (by kernel_rfl) (by kernel_rfl) hY6.drew ?_
    generalize w8.drew = wd at *
    refine plan_take _ _ rfl (yields_load_has (by rfl) 40 _ rfl (w.heap.size + 1) rfl 40 (stC t bo d) _ Try.underlying40 rfl (st_size _ _ _) (fun W hW => hW)) ?_
    try simp only [Act.put, List.setIfInBounds_toArray, List.set_cons_zero, List.set_cons_succ]
    iterate 1
      first
        | (refine plan_pass _ rfl (by rfl) ?_)
        | (refine plan_take _ _ rfl (.inl ⟨by rfl, fun W hS => by clear hS; go_simp; try with_reducible rfl⟩) ?_)
      try simp only [Act.put, List.setIfInBounds_toArray, List.set_cons_zero, List.set_cons_succ]
    refine plan_run _ rfl (fun K hK => ?_)
    go_simp
    refine hK.out _ _ hYk ?_
    clear hK K k0 f0
    generalize wd.setCell ⟨w3.heap.size, 0, none⟩ (.int .i64 2) = w9 at *
    iterate 1
      first
        | (refine plan_pass _ rfl (by rfl) ?_)
        | (refine plan_take _ _ rfl (.inl ⟨by rfl, fun W hS => by clear hS; go_simp; try with_reducible rfl⟩) ?_)
      try simp only [Act.put, List.setIfInBounds_toArray, List.set_cons_zero, List.set_cons_succ]
    have hth := hVk.there 3 49 (by show 3 + 49 ≤ 52; omega)
    have hVw := hVk.d_setWhole t bo d
    have hYw := hYk.cells_other (k := w3.heap.size) (by omega) (stL t bo d) 3
    have hRw := hRk.cells_other (k := w3.heap.size) (by omega) (stL t bo d) 3
    have hbw := below_setCells hbk (show w.heap.size ≤ w3.heap.size by omega) (stL t bo d) 3
    refine plan_run _ rfl (fun K hK => ?_)
    rw [if_pos (by rfl)]
    refine wp_store_mid 40 _ _ rfl w3.heap.size 3 (stC t bo d) rfl rfl hth (st_size _ _ _) (st_one _ _ _) (hK.out _ _ hYw ?_)
    clear hK K
    refine plan_done ?_
    have hVw : Has (w9.setCells w3.heap.size 3 (stC t bo d).toList) w3.heap.size 61 (diffC ⟨2, 0, [], t⟩ none 0 bo d) := hVw
    have hRw : Has (w9.setCells w3.heap.size 3 (stC t bo d).toList) (w.heap.size + 1 + 1) 61 (diffC diff0 none 0 none 0) := hRw
    have hbw : Below w.heap.size w (w9.setCells w3.heap.size 3 (stC t bo d).toList) := hbw
    generalize w9.setCells w3.heap.size 3 (stC t bo d).toList = wA at *
    have hz := hRw.row (diffC ⟨2, 0, [], t⟩ none 0 bo d)
    have hbz := below_setRow hbw (show w.heap.size ≤ w.heap.size + 1 + 1 by omega) (diffC ⟨2, 0, [], t⟩ none 0 bo d)
    go_wp2_with ((with_reducible refine at_open ?_); first
      | (refine wpList_load_has (by rfl) 61 _ rfl (w3.heap.size) rfl 61 (diffC ⟨2, 0, [], t⟩ none 0 bo d) _ Try.underlying61 rfl (diff_size _ _ _ _ _) ?hg ?_; (case hg => exact hVw))
      | (refine wpList_store_has (by rfl) 61 _ _ rfl (w.heap.size + 1 + 1) rfl (diffC ⟨2, 0, [], t⟩ none 0 bo d) rfl 61 (diffC diff0 none 0 none 0) (diff_size _ _ _ _ _) (diff_same _ _ _ _ _ _ _ _ _ _) (diff_one _ _ _ _ _) ?hg ?_; (case hg => exact hRw))
      | fail)
    refine ret_has rfl (w.heap.size + 1 + 1) rfl 61 (diffC ⟨2, 0, [], t⟩ none 0 bo d) _ Try.underlying61 rfl (diff_size _ _ _ _ _) hz rfl ⟨none, 0, bo, d, by rw [hM.out], ?_⟩
    rw [hM.out]
    exact ⟨Sl.nothing _ _, h'.later hbz, hbz⟩
  | true =>
    have hM : Hid _ := m1.out (by first | trivial | rfl) (by first | trivial | rfl)
    clear m0 m1 m2
    have hRlt := hR6.lt
    have k0 : w8.drew.cell? ⟨w3.heap.size, 0, none⟩ = some (.int .i64 0) := hV6.cell 0
    have f0 : w8.drew.frozen? ⟨w3.heap.size, 0, none⟩ = false := hV6.free 0
    have hVk : Has (w8.drew.setCell ⟨w3.heap.size, 0, none⟩ (.int .i64 1)) w3.heap.size 61 (diffC ⟨1, 0, [], endsM t⟩ none 0 none 0) := hV6.drew.d_setKind 1
    have hXk := hX6.drew.set_other (a := ⟨w3.heap.size, 0, none⟩) (show w.heap.size ≠ w3.heap.size by omega) (.int .i64 1)
    have hYk := hY6.drew.set_other (a := ⟨w3.heap.size, 0, none⟩) (show w.heap.size + 1 ≠ w3.heap.size by omega) (.int .i64 1)
    have hRk := hR6.drew.set_other (a := ⟨w3.heap.size, 0, none⟩) (show w.heap.size + 1 + 1 ≠ w3.heap.size by omega) (.int .i64 1)
    have hbk := hb6.drew.setCell (show w.heap.size ≤ (⟨w3.heap.size, 0, none⟩ : Addr).block by show w.heap.size ≤ w3.heap.size; omega) (.int .i64 1)
    go_wp2
    refine wp_region_plan (fun W => Has W (w.heap.size + 1) 40 (stC t bo d)) (Plan.of [(0, true), (1, true), (2, true), (3, true), (4, false), (5, true), (6, false)] .done) (by kernel_rfl) (by kernel_rfl) (by kernel_rfl) (by kernel_rfl) hY6.drew ?_
    generalize w8.drew = wd at *
    iterate 2
      first
        | (refine plan_pass _ rfl (by rfl) ?_)
        | (refine plan_take _ _ rfl (.inl ⟨by rfl, fun W hS => by clear hS; go_simp; try with_reducible rfl⟩) ?_)
      try simp only [Act.put, List.setIfInBounds_toArray, List.set_cons_zero, List.set_cons_succ]
    iterate 1
      first
        | (refine plan_pass _ rfl (by rfl) ?_)
        | (refine plan_take _ _ rfl (.inl ⟨by rfl, fun W hS => by have z0 := hS.st_tail_n; go_simp; try with_reducible rfl⟩) ?_)
      try simp only [Act.put, List.setIfInBounds_toArray, List.set_cons_zero, List.set_cons_succ]
    iterate 1
      first
        | (refine plan_pass _ rfl (by rfl) ?_)
        | (refine plan_take _ _ rfl (.inl ⟨by rfl, fun W hS => by clear hS; go_simp; try with_reducible rfl⟩) ?_)
      try simp only [Act.put, List.setIfInBounds_toArray, List.set_cons_zero, List.set_cons_succ]
    refine plan_run _ rfl (fun K hK => ?_)
    go_simp
    refine hK.out _ _ hYk ?_
    clear hK K k0 f0
    generalize wd.setCell ⟨w3.heap.size, 0, none⟩ (.int .i64 1) = w9 at *
    iterate 1
      first
        | (refine plan_pass _ rfl (by rfl) ?_)
        | (refine plan_take _ _ rfl (.inl ⟨by rfl, fun W hS => by clear hS; go_simp; try with_reducible rfl⟩) ?_)
      try simp only [Act.put, List.setIfInBounds_toArray, List.set_cons_zero, List.set_cons_succ]
    have k1 := hVk.d_from
    have f1 := hVk.free 1
    have hVf := hVk.d_setFrom t.tail.n
    have hXf := hXk.set_other (a := ⟨w3.heap.size, 1, none⟩) (show w.heap.size ≠ w3.heap.size by omega) (.int .u32 (t.tail.n : Int))
    have hYf := hYk.set_other (a := ⟨w3.heap.size, 1, none⟩) (show w.heap.size + 1 ≠ w3.heap.size by omega) (.int .u32 (t.tail.n : Int))
    have hRf := hRk.set_other (a := ⟨w3.heap.size, 1, none⟩) (show w.heap.size + 1 + 1 ≠ w3.heap.size by omega) (.int .u32 (t.tail.n : Int))
    have hbf := hbk.setCell (show w.heap.size ≤ (⟨w3.heap.size, 1, none⟩ : Addr).block by show w.heap.size ≤ w3.heap.size; omega) (.int .u32 (t.tail.n : Int))
    refine plan_run _ rfl (fun K hK => ?_)
    go_simp
    refine hK.out _ _ hYf ?_
    clear hK K k1 f1
    refine plan_done ?_
    have hVf : Has (w9.setCell ⟨w3.heap.size, 1, none⟩ (.int .u32 (t.tail.n : Int))) w3.heap.size 61 (diffC ⟨1, t.tail.n, [], endsM t⟩ none 0 none 0) := hVf
    generalize w9.setCell ⟨w3.heap.size, 1, none⟩ (.int .u32 (t.tail.n : Int)) = wA at *
    have hlen := ht.len
    have hshl := shared_le s t.log
    have hch := ((is_is t).1 hj).2.2.2.2
    clear hV6 hX6 hY6 hR6 hb6 hVk hXk hYk hRk hbk
    go_wp2
    go_loopw [7] (fun i wr => ∃ n : Nat, n ≤ sharedN s t.log ∧ i = .int .i64 n ∧ Has wr w3.heap.size 61 (diffC ⟨1, t.tail.n + n, [], endsM t⟩ none 0 none 0) ∧ Has wr w.heap.size 40 (stC s ao c) ∧ Has wr (w.heap.size + 1) 40 (stC t bo d) ∧ Has wr (w.heap.size + 1 + 1) 61 (diffC diff0 none 0 none 0) ∧ Below w.heap.size w wr) (fun i _ => t.log.length - (intOf i).toNat)
    case atStart => exact ⟨0, Nat.zero_le _, rfl, hVf, hXf, hYf, hRf, hbf⟩
    case round =>
      clear hVf hXf hYf hRf hbf
      obtain ⟨n, hn, rfl, hV, hX, hY, hR, hb⟩ := hrel
      have hnl : n ≤ t.log.length := by omega
      have hVlt := hV.lt
      by_cases hlt : n < t.log.length
      · have c48 := hY.st_log
        cases bo with
        | none => have := h'.nil rfl; omega
        | some bd =>
          have hx := fun W (hW : Below wr.heap.size wr W) => ent_at (h'.later (hb.trans (hW.mono hb.size))) n hlt
          have hxo := ht.log t.log[n] (List.getElem_mem hlt)
          have hmore : Hid _ := shared_more (a := s) hlt hn
          have hxn : Hid (t.log[n].n = t.tail.n + n + 1) := chain_nth hch n hlt
          have hltI : (n : Int) < (t.log.length : Int) := by omega
          have hfo := find_fit hs t.log[n].n
          generalize t.log[n] = x at *
          have hH : Hid (hasEnt s x = ((findM s x.n).2 && same tEnt (findM s x.n).1 x)) := rfl
          rw [hH.out] at hmore
          clear hH
          have hbA : Below wr.heap.size wr wr.drew := (Below.refl _ _).drew
          go_wp2
          refine wp_region_plan (fun W => Below wr.heap.size wr W) (Plan.of [(0, true), (1, true), (2, true), (3, true), (4, true), (5, true), (6, true)] (.either 7 (Plan.of [(8, true), (9, true), (10, true), (11, false), (12, false), (13, true)] .done) 11 (Plan.of [(7, false), (8, true), (9, true), (10, true), (12, false), (13, true)] .done))) (by kernel_rfl) (by kernel_rfl) (by kernel_rfl) (by kernel_rfl) hbA ?_
          refine plan_take _ _ rfl (yields_load_has (by rfl) 40 _ rfl (w.heap.size) rfl 40 (stC s ao c) _ Try.underlying40 rfl (st_size _ _ _) (fun W hW => hX.later hW)) ?_
          try simp only [Act.put, List.setIfInBounds_toArray, List.set_cons_zero, List.set_cons_succ]
          iterate 1
            first
              | (refine plan_pass _ rfl (by rfl) ?_)
              | (refine plan_take _ _ rfl (.inl ⟨by rfl, fun W hS => by clear hS; go_simp; try with_reducible rfl⟩) ?_)
            try simp only [Act.put, List.setIfInBounds_toArray, List.set_cons_zero, List.set_cons_succ]
          iterate 1
            first
              | (refine plan_pass _ rfl (by rfl) ?_)
              | (refine plan_take _ _ rfl (.inl ⟨by rfl, fun W hS => by have z0 := (hY.later hS).st_log; go_simp; try with_reducible rfl⟩) ?_)
            try simp only [Act.put, List.setIfInBounds_toArray, List.set_cons_zero, List.set_cons_succ]
          iterate 3
            first
              | (refine plan_pass _ rfl (by rfl) ?_)
              | (refine plan_take _ _ rfl (.inl ⟨by rfl, fun W hS => by clear hS; go_simp; try with_reducible rfl⟩) ?_)
            try simp only [Act.put, List.setIfInBounds_toArray, List.set_cons_zero, List.set_cons_succ]
          iterate 1
            first
              | (refine plan_pass _ rfl (by rfl) ?_)
              | (refine plan_take _ _ rfl (.inl ⟨by rfl, fun W hS => by have z0 : W.cell? ⟨(bd.add (n * 8)).block, (bd.add (n * 8)).off + 1, none⟩ = some (.int .u32 (x.n : Int)) := hx W hS 1 _ rfl; go_simp; try with_reducible rfl⟩) ?_)
            try simp only [Act.put, List.setIfInBounds_toArray, List.set_cons_zero, List.set_cons_succ]
          refine plan_either ?_ ?_
          · refine plan_run _ rfl (fun K hK => ?_)
            go_simp
            refine (reffind_any s ao c x.n _ hs (h.later (hb.trans (hbA.mono hb.size))) hxo.n).mono ?_
            rintro en w5 ⟨rfl, hq⟩
            have hb5 := hbA.trans (hq.mono hbA.size)
            refine hK.out _ _ hb5 ?_
            clear hK K hq
            generalize findM s x.n = F at *
            try simp only [Act.put, List.setIfInBounds_toArray, List.set_cons_zero, List.set_cons_succ]
            iterate 3
              first
                | (refine plan_pass _ rfl (by rfl) ?_)
                | (refine plan_take _ _ rfl (.inl ⟨by rfl, fun W hS => by clear hS; go_simp; try with_reducible rfl⟩) ?_)
              try simp only [Act.put, List.setIfInBounds_toArray, List.set_cons_zero, List.set_cons_succ]
            refine plan_alloc_has _ rfl (by rfl) 37 rfl (entC ent0) ent_zero (hb5.alloc hb5.size _) ?_
            try simp only [Act.put, List.setIfInBounds_toArray, List.set_cons_zero, List.set_cons_succ]
            obtain ⟨wz, hwz, hE, hq⟩ := new_var w5 37 (entC ent0) (entC F.1)
            have hbz := hb5.trans (hq.mono hb5.size)
            have hgz := hb5.size
            refine plan_store_has _ rfl (by rfl) 37 _ _ rfl w5.heap.size rfl (entC F.1) rfl 37 (entC ent0) (ent_size _) rfl (ent_one _) (Has.new _ _ _) (by rw [hwz]; exact hbz) ?_
            rw [hwz]
            try simp only [Act.put, List.setIfInBounds_toArray, List.set_cons_zero, List.set_cons_succ]
            iterate 1
              first
                | (refine plan_pass _ rfl (by rfl) ?_)
                | (refine plan_take _ _ rfl (.inl ⟨by rfl, fun W hS => by clear hS; go_simp; try with_reducible rfl⟩) ?_)
              try simp only [Act.put, List.setIfInBounds_toArray, List.set_cons_zero, List.set_cons_succ]
            refine plan_done ?_
            clear hb5 hq hwz hbA
            replace hV := hV.later hbz
            replace hX := hX.later hbz
            replace hY := hY.later hbz
            replace hR := hR.later hbz
            replace hb := hb.trans (hbz.mono hb.size)
            have hx1 := fun W (hW : Below wz.heap.size wz W) => hx W (hbz.trans (hW.mono hbz.size))
            have hbB : Below wz.heap.size wz wz.drew := (Below.refl _ _).drew
            have hgl : w3.heap.size < w5.heap.size := by omega
            clear hx hbz
            obtain ⟨y, b⟩ := F
            cases b with
            | false =>
              have hk := hmore.out.2 (by rfl)
              go_wp2
              refine wp_region_plan (fun W => Below wz.heap.size wz W) (Plan.of [(0, true), (1, true), (2, true), (3, true), (4, true), (5, true), (6, true), (7, true), (8, true), (9, true), (10, true)] .done) (by kernel_rfl) (by kernel_rfl) (by kernel_rfl) (by kernel_rfl) hbB ?_
              iterate 11
                first
                  | (refine plan_pass _ rfl (by rfl) ?_)
                  | (refine plan_take _ _ rfl (.inl ⟨by rfl, fun W hS => by clear hS; go_simp; try with_reducible rfl⟩) ?_)
                try simp only [Act.put, List.setIfInBounds_toArray, List.set_cons_zero, List.set_cons_succ]
              refine plan_done ?_
              replace hV := hV.later hbB
              replace hX := hX.later hbB
              replace hY := hY.later hbB
              replace hR := hR.later hbB
              replace hb := hb.trans (hbB.mono hb.size)
              clear hbB hx1 hE hmore
              generalize wz.drew = wv at *
              have hM2 : Hid (makeM s t = ⟨1, t.tail.n + n, t.log.drop n, endsM t⟩) := by show _ = _; rw [hM.out, hk]
              have hc7 := hY.st_log
              have hrest := fun W => run_rest W (some bd) t.log.length d n hnl hle'
              have hlen2 : (t.log.drop n).length = t.log.length - n := List.length_drop
              obtain ⟨go, gc, wq, hrz, hG, hgn, hq⟩ := append_new wv 38 (t.log.drop n) (cutAddr (some bd) d n) (d - n) ((h'.later hb).drop n hnl) (by omega)
              rw [hlen2] at hrz
              have hRl0 := hR.lt
              have hVl0 := hV.lt
              have hgs : ∀ e, go = some e → w3.heap.size < e.block ∧ w.heap.size + 1 + 1 < e.block := fun e he => by have := hgn e he; omega
              replace hV := hV.later hq
              replace hR := hR.later hq
              replace hb := hb.trans (hq.mono hb.size)
              have hc2 := hV.d_log
              have hf2 := hV.free 2
              have hVl := hV.d_setLog (t.log.drop n) go gc
              rw [hlen2] at hVl
              have hRl := hR.set_other (a := ⟨w3.heap.size, 2, none⟩) (show w.heap.size + 1 + 1 ≠ w3.heap.size by omega) (.slice go (t.log.length - n) gc)
              have hGl := hG.cell_other (a := ⟨w3.heap.size, 2, none⟩) (fun e he => by have := hgs e he; show e.block ≠ w3.heap.size; omega) (.slice go (t.log.length - n) gc)
              have hbl := hb.setCell (show w.heap.size ≤ (⟨w3.heap.size, 2, none⟩ : Addr).block by show w.heap.size ≤ w3.heap.size; omega) (.slice go (t.log.length - n) gc)
              obtain ⟨wy, hwy⟩ : ∃ W, wq.setCell ⟨w3.heap.size, 2, none⟩ (.slice go (t.log.length - n) gc) = W := ⟨_, rfl⟩
              rw [hwy] at hVl hRl hGl hbl
              have hVl : Has wy w3.heap.size 61 (diffC ⟨1, t.tail.n + n, t.log.drop n, endsM t⟩ go gc none 0) := hVl
              have hz := hRl.row (diffC ⟨1, t.tail.n + n, t.log.drop n, endsM t⟩ go gc none 0)
              have hsz := hGl.row_other (k := w.heap.size + 1 + 1) (fun e he => by have := hgs e he; omega) (diffC ⟨1, t.tail.n + n, t.log.drop n, endsM t⟩ go gc none 0)
              have hbz := below_setRow hbl (show w.heap.size ≤ w.heap.size + 1 + 1 by omega) (diffC ⟨1, t.tail.n + n, t.log.drop n, endsM t⟩ go gc none 0)
              generalize cutAddr (some bd) d n = co at *
              clear hG hq hV hR hGl hbl hgn hb
              go_wp2_with ((with_reducible refine at_open ?_); first
                | (refine wpList_append8 (by rfl) _ _ 38 38 rfl (.slice none 0 0) (.slice co (t.log.length - n) (d - n)) rfl rfl (.slice go (t.log.length - n) gc) wq ?hr ?_; (case hr => exact hrz))
                | (refine wpList_load_has (by rfl) 61 _ rfl (w3.heap.size) rfl 61 (diffC ⟨1, t.tail.n + n, t.log.drop n, endsM t⟩ go gc none 0) _ Try.underlying61 rfl (diff_size _ _ _ _ _) ?hg ?_; (case hg => exact hVl))
                | (refine wpList_store_has (by rfl) 61 _ _ rfl (w.heap.size + 1 + 1) rfl (diffC ⟨1, t.tail.n + n, t.log.drop n, endsM t⟩ go gc none 0) rfl 61 (diffC diff0 none 0 none 0) (diff_size _ _ _ _ _) (diff_same _ _ _ _ _ _ _ _ _ _) (diff_one _ _ _ _ _) ?hg ?_; (case hg => exact hRl))
                | fail)
              refine ret_has rfl (w.heap.size + 1 + 1) rfl 61 (diffC ⟨1, t.tail.n + n, t.log.drop n, endsM t⟩ go gc none 0) _ Try.underlying61 rfl (diff_size _ _ _ _ _) hz rfl ⟨go, gc, none, 0, by rw [hM2.out], ?_⟩
              rw [hM2.out]
              exact ⟨hsz, Sl.nothing _ _, hbz⟩
            | true =>
              have heq := fun W => neqv_ent y x hfo hxo W
              go_wp2
              refine wp_region_plan (fun W => Below wz.heap.size wz W) (Plan.of [(0, true), (1, true), (2, true), (3, true), (4, true), (5, true), (6, true), (7, true), (8, true), (9, true), (10, true)] .done) (by kernel_rfl) (by kernel_rfl) (by kernel_rfl) (by kernel_rfl) hbB ?_
              iterate 3
                first
                  | (refine plan_pass _ rfl (by rfl) ?_)
                  | (refine plan_take _ _ rfl (.inl ⟨by rfl, fun W hS => by clear hS; go_simp; try with_reducible rfl⟩) ?_)
                try simp only [Act.put, List.setIfInBounds_toArray, List.set_cons_zero, List.set_cons_succ]
              refine plan_take _ _ rfl (yields_load_has (by rfl) 37 _ rfl (w5.heap.size) rfl 37 (entC y) _ Try.underlying37 rfl (ent_size _) (fun W hW => hE.later hW)) ?_
              try simp only [Act.put, List.setIfInBounds_toArray, List.set_cons_zero, List.set_cons_succ]
              iterate 1
                first
                  | (refine plan_pass _ rfl (by rfl) ?_)
                  | (refine plan_take _ _ rfl (.inl ⟨by rfl, fun W hS => by clear hS; go_simp; try with_reducible rfl⟩) ?_)
                try simp only [Act.put, List.setIfInBounds_toArray, List.set_cons_zero, List.set_cons_succ]
              iterate 1
                first
                  | (refine plan_pass _ rfl (by rfl) ?_)
                  | (refine plan_take _ _ rfl (.inl ⟨by rfl, fun W hS => by have z0 := (hY.later hS).st_log; go_simp; try with_reducible rfl⟩) ?_)
                try simp only [Act.put, List.setIfInBounds_toArray, List.set_cons_zero, List.set_cons_succ]
              iterate 2
                first
                  | (refine plan_pass _ rfl (by rfl) ?_)
                  | (refine plan_take _ _ rfl (.inl ⟨by rfl, fun W hS => by clear hS; go_simp; try with_reducible rfl⟩) ?_)
                try simp only [Act.put, List.setIfInBounds_toArray, List.set_cons_zero, List.set_cons_succ]
              refine plan_take _ _ rfl (.inl ⟨by rfl, fun W hW => run_load_any 37 _ rfl _ rfl (entL x) _ (hx1 W hW) Try.underlying37 rfl (ent_size x)⟩) ?_
              try simp only [Act.put, List.setIfInBounds_toArray, List.set_cons_zero, List.set_cons_succ]
              refine plan_take _ _ rfl (yields_bin_agg (by rfl) .neq 37 _ _ _ rfl (entC y) (entC x) rfl rfl (.bool (!same tEnt y x)) guard_ent heq) ?_
              try simp only [Act.put, List.setIfInBounds_toArray, List.set_cons_zero, List.set_cons_succ]
              iterate 1
                first
                  | (refine plan_pass _ rfl (by rfl) ?_)
                  | (refine plan_take _ _ rfl (.inl ⟨by rfl, fun W hS => by clear hS; go_simp; try with_reducible rfl⟩) ?_)
                try simp only [Act.put, List.setIfInBounds_toArray, List.set_cons_zero, List.set_cons_succ]
              refine plan_done ?_
              replace hV := hV.later hbB
              replace hX := hX.later hbB
              replace hY := hY.later hbB
              replace hR := hR.later hbB
              replace hE := hE.later hbB
              replace hb := hb.trans (hbB.mono hb.size)
              clear hbB hx1 heq
              generalize wz.drew = wv at *
              cases hsm : same tEnt y x with
              | false =>
                have hk := hmore.out.2 (by show (true && same tEnt y x) = false; rw [hsm]; rfl)
                clear hmore hE
                have hM2 : Hid (makeM s t = ⟨1, t.tail.n + n, t.log.drop n, endsM t⟩) := by show _ = _; rw [hM.out, hk]
                have hc7 := hY.st_log
                have hrest := fun W => run_rest W (some bd) t.log.length d n hnl hle'
                have hlen2 : (t.log.drop n).length = t.log.length - n := List.length_drop
                obtain ⟨go, gc, wq, hrz, hG, hgn, hq⟩ := append_new wv 38 (t.log.drop n) (cutAddr (some bd) d n) (d - n) ((h'.later hb).drop n hnl) (by omega)
                rw [hlen2] at hrz
                have hRl0 := hR.lt
                have hVl0 := hV.lt
                have hgs : ∀ e, go = some e → w3.heap.size < e.block ∧ w.heap.size + 1 + 1 < e.block := fun e he => by have := hgn e he; omega
                replace hV := hV.later hq
                replace hR := hR.later hq
                replace hb := hb.trans (hq.mono hb.size)
                have hc2 := hV.d_log
                have hf2 := hV.free 2
                have hVl := hV.d_setLog (t.log.drop n) go gc
                rw [hlen2] at hVl
                have hRl := hR.set_other (a := ⟨w3.heap.size, 2, none⟩) (show w.heap.size + 1 + 1 ≠ w3.heap.size by omega) (.slice go (t.log.length - n) gc)
                have hGl := hG.cell_other (a := ⟨w3.heap.size, 2, none⟩) (fun e he => by have := hgs e he; show e.block ≠ w3.heap.size; omega) (.slice go (t.log.length - n) gc)
                have hbl := hb.setCell (show w.heap.size ≤ (⟨w3.heap.size, 2, none⟩ : Addr).block by show w.heap.size ≤ w3.heap.size; omega) (.slice go (t.log.length - n) gc)
                obtain ⟨wy, hwy⟩ : ∃ W, wq.setCell ⟨w3.heap.size, 2, none⟩ (.slice go (t.log.length - n) gc) = W := ⟨_, rfl⟩
                rw [hwy] at hVl hRl hGl hbl
                have hVl : Has wy w3.heap.size 61 (diffC ⟨1, t.tail.n + n, t.log.drop n, endsM t⟩ go gc none 0) := hVl
                have hz := hRl.row (diffC ⟨1, t.tail.n + n, t.log.drop n, endsM t⟩ go gc none 0)
                have hsz := hGl.row_other (k := w.heap.size + 1 + 1) (fun e he => by have := hgs e he; omega) (diffC ⟨1, t.tail.n + n, t.log.drop n, endsM t⟩ go gc none 0)
                have hbz := below_setRow hbl (show w.heap.size ≤ w.heap.size + 1 + 1 by omega) (diffC ⟨1, t.tail.n + n, t.log.drop n, endsM t⟩ go gc none 0)
                generalize cutAddr (some bd) d n = co at *
                clear hG hq hV hR hGl hbl hgn hb
                go_wp2_with ((with_reducible refine at_open ?_); first
                  | (refine wpList_append8 (by rfl) _ _ 38 38 rfl (.slice none 0 0) (.slice co (t.log.length - n) (d - n)) rfl rfl (.slice go (t.log.length - n) gc) wq ?hr ?_; (case hr => exact hrz))
                  | (refine wpList_load_has (by rfl) 61 _ rfl (w3.heap.size) rfl 61 (diffC ⟨1, t.tail.n + n, t.log.drop n, endsM t⟩ go gc none 0) _ Try.underlying61 rfl (diff_size _ _ _ _ _) ?hg ?_; (case hg => exact hVl))
                  | (refine wpList_store_has (by rfl) 61 _ _ rfl (w.heap.size + 1 + 1) rfl (diffC ⟨1, t.tail.n + n, t.log.drop n, endsM t⟩ go gc none 0) rfl 61 (diffC diff0 none 0 none 0) (diff_size _ _ _ _ _) (diff_same _ _ _ _ _ _ _ _ _ _) (diff_one _ _ _ _ _) ?hg ?_; (case hg => exact hRl))
                  | fail)
                refine ret_has rfl (w.heap.size + 1 + 1) rfl 61 (diffC ⟨1, t.tail.n + n, t.log.drop n, endsM t⟩ go gc none 0) _ Try.underlying61 rfl (diff_size _ _ _ _ _) hz rfl ⟨go, gc, none, 0, by rw [hM2.out], ?_⟩
                rw [hM2.out]
                exact ⟨hsz, Sl.nothing _ _, hbz⟩
              | true =>
                have hnx := hmore.out.1 (by show (true && same tEnt y x) = true; rw [hsm]; rfl)
                have hyx : y = x := (same_is y x).1 hsm
                have hyn : Hid (y.n = t.tail.n + (n + 1)) := by show _ = _; rw [hyx, hxn.out]; omega
                clear hmore hyx hxn hsm
                have hc1 := hE.ent_n
                have hc2 := hV.d_from
                have hf2 := hV.free 1
                have hVn := hV.d_setFrom y.n
                have hXn := hX.set_other (a := ⟨w3.heap.size, 1, none⟩) (show w.heap.size ≠ w3.heap.size by omega) (.int .u32 (y.n : Int))
                have hYn := hY.set_other (a := ⟨w3.heap.size, 1, none⟩) (show w.heap.size + 1 ≠ w3.heap.size by omega) (.int .u32 (y.n : Int))
                have hRn := hR.set_other (a := ⟨w3.heap.size, 1, none⟩) (show w.heap.size + 1 + 1 ≠ w3.heap.size by omega) (.int .u32 (y.n : Int))
                have hbn := hb.setCell (show w.heap.size ≤ (⟨w3.heap.size, 1, none⟩ : Addr).block by show w.heap.size ≤ w3.heap.size; omega) (.int .u32 (y.n : Int))
                have hVn : Has (wv.setCell ⟨w3.heap.size, 1, none⟩ (.int .u32 (y.n : Int))) w3.heap.size 61 (diffC ⟨1, y.n, [], endsM t⟩ none 0 none 0) := hVn
                obtain ⟨wu, hwu⟩ : ∃ W, wv.setCell ⟨w3.heap.size, 1, none⟩ (.int .u32 (y.n : Int)) = W := ⟨_, rfl⟩
                rw [hwu] at hVn hXn hYn hRn hbn
                clear hV hX hY hR hb hE
                go_wp2
                go_roundw
                case rel => exact ⟨n + 1, hnx, by go_num, by rw [← hyn.out]; exact hVn, hXn, hYn, hRn, hbn⟩
                case measure => simp [intOf]; omega
          · obtain ⟨wa, hwa, hxa, hq0⟩ : ∃ W, wr.drew.alloc (.cells (entC ent0) 37) = W ∧ Has W wr.heap.size 37 (entC ent0) ∧ Below wr.heap.size wr W := ⟨_, rfl, Has.new _ _ _, hbA.alloc (Nat.le_refl _) _⟩
            refine plan_alloc_has _ rfl (by rfl) 37 rfl (entC ent0) ent_zero (by rw [hwa]; exact hq0) ?_
            rw [hwa]
            try simp only [Act.put, List.setIfInBounds_toArray, List.set_cons_zero, List.set_cons_succ]
            refine plan_run _ rfl (fun K hK => ?_)
            go_simp
            refine (reffind_any s ao c x.n _ hs (h.later (hb.trans (hq0.mono hb.size))) hxo.n).mono ?_
            rintro en w5 ⟨rfl, hq⟩
            have hb5 := hq0.trans (hq.mono hq0.size)
            have hE0 := hxa.later hq
            refine hK.out _ _ hb5 ?_
            clear hK K hq hq0 hxa hwa
            generalize findM s x.n = F at *
            try simp only [Act.put, List.setIfInBounds_toArray, List.set_cons_zero, List.set_cons_succ]
            iterate 3
              first
                | (refine plan_pass _ rfl (by rfl) ?_)
                | (refine plan_take _ _ rfl (.inl ⟨by rfl, fun W hS => by clear hS; go_simp; try with_reducible rfl⟩) ?_)
              try simp only [Act.put, List.setIfInBounds_toArray, List.set_cons_zero, List.set_cons_succ]
            have hE := hE0.row (entC F.1)
            have hbz := below_setRow hb5 (Nat.le_refl _) (entC F.1)
            refine plan_store_has _ rfl (by rfl) 37 _ _ rfl wr.heap.size rfl (entC F.1) rfl 37 (entC ent0) (ent_size _) rfl (ent_one _) hE0 hbz ?_
            try simp only [Act.put, List.setIfInBounds_toArray, List.set_cons_zero, List.set_cons_succ]
            generalize w5.setRow wr.heap.size (entC F.1) = wz at *
            iterate 1
              first
                | (refine plan_pass _ rfl (by rfl) ?_)
                | (refine plan_take _ _ rfl (.inl ⟨by rfl, fun W hS => by clear hS; go_simp; try with_reducible rfl⟩) ?_)
              try simp only [Act.put, List.setIfInBounds_toArray, List.set_cons_zero, List.set_cons_succ]
            refine plan_done ?_
            clear hb5 hbA hE0
            replace hV := hV.later hbz
            replace hX := hX.later hbz
            replace hY := hY.later hbz
            replace hR := hR.later hbz
            replace hb := hb.trans (hbz.mono hb.size)
            have hx1 := fun W (hW : Below wz.heap.size wz W) => hx W (hbz.trans (hW.mono hbz.size))
            have hbB : Below wz.heap.size wz wz.drew := (Below.refl _ _).drew
            have hgl : w3.heap.size < wr.heap.size := by omega
            clear hx hbz
            obtain ⟨y, b⟩ := F
            cases b with
            | false =>
              have hk := hmore.out.2 (by rfl)
              go_wp2
              refine wp_region_plan (fun W => Below wz.heap.size wz W) (Plan.of [(0, true), (1, true), (2, true), (3, true), (4, true), (5, true), (6, true), (7, true), (8, true), (9, true), (10, true)] .done) (by kernel_rfl) (by kernel_rfl) (by kernel_rfl) (by kernel_rfl) hbB ?_
              iterate 11
                first
                  | (refine plan_pass _ rfl (by rfl) ?_)
                  | (refine plan_take _ _ rfl (.inl ⟨by rfl, fun W hS => by clear hS; go_simp; try with_reducible rfl⟩) ?_)
                try simp only [Act.put, List.setIfInBounds_toArray, List.set_cons_zero, List.set_cons_succ]
              refine plan_done ?_
              replace hV := hV.later hbB
              replace hX := hX.later hbB
              replace hY := hY.later hbB
              replace hR := hR.later hbB
              replace hb := hb.trans (hbB.mono hb.size)
              clear hbB hx1 hE hmore
              generalize wz.drew = wv at *
              have hM2 : Hid (makeM s t = ⟨1, t.tail.n + n, t.log.drop n, endsM t⟩) := by show _ = _; rw [hM.out, hk]
              have hc7 := hY.st_log
              have hrest := fun W => run_rest W (some bd) t.log.length d n hnl hle'
              have hlen2 : (t.log.drop n).length = t.log.length - n := List.length_drop
              obtain ⟨go, gc, wq, hrz, hG, hgn, hq⟩ := append_new wv 38 (t.log.drop n) (cutAddr (some bd) d n) (d - n) ((h'.later hb).drop n hnl) (by omega)
              rw [hlen2] at hrz
              have hRl0 := hR.lt
              have hVl0 := hV.lt
              have hgs : ∀ e, go = some e → w3.heap.size < e.block ∧ w.heap.size + 1 + 1 < e.block := fun e he => by have := hgn e he; omega
              replace hV := hV.later hq
              replace hR := hR.later hq
              replace hb := hb.trans (hq.mono hb.size)
              have hc2 := hV.d_log
              have hf2 := hV.free 2
              have hVl := hV.d_setLog (t.log.drop n) go gc
              rw [hlen2] at hVl
              have hRl := hR.set_other (a := ⟨w3.heap.size, 2, none⟩) (show w.heap.size + 1 + 1 ≠ w3.heap.size by omega) (.slice go (t.log.length - n) gc)
              have hGl := hG.cell_other (a := ⟨w3.heap.size, 2, none⟩) (fun e he => by have := hgs e he; show e.block ≠ w3.heap.size; omega) (.slice go (t.log.length - n) gc)
              have hbl := hb.setCell (show w.heap.size ≤ (⟨w3.heap.size, 2, none⟩ : Addr).block by show w.heap.size ≤ w3.heap.size; omega) (.slice go (t.log.length - n) gc)
              obtain ⟨wy, hwy⟩ : ∃ W, wq.setCell ⟨w3.heap.size, 2, none⟩ (.slice go (t.log.length - n) gc) = W := ⟨_, rfl⟩
              rw [hwy] at hVl hRl hGl hbl
              have hVl : Has wy w3.heap.size 61 (diffC ⟨1, t.tail.n + n, t.log.drop n, endsM t⟩ go gc none 0) := hVl
              have hz := hRl.row (diffC ⟨1, t.tail.n + n, t.log.drop n, endsM t⟩ go gc none 0)
              have hsz := hGl.row_other (k := w.heap.size + 1 + 1) (fun e he => by have := hgs e he; omega) (diffC ⟨1, t.tail.n + n, t.log.drop n, endsM t⟩ go gc none 0)
              have hbz := below_setRow hbl (show w.heap.size ≤ w.heap.size + 1 + 1 by omega) (diffC ⟨1, t.tail.n + n, t.log.drop n, endsM t⟩ go gc none 0)
              generalize cutAddr (some bd) d n = co at *
              clear hG hq hV hR hGl hbl hgn hb
              go_wp2_with ((with_reducible refine at_open ?_); first
                | (refine wpList_append8 (by rfl) _ _ 38 38 rfl (.slice none 0 0) (.slice co (t.log.length - n) (d - n)) rfl rfl (.slice go (t.log.length - n) gc) wq ?hr ?_; (case hr => exact hrz))
                | (refine wpList_load_has (by rfl) 61 _ rfl (w3.heap.size) rfl 61 (diffC ⟨1, t.tail.n + n, t.log.drop n, endsM t⟩ go gc none 0) _ Try.underlying61 rfl (diff_size _ _ _ _ _) ?hg ?_; (case hg => exact hVl))
                | (refine wpList_store_has (by rfl) 61 _ _ rfl (w.heap.size + 1 + 1) rfl (diffC ⟨1, t.tail.n + n, t.log.drop n, endsM t⟩ go gc none 0) rfl 61 (diffC diff0 none 0 none 0) (diff_size _ _ _ _ _) (diff_same _ _ _ _ _ _ _ _ _ _) (diff_one _ _ _ _ _) ?hg ?_; (case hg => exact hRl))
                | fail)
              refine ret_has rfl (w.heap.size + 1 + 1) rfl 61 (diffC ⟨1, t.tail.n + n, t.log.drop n, endsM t⟩ go gc none 0) _ Try.underlying61 rfl (diff_size _ _ _ _ _) hz rfl ⟨go, gc, none, 0, by rw [hM2.out], ?_⟩
              rw [hM2.out]
              exact ⟨hsz, Sl.nothing _ _, hbz⟩
            | true =>
              have heq := fun W => neqv_ent y x hfo hxo W
              go_wp2
              refine wp_region_plan (fun W => Below wz.heap.size wz W) (Plan.of [(0, true), (1, true), (2, true), (3, true), (4, true), (5, true), (6, true), (7, true), (8, true), (9, true), (10, true)] .done) (by kernel_rfl) (by kernel_rfl) (by kernel_rfl) (by kernel_rfl) hbB ?_
              iterate 3
                first
                  | (refine plan_pass _ rfl (by rfl) ?_)
                  | (refine plan_take _ _ rfl (.inl ⟨by rfl, fun W hS => by clear hS; go_simp; try with_reducible rfl⟩) ?_)
                try simp only [Act.put, List.setIfInBounds_toArray, List.set_cons_zero, List.set_cons_succ]
              refine plan_take _ _ rfl (yields_load_has (by rfl) 37 _ rfl (wr.heap.size) rfl 37 (entC y) _ Try.underlying37 rfl (ent_size _) (fun W hW => hE.later hW)) ?_
              try simp only [Act.put, List.setIfInBounds_toArray, List.set_cons_zero, List.set_cons_succ]
              iterate 1
                first
                  | (refine plan_pass _ rfl (by rfl) ?_)
                  | (refine plan_take _ _ rfl (.inl ⟨by rfl, fun W hS => by clear hS; go_simp; try with_reducible rfl⟩) ?_)
                try simp only [Act.put, List.setIfInBounds_toArray, List.set_cons_zero, List.set_cons_succ]
              iterate 1
                first
                  | (refine plan_pass _ rfl (by rfl) ?_)
                  | (refine plan_take _ _ rfl (.inl ⟨by rfl, fun W hS => by have z0 := (hY.later hS).st_log; go_simp; try with_reducible rfl⟩) ?_)
                try simp only [Act.put, List.setIfInBounds_toArray, List.set_cons_zero, List.set_cons_succ]
              iterate 2
                first
                  | (refine plan_pass _ rfl (by rfl) ?_)
                  | (refine plan_take _ _ rfl (.inl ⟨by rfl, fun W hS => by clear hS; go_simp; try with_reducible rfl⟩) ?_)
                try simp only [Act.put, List.setIfInBounds_toArray, List.set_cons_zero, List.set_cons_succ]
              refine plan_take _ _ rfl (.inl ⟨by rfl, fun W hW => run_load_any 37 _ rfl _ rfl (entL x) _ (hx1 W hW) Try.underlying37 rfl (ent_size x)⟩) ?_
              try simp only [Act.put, List.setIfInBounds_toArray, List.set_cons_zero, List.set_cons_succ]
              refine plan_take _ _ rfl (yields_bin_agg (by rfl) .neq 37 _ _ _ rfl (entC y) (entC x) rfl rfl (.bool (!same tEnt y x)) guard_ent heq) ?_
              try simp only [Act.put, List.setIfInBounds_toArray, List.set_cons_zero, List.set_cons_succ]
              iterate 1
                first
                  | (refine plan_pass _ rfl (by rfl) ?_)
                  | (refine plan_take _ _ rfl (.inl ⟨by rfl, fun W hS => by clear hS; go_simp; try with_reducible rfl⟩) ?_)
                try simp only [Act.put, List.setIfInBounds_toArray, List.set_cons_zero, List.set_cons_succ]
              refine plan_done ?_
              replace hV := hV.later hbB
              replace hX := hX.later hbB
              replace hY := hY.later hbB
              replace hR := hR.later hbB
              replace hE := hE.later hbB
              replace hb := hb.trans (hbB.mono hb.size)
              clear hbB hx1 heq
              generalize wz.drew = wv at *
              cases hsm : same tEnt y x with
              | false =>
                have hk := hmore.out.2 (by show (true && same tEnt y x) = false; rw [hsm]; rfl)
                clear hmore hE
                have hM2 : Hid (makeM s t = ⟨1, t.tail.n + n, t.log.drop n, endsM t⟩) := by show _ = _; rw [hM.out, hk]
                have hc7 := hY.st_log
                have hrest := fun W => run_rest W (some bd) t.log.length d n hnl hle'
                have hlen2 : (t.log.drop n).length = t.log.length - n := List.length_drop
                obtain ⟨go, gc, wq, hrz, hG, hgn, hq⟩ := append_new wv 38 (t.log.drop n) (cutAddr (some bd) d n) (d - n) ((h'.later hb).drop n hnl) (by omega)
                rw [hlen2] at hrz
                have hRl0 := hR.lt
                have hVl0 := hV.lt
                have hgs : ∀ e, go = some e → w3.heap.size < e.block ∧ w.heap.size + 1 + 1 < e.block := fun e he => by have := hgn e he; omega
                replace hV := hV.later hq
                replace hR := hR.later hq
                replace hb := hb.trans (hq.mono hb.size)
                have hc2 := hV.d_log
                have hf2 := hV.free 2
                have hVl := hV.d_setLog (t.log.drop n) go gc
                rw [hlen2] at hVl
                have hRl := hR.set_other (a := ⟨w3.heap.size, 2, none⟩) (show w.heap.size + 1 + 1 ≠ w3.heap.size by omega) (.slice go (t.log.length - n) gc)
                have hGl := hG.cell_other (a := ⟨w3.heap.size, 2, none⟩) (fun e he => by have := hgs e he; show e.block ≠ w3.heap.size; omega) (.slice go (t.log.length - n) gc)
                have hbl := hb.setCell (show w.heap.size ≤ (⟨w3.heap.size, 2, none⟩ : Addr).block by show w.heap.size ≤ w3.heap.size; omega) (.slice go (t.log.length - n) gc)
                obtain ⟨wy, hwy⟩ : ∃ W, wq.setCell ⟨w3.heap.size, 2, none⟩ (.slice go (t.log.length - n) gc) = W := ⟨_, rfl⟩
                rw [hwy] at hVl hRl hGl hbl
                have hVl : Has wy w3.heap.size 61 (diffC ⟨1, t.tail.n + n, t.log.drop n, endsM t⟩ go gc none 0) := hVl
                have hz := hRl.row (diffC ⟨1, t.tail.n + n, t.log.drop n, endsM t⟩ go gc none 0)
                have hsz := hGl.row_other (k := w.heap.size + 1 + 1) (fun e he => by have := hgs e he; omega) (diffC ⟨1, t.tail.n + n, t.log.drop n, endsM t⟩ go gc none 0)
                have hbz := below_setRow hbl (show w.heap.size ≤ w.heap.size + 1 + 1 by omega) (diffC ⟨1, t.tail.n + n, t.log.drop n, endsM t⟩ go gc none 0)
                generalize cutAddr (some bd) d n = co at *
                clear hG hq hV hR hGl hbl hgn hb
                go_wp2_with ((with_reducible refine at_open ?_); first
                  | (refine wpList_append8 (by rfl) _ _ 38 38 rfl (.slice none 0 0) (.slice co (t.log.length - n) (d - n)) rfl rfl (.slice go (t.log.length - n) gc) wq ?hr ?_; (case hr => exact hrz))
                  | (refine wpList_load_has (by rfl) 61 _ rfl (w3.heap.size) rfl 61 (diffC ⟨1, t.tail.n + n, t.log.drop n, endsM t⟩ go gc none 0) _ Try.underlying61 rfl (diff_size _ _ _ _ _) ?hg ?_; (case hg => exact hVl))
                  | (refine wpList_store_has (by rfl) 61 _ _ rfl (w.heap.size + 1 + 1) rfl (diffC ⟨1, t.tail.n + n, t.log.drop n, endsM t⟩ go gc none 0) rfl 61 (diffC diff0 none 0 none 0) (diff_size _ _ _ _ _) (diff_same _ _ _ _ _ _ _ _ _ _) (diff_one _ _ _ _ _) ?hg ?_; (case hg => exact hRl))
                  | fail)
                refine ret_has rfl (w.heap.size + 1 + 1) rfl 61 (diffC ⟨1, t.tail.n + n, t.log.drop n, endsM t⟩ go gc none 0) _ Try.underlying61 rfl (diff_size _ _ _ _ _) hz rfl ⟨go, gc, none, 0, by rw [hM2.out], ?_⟩
                rw [hM2.out]
                exact ⟨hsz, Sl.nothing _ _, hbz⟩
              | true =>
                have hnx := hmore.out.1 (by show (true && same tEnt y x) = true; rw [hsm]; rfl)
                have hyx : y = x := (same_is y x).1 hsm
                have hyn : Hid (y.n = t.tail.n + (n + 1)) := by show _ = _; rw [hyx, hxn.out]; omega
                clear hmore hyx hxn hsm
                have hc1 := hE.ent_n
                have hc2 := hV.d_from
                have hf2 := hV.free 1
                have hVn := hV.d_setFrom y.n
                have hXn := hX.set_other (a := ⟨w3.heap.size, 1, none⟩) (show w.heap.size ≠ w3.heap.size by omega) (.int .u32 (y.n : Int))
                have hYn := hY.set_other (a := ⟨w3.heap.size, 1, none⟩) (show w.heap.size + 1 ≠ w3.heap.size by omega) (.int .u32 (y.n : Int))
                have hRn := hR.set_other (a := ⟨w3.heap.size, 1, none⟩) (show w.heap.size + 1 + 1 ≠ w3.heap.size by omega) (.int .u32 (y.n : Int))
                have hbn := hb.setCell (show w.heap.size ≤ (⟨w3.heap.size, 1, none⟩ : Addr).block by show w.heap.size ≤ w3.heap.size; omega) (.int .u32 (y.n : Int))
                have hVn : Has (wv.setCell ⟨w3.heap.size, 1, none⟩ (.int .u32 (y.n : Int))) w3.heap.size 61 (diffC ⟨1, y.n, [], endsM t⟩ none 0 none 0) := hVn
                obtain ⟨wu, hwu⟩ : ∃ W, wv.setCell ⟨w3.heap.size, 1, none⟩ (.int .u32 (y.n : Int)) = W := ⟨_, rfl⟩
                rw [hwu] at hVn hXn hYn hRn hbn
                clear hV hX hY hR hb hE
                go_wp2
                go_roundw
                case rel => exact ⟨n + 1, hnx, by go_num, by rw [← hyn.out]; exact hVn, hXn, hYn, hRn, hbn⟩
                case measure => simp [intOf]; omega
      · have hk : sharedN s t.log = n := by omega
        have hltI : ¬ ((n : Int) < (t.log.length : Int)) := by omega
        have hM2 : Hid (makeM s t = ⟨1, t.tail.n + n, t.log.drop n, endsM t⟩) := by show _ = _; rw [hM.out, hk]
        have hc7 := hY.st_log
        have hrest := fun W => run_rest W bo t.log.length d n hnl hle'
        have hlen2 : (t.log.drop n).length = t.log.length - n := List.length_drop
        obtain ⟨go, gc, wq, hrz, hG, hgn, hq⟩ := append_new wr 38 (t.log.drop n) (cutAddr bo d n) (d - n) ((h'.later hb).drop n hnl) (by omega)
        rw [hlen2] at hrz
        have hRl0 := hR.lt
        have hVl0 := hV.lt
        have hgs : ∀ e, go = some e → w3.heap.size < e.block ∧ w.heap.size + 1 + 1 < e.block := fun e he => by have := hgn e he; omega
        replace hV := hV.later hq
        replace hR := hR.later hq
        replace hb := hb.trans (hq.mono hb.size)
        have hc2 := hV.d_log
        have hf2 := hV.free 2
        have hVl := hV.d_setLog (t.log.drop n) go gc
        rw [hlen2] at hVl
        have hRl := hR.set_other (a := ⟨w3.heap.size, 2, none⟩) (show w.heap.size + 1 + 1 ≠ w3.heap.size by omega) (.slice go (t.log.length - n) gc)
        have hGl := hG.cell_other (a := ⟨w3.heap.size, 2, none⟩) (fun e he => by have := hgs e he; show e.block ≠ w3.heap.size; omega) (.slice go (t.log.length - n) gc)
        have hbl := hb.setCell (show w.heap.size ≤ (⟨w3.heap.size, 2, none⟩ : Addr).block by show w.heap.size ≤ w3.heap.size; omega) (.slice go (t.log.length - n) gc)
        obtain ⟨wy, hwy⟩ : ∃ W, wq.setCell ⟨w3.heap.size, 2, none⟩ (.slice go (t.log.length - n) gc) = W := ⟨_, rfl⟩
        rw [hwy] at hVl hRl hGl hbl
        have hVl : Has wy w3.heap.size 61 (diffC ⟨1, t.tail.n + n, t.log.drop n, endsM t⟩ go gc none 0) := hVl
        have hz := hRl.row (diffC ⟨1, t.tail.n + n, t.log.drop n, endsM t⟩ go gc none 0)
        have hsz := hGl.row_other (k := w.heap.size + 1 + 1) (fun e he => by have := hgs e he; omega) (diffC ⟨1, t.tail.n + n, t.log.drop n, endsM t⟩ go gc none 0)
        have hbz := below_setRow hbl (show w.heap.size ≤ w.heap.size + 1 + 1 by omega) (diffC ⟨1, t.tail.n + n, t.log.drop n, endsM t⟩ go gc none 0)
        generalize cutAddr bo d n = co at *
        clear hG hq hV hR hGl hbl hgn hb
        go_wp2_with ((with_reducible refine at_open ?_); first
          | (refine wpList_append8 (by rfl) _ _ 38 38 rfl (.slice none 0 0) (.slice co (t.log.length - n) (d - n)) rfl rfl (.slice go (t.log.length - n) gc) wq ?hr ?_; (case hr => exact hrz))
          | (refine wpList_load_has (by rfl) 61 _ rfl (w3.heap.size) rfl 61 (diffC ⟨1, t.tail.n + n, t.log.drop n, endsM t⟩ go gc none 0) _ Try.underlying61 rfl (diff_size _ _ _ _ _) ?hg ?_; (case hg => exact hVl))
          | (refine wpList_store_has (by rfl) 61 _ _ rfl (w.heap.size + 1 + 1) rfl (diffC ⟨1, t.tail.n + n, t.log.drop n, endsM t⟩ go gc none 0) rfl 61 (diffC diff0 none 0 none 0) (diff_size _ _ _ _ _) (diff_same _ _ _ _ _ _ _ _ _ _) (diff_one _ _ _ _ _) ?hg ?_; (case hg => exact hRl))
          | fail)
        refine ret_has rfl (w.heap.size + 1 + 1) rfl 61 (diffC ⟨1, t.tail.n + n, t.log.drop n, endsM t⟩ go gc none 0) _ Try.underlying61 rfl (diff_size _ _ _ _ _) hz rfl ⟨go, gc, none, 0, by rw [hM2.out], ?_⟩
        rw [hM2.out]
        exact ⟨hsz, Sl.nothing _ _, hbz⟩


set_option maxHeartbeats 4000000 in
theorem refextends_any (s t : StV) (ao bo : Option Addr) (c d : Nat) (w : World) (hs : StOk s) (ht : StOk t) (h : Sl w ao c 8 (entR s.log)) (h' : Sl w bo d 8 (entR t.log)) :
    Calls Try.prog 37 #[.agg (stC s ao c), .agg (stC t bo d)] w fun en w' => en = .returned (.bool (extendsM s t)) ∧ Below w.heap.size w w' := by
  obtain ⟨w1, hw1, hX, hY, hb⟩ := two_vars w 40 40 (stC s ao c) (stC t bo d)
  go_enter Try.func37, Try.ntmps37
  go_wp2_with (first
    | (refine wpList_load_has (by rfl) 40 _ rfl (w.heap.size) rfl 40 (stC s ao c) _ Try.underlying40 rfl (st_size _ _ _) ?hg ?_; (case hg => exact hX))
    | fail)
  refine (refis_any s ao c _ hs (h.later hb)).mono ?_
  rintro en w2 ⟨rfl, hq⟩
  replace hX := hX.later hq
  replace hY := hY.later hq
  replace hb := hb.trans (hq.mono hb.size)
  clear hq hw1
  cases hi : isM s with
  | false =>
    have hM : Hid _ := extends_no (a := s) (b := t) (.inl hi)
    go_wp2
    go_ret
    exact ⟨by rw [hM.out]; rfl, hb⟩
  | true =>
  go_wp2_with (first
    | (refine wpList_load_has (by rfl) 40 _ rfl (w.heap.size + 1) rfl 40 (stC t bo d) _ Try.underlying40 rfl (st_size _ _ _) ?hg ?_; (case hg => exact hY))
    | fail)
  refine (refis_any t bo d _ ht (h'.later hb)).mono ?_
  rintro en w3 ⟨rfl, hq⟩
  replace hX := hX.later hq
  replace hY := hY.later hq
  replace hb := hb.trans (hq.mono hb.size)
  clear hq
  cases hj : isM t with
  | false =>
    have hM : Hid _ := extends_no (a := s) (b := t) (.inr hj)
    go_wp2
    go_ret
    exact ⟨by rw [hM.out]; rfl, hb⟩
  | true =>
  have hM : Hid _ := extends_yes hi hj
  have hh1 : Hid _ := head_yes hi
  have hh2 : Hid _ := head_yes hj
  clear hi hj
  go_wp2_with (first
    | (refine wpList_load_has (by rfl) 40 _ rfl (w.heap.size) rfl 40 (stC s ao c) _ Try.underlying40 rfl (st_size _ _ _) ?hg ?_; (case hg => exact hX))
    | fail)
  refine (refhead_any s ao c _ hs (h.later hb)).mono ?_
  rintro en w4 ⟨rfl, hq⟩
  rw [hh1.out]
  replace hX := hX.later hq
  replace hY := hY.later hq
  replace hb := hb.trans (hq.mono hb.size)
  clear hq hh1
  go_wp2_with (first
    | (refine wpList_load_has (by rfl) 40 _ rfl (w.heap.size + 1) rfl 40 (stC t bo d) _ Try.underlying40 rfl (st_size _ _ _) ?hg ?_; (case hg => exact hY))
    | fail)
  refine (refhead_any t bo d _ ht (h'.later hb)).mono ?_
  rintro en w5 ⟨rfl, hq⟩
  rw [hh2.out]
  replace hX := hX.later hq
  replace hY := hY.later hq
  replace hb := hb.trans (hq.mono hb.size)
  clear hq hh2
  go_wp2_with (first
    | (refine wpList_load_has (by rfl) 40 _ rfl (w.heap.size) rfl 40 (stC s ao c) _ Try.underlying40 rfl (st_size _ _ _) ?hg ?_; (case hg => exact hX))
    | (refine wpList_load_has (by rfl) 40 _ rfl (w.heap.size + 1) rfl 40 (stC t bo d) _ Try.underlying40 rfl (st_size _ _ _) ?hg ?_; (case hg => exact hY))
    | fail)
  refine (refmake_any s t ao bo c d _ hs ht (h.later hb) (h'.later hb)).mono ?_
  rintro en w6 ⟨lo, lc, wo, wc, rfl, hG1, hG2, hq⟩
  have hdo := make_fit hs ht
  replace hb := hb.trans (hq.mono hb.size)
  clear hq hG1 hG2 hX hY
  generalize makeM s t = D at *
  generalize (headE s).n = n at *
  generalize (headE t).n = m at *
  obtain ⟨w7, hw7, hD, hq⟩ := new_var w6 61 (diffC diff0 none 0 none 0) (diffC D lo lc wo wc)
  replace hb := hb.trans (hq.mono hb.size)
  clear hq
  have k0 := hD.d_kind
  have k1 := hD.d_from
  by_cases hnm : n ≤ m
  · have i1 : (n : Int) ≤ (m : Int) := by omega
    have i2 : decide ((n : Int) ≤ (m : Int)) = true := by rw [decide_eq_true_iff]; omega
    rw [decide_eq_true hnm, Bool.true_and] at hM
    by_cases q0 : D.kind = 0
    · have j0 : (D.kind == 0) = true := by rw [q0]; rfl
      rw [decide_eq_true q0, Bool.true_or] at hM
      clear q0
      go_wp2_with ((with_reducible refine at_open ?_); first
        | (refine wpList_alloc_has (by rfl) 61 rfl (diffC diff0 none 0 none 0) diff_zero ?_)
        | (refine wpList_store_to (by rfl) 61 _ _ rfl w6.heap.size rfl (diffC D lo lc wo wc) rfl 61 (diffC diff0 none 0 none 0) (diff_size _ _ _ _ _) (diff_same _ _ _ _ _ _ _ _ _ _) (diff_one _ _ _ _ _) ?hg w7 ?hW ?_; (case hg => exact Has.new _ _ _); (case hW => exact hw7); clear hw7)
        | fail)
      go_ret
      exact ⟨by rw [hM.out]; rfl, hb⟩
    · have j0 : (D.kind == 0) = false := by rw [beq_eq_false_iff_ne]; exact q0
      rw [decide_eq_false q0, Bool.false_or] at hM
      clear q0
      by_cases q1 : D.kind = 1
      · have j1 : (D.kind == 1) = true := by rw [q1]; rfl
        rw [decide_eq_true q1, Bool.true_and] at hM
        clear q1
        by_cases q2 : D.fr = n
        · have e1 : ((D.fr : Int) == (n : Int)) = true := by rw [q2]; simp
          have e2 : (D.fr == n) = true := by rw [q2]; simp
          rw [decide_eq_true q2] at hM
          clear q2
          go_wp2_with ((with_reducible refine at_open ?_); first
            | (refine wpList_alloc_has (by rfl) 61 rfl (diffC diff0 none 0 none 0) diff_zero ?_)
            | (refine wpList_store_to (by rfl) 61 _ _ rfl w6.heap.size rfl (diffC D lo lc wo wc) rfl 61 (diffC diff0 none 0 none 0) (diff_size _ _ _ _ _) (diff_same _ _ _ _ _ _ _ _ _ _) (diff_one _ _ _ _ _) ?hg w7 ?hW ?_; (case hg => exact Has.new _ _ _); (case hW => exact hw7); clear hw7)
            | fail)
          go_ret
          exact ⟨by rw [hM.out]; rfl, hb⟩
        · have e1 : ((D.fr : Int) == (n : Int)) = false := by rw [beq_eq_false_iff_ne]; omega
          have e2 : (D.fr == n) = false := by rw [beq_eq_false_iff_ne]; omega
          rw [decide_eq_false q2] at hM
          clear q2
          go_wp2_with ((with_reducible refine at_open ?_); first
            | (refine wpList_alloc_has (by rfl) 61 rfl (diffC diff0 none 0 none 0) diff_zero ?_)
            | (refine wpList_store_to (by rfl) 61 _ _ rfl w6.heap.size rfl (diffC D lo lc wo wc) rfl 61 (diffC diff0 none 0 none 0) (diff_size _ _ _ _ _) (diff_same _ _ _ _ _ _ _ _ _ _) (diff_one _ _ _ _ _) ?hg w7 ?hW ?_; (case hg => exact Has.new _ _ _); (case hW => exact hw7); clear hw7)
            | fail)
          go_ret
          exact ⟨by rw [hM.out]; rfl, hb⟩
      · have j1 : (D.kind == 1) = false := by rw [beq_eq_false_iff_ne]; exact q1
        rw [decide_eq_false q1, Bool.false_and] at hM
        clear q1
        go_wp2_with ((with_reducible refine at_open ?_); first
          | (refine wpList_alloc_has (by rfl) 61 rfl (diffC diff0 none 0 none 0) diff_zero ?_)
          | (refine wpList_store_to (by rfl) 61 _ _ rfl w6.heap.size rfl (diffC D lo lc wo wc) rfl 61 (diffC diff0 none 0 none 0) (diff_size _ _ _ _ _) (diff_same _ _ _ _ _ _ _ _ _ _) (diff_one _ _ _ _ _) ?hg w7 ?hW ?_; (case hg => exact Has.new _ _ _); (case hW => exact hw7); clear hw7)
          | fail)
        go_ret
        exact ⟨by rw [hM.out]; rfl, hb⟩
  · have i1 : ¬ (n : Int) ≤ (m : Int) := by omega
    have i2 : decide ((n : Int) ≤ (m : Int)) = false := by rw [decide_eq_false_iff_not]; omega
    rw [decide_eq_false hnm, Bool.false_and] at hM
    go_wp2_with ((with_reducible refine at_open ?_); first
      | (refine wpList_alloc_has (by rfl) 61 rfl (diffC diff0 none 0 none 0) diff_zero ?_)
      | (refine wpList_store_to (by rfl) 61 _ _ rfl w6.heap.size rfl (diffC D lo lc wo wc) rfl 61 (diffC diff0 none 0 none 0) (diff_size _ _ _ _ _) (diff_same _ _ _ _ _ _ _ _ _ _) (diff_one _ _ _ _ _) ?hg w7 ?hW ?_; (case hg => exact Has.new _ _ _); (case hW => exact hw7); clear hw7)
      | fail)
    go_ret
    exact ⟨by rw [hM.out]; rfl, hb⟩
end Go.Proofs.Ytphlfepgaghhhaa
