/- The contracts of pglog's Add, Same and of slices.Equal. -/
import Derived.Test.YtphlfepgaghhhaaLogFace
namespace Go.Proofs.Ytphlfepgaghhhaa
set_option linter.unusedSimpArgs false
set_option linter.unusedVariables false
set_option maxRecDepth 100000
open Go.RowKit

theorem can_no_is {s : StV} {e : EntV} (h : isM s = false) : canM s e = false := by unfold canM; rw [h]; rfl
theorem can_yes_is {s : StV} {e : EntV} (h : isM s = true) : canM s e = followsM (lastE s.tail s.log) e := by unfold canM; rw [h]; rfl

section
variable {P : Program} {ops : Array Oper} {rest : List Oper} {o : Oper} {a : Act} {w : World} {Q : Exit → Act → World → Prop}
theorem wpList_slice_vs (hw : Region.wanted o (yielded ops a.tmps) = true) (t : TypeId) (n : Nat) (parts : Array (Nat × Operand)) (ho : o.op = .buildSlice t n parts) (vs : Array (Nat × Value)) (hp : (parts.map fun (i, x) => (i, a.eval x)) = vs) (v : Value) (W : World) (hr : (Instr.buildSlice t n vs).run P w = .ok v W)
    (h : wpList P ops Q rest (a.put o.dst v) W) : wpList P ops Q (o :: rest) a w := by
  refine BigFrame.wpList_want hw fun K hK => ?_
  have e : (execOp a.eval o).run P w = .ok (.value v) W := by
    unfold execOp
    simp only [ho]
    simp only [hp, Sem.run_bind, hr, Result.andThen_ok, Sem.run_pure]
  unfold Oper.wp
  rw [e]
  exact hK _ _ h
theorem wpList_slice_one (hw : Region.wanted o (yielded ops a.tmps) = true) (t : TypeId) (x : Operand) (ho : o.op = .buildSlice t 1 #[(0, x)]) (p : Value) (hx : a.eval x = p) (v : Value) (W : World) (hr : (Instr.buildSlice t 1 #[(0, p)]).run P w = .ok v W)
    (h : wpList P ops Q rest (a.put o.dst v) W) : wpList P ops Q (o :: rest) a w :=
  wpList_slice_vs hw t 1 _ ho #[(0, p)] (by simp [hx]) v W hr h
end
theorem slice_one_ent (e : EntV) (w : World) : (Instr.buildSlice 38 1 #[(0, .agg (entC e))]).run Try.prog w = .ok (.slice (some ⟨w.heap.size, 0, none⟩) 1 1) (w.alloc (.cells (entC e) 37)) := by
  have h : (Instr.buildSlice 38 1 #[(0, .agg (entC e))]).run Try.prog w = ((newRow 37 (entC e)).run Try.prog w).andThen (fun a w => .ok (.slice (some a) 1 1) w) := by kernel_rfl
  rw [h]
  simp [newRow, run_newObj_alloc, Sem.run_bind, Sem.run_pure, Result.andThen]

/-- A slice of one element that is built on the spot. -/
theorem one_ent (w : World) (e : EntV) : ∃ W, w.alloc (.cells (entC e) 37) = W ∧ Sl W (some ⟨w.heap.size, 0, none⟩) 1 8 (entR [e]) ∧ Below w.heap.size w W := by
  refine ⟨_, rfl, ?_, (Below.refl _ _).alloc (Nat.le_refl _) _⟩
  have h : Has (w.alloc (.cells (entC e) 37)) w.heap.size 37 (entF [e]).toArray := by
    have := Has.new w 37 (entC e)
    have e2 : entF [e] = entL e := by unfold entF entR; simp
    rw [e2]
    exact this
  exact h.ents (by simp)

set_option maxHeartbeats 8000000 in
theorem add_any (s : StV) (ao : Option Addr) (c : Nat) (e : EntV) (w : World) (hs : StOk s) (he : EntOk e) (h : Sl w ao c 8 (entR s.log)) :
    Calls Try.prog 13 #[.agg (stC s ao c), .agg (entC e)] w fun en w' => ∃ ro rc, en = .returned (.tuple #[.agg (stC (addM s e).1 ro rc), .int .i64 ((addM s e).2 : Int)]) ∧ Gives w w' (addM s e).1 ro rc := by
  obtain ⟨w1, hw1, hX, hE, hR, hb⟩ := three_vars w 40 37 40 (stC s ao c) (entC e) (stC st0 none 0)
  have hlen := hs.len
  have hle := h.ent_le
  have hcap := h.cap
  have hlo := lastE_ok hs.tail hs.log
  have hlast := fun W (hW : Below w.heap.size w W) => last_any s.tail ao c s.log W (h.later hW) (by omega)
  have hfol := fun W => follows_any (lastE s.tail s.log) e W hlo he
  have hcan : Hid _ := fun h => can_yes_is (s := s) (e := e) h
  generalize lastE s.tail s.log = E at *
  go_enter Try.func13, Try.ntmps13
  go_wp2_with (first
    | (refine wpList_alloc_has (by rfl) 40 rfl (stC st0 none 0) st_zero ?_; rw [hw1]))
  have hbA : Below w1.heap.size w1 w1.drew := (Below.refl _ _).drew
  refine wp_region_plan (fun W => Below w1.heap.size w1 W) (Plan.of [(0, true), (1, false), (2, true), (3, true), (4, true), (5, true), (6, true), (7, true), (9, true), (8, false), (10, false), (11, true), (12, true)] .done) (by kernel_rfl) (by kernel_rfl) (by kernel_rfl) (by kernel_rfl) hbA ?_
  refine plan_take _ _ rfl (yields_load_has (by rfl) 40 _ rfl w.heap.size rfl 40 (stC s ao c) _ Try.underlying40 rfl (st_size _ _ _) (fun W hW => hX.later hW)) ?_
  try simp only [Act.put, List.setIfInBounds_toArray, List.set_cons_zero, List.set_cons_succ]
  refine plan_run _ rfl (fun K hK => ?_)
  go_simp
  refine (is_any s ao c _ hs (h.later hb.drew)).mono ?_
  rintro en w2 ⟨rfl, hq⟩
  have hb2 : Below w1.heap.size w1 w2 := hbA.trans (hq.mono hbA.size)
  refine hK.out _ _ hb2 ?_
  clear hK K hq hbA
  try simp only [Act.put, List.setIfInBounds_toArray, List.set_cons_zero, List.set_cons_succ]
  cases hi : isM s with
  | false =>
    have hM : Hid _ := add_no (can_no_is (e := e) hi)
    refine plan_take _ (.bool true) rfl (.inl ⟨by rfl, fun W hS => by clear hS; go_simp; try with_reducible rfl⟩) ?_
    try simp only [Act.put, List.setIfInBounds_toArray, List.set_cons_zero, List.set_cons_succ]
    iterate 6
      first
        | (refine plan_pass _ rfl (by rfl) ?_)
        | (refine plan_take _ _ rfl (.inl ⟨by rfl, fun W hS => by clear hS; go_simp; try with_reducible rfl⟩) ?_)
      try simp only [Act.put, List.setIfInBounds_toArray, List.set_cons_zero, List.set_cons_succ]
    refine plan_run _ rfl (fun K hK => ?_)
    go_simp
    refine hK.out _ _ hb2 ?_
    clear hK K
    try simp only [Act.put, List.setIfInBounds_toArray, List.set_cons_zero, List.set_cons_succ]
    refine plan_run _ rfl (fun K hK => ?_)
    go_simp
    refine hK.out _ _ hb2 ?_
    clear hK K
    try simp only [Act.put, List.setIfInBounds_toArray, List.set_cons_zero, List.set_cons_succ]
    iterate 2
      first
        | (refine plan_pass _ rfl (by rfl) ?_)
        | (refine plan_take _ _ rfl (.inl ⟨by rfl, fun W hS => by clear hS; go_simp; try with_reducible rfl⟩) ?_)
      try simp only [Act.put, List.setIfInBounds_toArray, List.set_cons_zero, List.set_cons_succ]
    refine plan_done ?_
    replace hR := hR.later hb2
    replace hb := hb.trans (hb2.mono hb.size)
    have hz := hR.row (stC st0 none 0)
    have hbz := below_setRow hb (show w.heap.size ≤ w.heap.size + 1 + 1 by omega) (stC st0 none 0)
    go_wp2_with (first
      | (refine wpList_build_has (by rfl) 40 #[] rfl (stC st0 none 0) (by simpa using st_built0) ?_)
      | (refine wpList_store_has (by rfl) 40 _ _ rfl (w.heap.size + 1 + 1) rfl (stC st0 none 0) rfl 40 (stC st0 none 0) (st_size _ _ _) (st_same _ _ _ _ _ _) (st_one _ _ _) ?hg ?_; (case hg => exact hR)))
    refine ret_has_tmp rfl (w.heap.size + 1 + 1) rfl 40 (stC st0 none 0) _ Try.underlying40 rfl (st_size _ _ _) hz rfl ⟨none, 0, by rw [hM.out]; rfl, ?_⟩
    rw [hM.out]
    exact Gives.zero hbz
  | true =>
    replace hcan := hcan.out hi
    refine plan_take _ (.bool false) rfl (.inl ⟨by rfl, fun W hS => by clear hS; go_simp; try with_reducible rfl⟩) ?_
    try simp only [Act.put, List.setIfInBounds_toArray, List.set_cons_zero, List.set_cons_succ]
    iterate 2
      first
        | (refine plan_pass _ rfl (by rfl) ?_)
        | (refine plan_take _ _ rfl (.inl ⟨by rfl, fun W hS => by clear hS; go_simp; try with_reducible rfl⟩) ?_)
      try simp only [Act.put, List.setIfInBounds_toArray, List.set_cons_zero, List.set_cons_succ]
    refine plan_take _ _ rfl (yields_load_mid (by rfl) 37 _ rfl w.heap.size 40 rfl (entL s.tail) _ Try.underlying37 rfl (ent_size _) (fun W hW => (hX.later hW).st_tail)) ?_
    try simp only [Act.put, List.setIfInBounds_toArray, List.set_cons_zero, List.set_cons_succ]
    iterate 1
      first
        | (refine plan_pass _ rfl (by rfl) ?_)
        | (refine plan_take _ _ rfl (.inl ⟨by rfl, fun W hS => by clear hS; go_simp; try with_reducible rfl⟩) ?_)
      try simp only [Act.put, List.setIfInBounds_toArray, List.set_cons_zero, List.set_cons_succ]
    iterate 1
      first
        | (refine plan_pass _ rfl (by rfl) ?_)
        | (refine plan_take _ _ rfl (.inl ⟨by rfl, fun W hS => by have z0 := (hX.later hS).st_log; go_simp; try with_reducible rfl⟩) ?_)
      try simp only [Act.put, List.setIfInBounds_toArray, List.set_cons_zero, List.set_cons_succ]
    refine plan_take _ _ rfl (yields_load_has (by rfl) 37 _ rfl (w.heap.size + 1) rfl 37 (entC e) _ Try.underlying37 rfl (ent_size _) (fun W hW => hE.later hW)) ?_
    try simp only [Act.put, List.setIfInBounds_toArray, List.set_cons_zero, List.set_cons_succ]
    refine plan_run _ rfl (fun K hK => ?_)
    go_simp
    refine (hlast _ (hb.trans (hb2.mono hb.size))).mono ?_
    rintro en w3 ⟨rfl, hq⟩
    have hb3 : Below w1.heap.size w1 w3 := hb2.trans (hq.mono hb2.size)
    refine hK.out _ _ hb3 ?_
    clear hK K hq hb2
    try simp only [Act.put, List.setIfInBounds_toArray, List.set_cons_zero, List.set_cons_succ]
    refine plan_run _ rfl (fun K hK => ?_)
    go_simp
    refine (hfol _).mono ?_
    rintro en w4 ⟨rfl, hq⟩
    have hb4 : Below w1.heap.size w1 w4 := hb3.trans (hq.mono hb3.size)
    refine hK.out _ _ hb4 ?_
    clear hK K hq hb3 hfol hlast
    try simp only [Act.put, List.setIfInBounds_toArray, List.set_cons_zero, List.set_cons_succ]
    replace hX := hX.later hb4
    replace hE := hE.later hb4
    replace hR := hR.later hb4
    replace hb := hb.trans (hb4.mono hb.size)
    clear hb4
    cases hf : followsM E e with
    | false =>
      have hM : Hid _ := add_no (hcan.trans hf)
      refine plan_take _ (.bool true) rfl (.inl ⟨by rfl, fun W hS => by clear hS; go_simp; try with_reducible rfl⟩) ?_
      try simp only [Act.put, List.setIfInBounds_toArray, List.set_cons_zero, List.set_cons_succ]
      refine plan_take _ (.bool true) rfl (.inl ⟨by rfl, fun W hS => by clear hS; go_simp; try with_reducible rfl⟩) ?_
      try simp only [Act.put, List.setIfInBounds_toArray, List.set_cons_zero, List.set_cons_succ]
      refine plan_done ?_
      have hz := hR.row (stC st0 none 0)
      have hbz := below_setRow hb (show w.heap.size ≤ w.heap.size + 1 + 1 by omega) (stC st0 none 0)
      go_wp2_with (first
        | (refine wpList_build_has (by rfl) 40 #[] rfl (stC st0 none 0) (by simpa using st_built0) ?_)
        | (refine wpList_store_has (by rfl) 40 _ _ rfl (w.heap.size + 1 + 1) rfl (stC st0 none 0) rfl 40 (stC st0 none 0) (st_size _ _ _) (st_same _ _ _ _ _ _) (st_one _ _ _) ?hg ?_; (case hg => exact hR)))
      refine ret_has_tmp rfl (w.heap.size + 1 + 1) rfl 40 (stC st0 none 0) _ Try.underlying40 rfl (st_size _ _ _) hz rfl ⟨none, 0, by rw [hM.out]; rfl, ?_⟩
      rw [hM.out]
      exact Gives.zero hbz
    | true =>
      have hM : Hid _ := add_yes (hcan.trans hf)
      have hl6 := ((is_is s).1 hi).2.2.2.1
      refine plan_take _ (.bool false) rfl (.inl ⟨by rfl, fun W hS => by clear hS; go_simp; try with_reducible rfl⟩) ?_
      try simp only [Act.put, List.setIfInBounds_toArray, List.set_cons_zero, List.set_cons_succ]
      refine plan_take _ (.bool false) rfl (.inl ⟨by rfl, fun W hS => by clear hS; go_simp; try with_reducible rfl⟩) ?_
      try simp only [Act.put, List.setIfInBounds_toArray, List.set_cons_zero, List.set_cons_succ]
      refine plan_done ?_
      have hl := hX.st_log
      obtain ⟨w5, hw5, hS5, hq⟩ := one_ent w4 e
      replace hX := hX.later hq
      replace hR := hR.later hq
      replace hb := hb.trans (hq.mono hb.size)
      have hsz8 : (entC e).size = 8 := rfl
      have hjoin := fun W (hW : Below w.heap.size w W) hS => joined_any ao (some ⟨w4.heap.size, 0, none⟩) c 1 s.log [e] W (h.later hW) hS (by simp; omega)
      have hln : Hid ((s.log ++ [e]).length = s.log.length + 1) := by show _ = _; rw [List.length_append]; rfl
      rw [hln.out] at hjoin
      have hiH : Hid (isM s = true) := hi
      clear hq hcan hf hi
      go_wp2_with (first
        | (refine wpList_load_has (by rfl) 37 _ rfl (w.heap.size + 1) rfl 37 (entC e) _ Try.underlying37 rfl (ent_size _) ?hg ?_; (case hg => exact hE))
        | (refine wpList_slice_one (by rfl) 38 _ rfl (.agg (entC e)) rfl (.slice (some ⟨w4.heap.size, 0, none⟩) 1 1) w5 ?hr ?_; (case hr => exact hw5 ▸ slice_one_ent e _)))
      refine (hjoin _ hb hS5).mono ?_
      rintro en w7 ⟨g, hg1, rfl, hG, hq⟩
      have hgs : w.heap.size + 1 + 1 < g := by have := hR.lt; omega
      replace hX := hX.later hq
      replace hR := hR.later hq
      replace hb := hb.trans (hq.mono hb.size)
      clear hq hl hjoin hS5 hw5
      have hL : Hid ((s.log ++ [e]).length = s.log.length + 1) := hln.out
      have hLo : ∀ x ∈ s.log ++ [e], EntOk x := fun x hx => by
        rcases List.mem_append.1 hx with hx | hx
        · exact hs.log x hx
        · rw [List.mem_singleton.1 hx]; exact he
      have c48 := hX.st_log
      have f48 := hX.free 48
      have hX7 := hX.setLog (s.log ++ [e]) (some ⟨g, 0, none⟩) (s.log.length + 1)
      rw [hL.out] at hX7
      have hR7 := hR.set_other (a := ⟨w.heap.size, 48, none⟩) (show w.heap.size + 1 + 1 ≠ w.heap.size by omega) (.slice (some ⟨g, 0, none⟩) (s.log.length + 1) (s.log.length + 1))
      have hG7 := hG.set_other (a := ⟨w.heap.size, 48, none⟩) (show g ≠ w.heap.size by omega) (.slice (some ⟨g, 0, none⟩) (s.log.length + 1) (s.log.length + 1))
      have hb7 := hb.setCell (show w.heap.size ≤ (⟨w.heap.size, 48, none⟩ : Addr).block from Nat.le_refl _) (.slice (some ⟨g, 0, none⟩) (s.log.length + 1) (s.log.length + 1))
      obtain ⟨w8, hw8⟩ : ∃ W, w7.setCell ⟨w.heap.size, 48, none⟩ (.slice (some ⟨g, 0, none⟩) (s.log.length + 1) (s.log.length + 1)) = W := ⟨_, rfl⟩
      rw [hw8] at hX7 hR7 hG7 hb7
      have hSl := hG7.ents (by rw [hL.out]; omega)
      rw [hL.out] at hSl
      have hX8 : Has w8 w.heap.size 40 (stC (withLog s (s.log ++ [e])) (some ⟨g, 0, none⟩) (s.log.length + 1)) := hX7
      have l8 : w8.cell? ⟨w.heap.size, 48, none⟩ = some (.slice (some ⟨g, 0, none⟩) (s.log.length + 1) (s.log.length + 1)) := by
        have := hX8.st_log
        rw [show (withLog s (s.log ++ [e])).log.length = s.log.length + 1 from hL.out] at this
        exact this
      have hfold := fun k (hk : k ≤ s.log.length + 1) => folded_any (withLog s (s.log ++ [e])) (some ⟨g, 0, none⟩) (s.log.length + 1) k w8 (hs.isBase hiH.out) hs.tail hSl hLo (by show (s.log ++ [e]).length ≤ 1000; rw [hL.out]; omega) (by show k ≤ (s.log ++ [e]).length; rw [hL.out]; exact hk)
      have hmax : Hid (∃ k : Nat, k = s.log.length + 1 - 6 ∧ (if (0 : Int) > ((s.log.length : Int) + 1 - 6) then (0 : Int) else ((s.log.length : Int) + 1 - 6)) = (k : Int)) := by
        refine ⟨_, rfl, ?_⟩
        split <;> omega
      obtain ⟨k, hk, hmx⟩ := hmax.out
      rw [← hk] at hM
      have hfk := hfold k (by omega)
      clear hX hG hX7 hmax hfold hk
      generalize hF0 : withLog s (s.log ++ [e]) = F0 at *
      replace hF0 : Hid _ := hF0
      go_wp2_with (first
        | (refine wpList_load_has (by rfl) 40 _ rfl w.heap.size rfl 40 (stC F0 (some ⟨g, 0, none⟩) (s.log.length + 1)) _ Try.underlying40 rfl (st_size _ _ _) ?hg ?_; (case hg => exact hX8))
        | (refine wpList_max (by rfl) _ _ _ rfl _ _ _ _ (k : Int) rfl rfl ?hg ?_; (case hg => exact hmx)))
      refine hfk.mono ?_
      rintro en w9 ⟨ro, rc, rfl, hGv⟩
      have hlt8 := hR7.lt
      have hR9 := hR7.later hGv.below
      have hb9 := hb7.trans (hGv.below.mono hb7.size)
      have hgs9 : ∀ d, ro = some d → d.block ≠ w.heap.size + 1 + 1 := fun d hd => by have := hGv.new d hd; omega
      have hgn9 : ∀ d, ro = some d → w.heap.size ≤ d.block := fun d hd => by have := hGv.new d hd; omega
      have hsl := hGv.sl.row_other hgs9 (stC (foldK F0 k) ro rc)
      have hz := hR9.row (stC (foldK F0 k) ro rc)
      have hbz := below_setRow hb9 (show w.heap.size ≤ w.heap.size + 1 + 1 by omega) (stC (foldK F0 k) ro rc)
      clear hfk hX8 hR7 hb7 hGv
      go_wp2_with (first
        | (refine wpList_store_has (by rfl) 40 _ _ rfl (w.heap.size + 1 + 1) rfl (stC (foldK F0 k) ro rc) rfl 40 (stC st0 none 0) (st_size _ _ _) (st_same _ _ _ _ _ _) (st_one _ _ _) ?hg ?_; (case hg => exact hR9)))
      refine ret_has_tmp rfl (w.heap.size + 1 + 1) rfl 40 (stC (foldK F0 k) ro rc) _ Try.underlying40 rfl (st_size _ _ _) hz rfl ⟨ro, rc, by rw [hM.out]; rfl, ?_⟩
      rw [hM.out]
      exact ⟨hsl, hgn9, hbz⟩

theorem same_take (l m : List EntV) (n : Nat) (h : n < l.length) (h' : n < m.length) : l.take (n + 1) = m.take (n + 1) ↔ l.take n = m.take n ∧ l[n] = m[n] := by
  rw [List.take_succ_eq_append_getElem h, List.take_succ_eq_append_getElem h']
  constructor
  · intro e
    have hl : (l.take n).length = (m.take n).length := by rw [List.length_take, List.length_take]; omega
    obtain ⟨e1, e2⟩ := List.append_inj e hl
    exact ⟨e1, by simpa using e2⟩
  · rintro ⟨e1, e2⟩
    rw [e1, e2]

set_option maxHeartbeats 4000000 in
theorem equal_any (ao bo : Option Addr) (c d : Nat) (l m : List EntV) (w : World) (h : Sl w ao c 8 (entR l)) (h' : Sl w bo d 8 (entR m)) (hl : ∀ e ∈ l, EntOk e) (hm : ∀ e ∈ m, EntOk e) :
    Calls Try.prog 53 #[.slice ao l.length c, .slice bo m.length d] w fun en w' => en = .returned (.bool (same tRows l m)) ∧ Below w.heap.size w w' := by
  have hle := h.ent_le
  have hcap := h.cap
  have hle' := h'.ent_le
  have hcap' := h'.cap
  by_cases hlen : l.length = m.length
  · have hI : ((l.length : Int) != (m.length : Int)) = false := by simp [hlen]
    have hN : (l.length != m.length) = false := by simp [hlen]
    replace hlen : Hid _ := hlen
    go_enter Try.func53, Try.ntmps53
    go_wp2
    go_loopw [13] (fun i wr => ∃ n : Nat, n ≤ l.length ∧ i = .int .i64 n ∧ Below w.heap.size w wr ∧ l.take n = m.take n) (fun i _ => l.length - (intOf i).toNat)
    case atStart => exact ⟨0, Nat.zero_le _, rfl, Below.refl _ _, rfl⟩
    case round =>
      obtain ⟨n, hn, rfl, hb, hc⟩ := hrel
      by_cases hlt : n < l.length
      · have hlt' : n < m.length := by have := hlen.out; omega
        cases ao with
        | none => have := h.nil rfl; omega
        | some ad =>
        cases bo with
        | none => have := h'.nil rfl; omega
        | some bd =>
          have hx := fun W (hW : Below wr.heap.size wr W) => ent_at (h.later (hb.trans (hW.mono hb.size))) n hlt
          have hy := fun W (hW : Below wr.heap.size wr W) => ent_at (h'.later (hb.trans (hW.mono hb.size))) n hlt'
          have hxo := hl l[n] (List.getElem_mem hlt)
          have hyo := hm m[n] (List.getElem_mem hlt')
          have hnext : Hid _ := same_take l m n hlt hlt'
          have hno : Hid (l[n] ≠ m[n] → same tRows l m = false) := fun hne => same_not (fun e => hne (by subst e; rfl))
          have hltI : (n : Int) < (l.length : Int) := by omega
          have hltJ : (n : Int) < (m.length : Int) := by omega
          replace hc : Hid _ := hc
          generalize l[n] = x at *
          generalize m[n] = y at *
          have heq := fun W => neqv_ent x y hxo hyo W
          have hbA : Below wr.heap.size wr wr.drew := (Below.refl _ _).drew
          go_wp2
          refine wp_region_plan (fun W => Below wr.heap.size wr W) (Plan.of [(0, true), (1, true), (2, true), (3, true), (4, true), (5, true), (6, true), (7, true), (8, true)] .done) (by kernel_rfl) (by kernel_rfl) (by kernel_rfl) (by kernel_rfl) hbA ?_
          iterate 3
            first
              | (refine plan_pass _ rfl (by rfl) ?_)
              | (refine plan_take _ _ rfl (.inl ⟨by rfl, fun W hS => by clear hS; go_simp; try with_reducible rfl⟩) ?_)
            try simp only [Act.put, List.setIfInBounds_toArray, List.set_cons_zero, List.set_cons_succ]
          refine plan_take _ _ rfl (.inl ⟨by rfl, fun W hW => run_load_any 37 _ rfl _ rfl (entL x) _ (hx W hW) Try.underlying37 rfl (ent_size x)⟩) ?_
          try simp only [Act.put, List.setIfInBounds_toArray, List.set_cons_zero, List.set_cons_succ]
          iterate 3
            first
              | (refine plan_pass _ rfl (by rfl) ?_)
              | (refine plan_take _ _ rfl (.inl ⟨by rfl, fun W hS => by clear hS; go_simp; try with_reducible rfl⟩) ?_)
            try simp only [Act.put, List.setIfInBounds_toArray, List.set_cons_zero, List.set_cons_succ]
          refine plan_take _ _ rfl (.inl ⟨by rfl, fun W hW => run_load_any 37 _ rfl _ rfl (entL y) _ (hy W hW) Try.underlying37 rfl (ent_size y)⟩) ?_
          try simp only [Act.put, List.setIfInBounds_toArray, List.set_cons_zero, List.set_cons_succ]
          refine plan_take _ _ rfl (yields_bin_agg (by rfl) .neq 37 _ _ _ rfl (entC x) (entC y) rfl rfl (.bool (!same tEnt x y)) guard_ent heq) ?_
          try simp only [Act.put, List.setIfInBounds_toArray, List.set_cons_zero, List.set_cons_succ]
          refine plan_done ?_
          have hb2 := hb.trans (hbA.mono hb.size)
          clear hx hy heq hbA
          cases hs : same tEnt x y with
          | false =>
            have hF : Hid _ := hno.out (fun e => by rw [(same_is x y).2 e] at hs; cases hs)
            go_wp2
            go_ret
            exact ⟨by rw [hF.out]; rfl, hb2⟩
          | true =>
            have hF : Hid _ := hnext.out.2 ⟨hc.out, (same_is x y).1 hs⟩
            go_wp2
            go_roundw
            case rel => exact ⟨n + 1, by omega, by go_num, hb2, hF.out⟩
            case measure => simp [intOf]; omega
      · have e5 : n = l.length := by omega
        subst e5
        have hF : Hid (same tRows l m = true) := (same_is l m).2 (by
          have h2 := hlen.out
          rw [List.take_length, h2, List.take_length] at hc
          exact hc)
        clear hc
        go_wp2
        go_ret
        exact ⟨by rw [hF.out]; rfl, hb⟩
  · have hI : ((l.length : Int) != (m.length : Int)) = true := by rw [bne_iff_ne]; omega
    have hN : (l.length != m.length) = true := by rw [bne_iff_ne]; exact hlen
    have hF : Hid (same tRows l m = false) := same_not (fun e => hlen (by rw [e]))
    go_enter Try.func53, Try.ntmps53
    go_wp2
    go_ret
    exact ⟨by rw [hF.out]; rfl, Below.refl _ _⟩

theorem same_parts (a b : StV) : same tSt a b = (decide (a.started = b.started) && (same tBase a.base b.base && (same tEnt a.tail b.tail && same tRows a.log b.log))) := by
  rw [Bool.eq_iff_iff, same_is]
  simp only [Bool.and_eq_true, same_is, decide_eq_true_iff]
  obtain ⟨a1, a2, a3, a4⟩ := a
  obtain ⟨b1, b2, b3, b4⟩ := b
  simp

set_option maxHeartbeats 4000000 in
theorem same_any (s t : StV) (ao bo : Option Addr) (c d : Nat) (w : World) (hs : StOk s) (ht : StOk t) (h : Sl w ao c 8 (entR s.log)) (h' : Sl w bo d 8 (entR t.log)) :
    Calls Try.prog 20 #[.agg (stC s ao c), .agg (stC t bo d)] w fun en w' => en = .returned (.bool (same tSt s t)) ∧ Below w.heap.size w w' := by
  obtain ⟨w1, hw1, hX, hY, hb⟩ := two_vars w 40 40 (stC s ao c) (stC t bo d)
  have hM : Hid _ := same_parts s t
  have x0 := hX.st_started
  have y0 := hY.st_started
  have xb := hX.st_base
  have yb := hY.st_base
  have xt := hX.st_tail
  have yt := hY.st_tail
  have xl := hX.st_log
  have yl := hY.st_log
  have e1 := fun W => eqv_base s.base t.base hs.base ht.base W
  have e2 := fun W => eqv_ent s.tail t.tail hs.tail ht.tail W
  have d1 := hs.started
  have d2 := ht.started
  by_cases h1 : s.started = t.started
  · have i1 : ((s.started : Int) == (t.started : Int)) = true := by rw [beq_iff_eq]; omega
    have n1 : (s.started == t.started) = true := by rw [beq_iff_eq]; omega
    rw [decide_eq_true h1] at hM
    replace h1 : Hid _ := h1
    cases h2 : same tBase s.base t.base with
    | false =>
      rw [h2] at hM e1
      go_enter Try.func20, Try.ntmps20
      go_wp2_with (first
        | (refine wpList_load_mid' (by rfl) 33 _ rfl w.heap.size 1 rfl (baseL s.base) _ ?hg Try.underlying33 rfl (base_size _) ?_; (case hg => exact xb))
        | (refine wpList_load_mid' (by rfl) 33 _ rfl (w.heap.size + 1) 1 rfl (baseL t.base) _ ?hg Try.underlying33 rfl (base_size _) ?_; (case hg => exact yb))
        | (refine wpList_bin_agg (by rfl) .eql 33 _ _ _ rfl (baseC s.base) (baseC t.base) rfl rfl (.bool false) guard_base ?hg ?_; (case hg => exact e1 _)))
      go_ret
      exact ⟨by rw [hM.out]; rfl, hb⟩
    | true =>
      rw [h2] at hM e1
      cases h3 : same tEnt s.tail t.tail with
      | false =>
        rw [h3] at hM e2
        go_enter Try.func20, Try.ntmps20
        go_wp2_with (first
          | (refine wpList_load_mid' (by rfl) 33 _ rfl w.heap.size 1 rfl (baseL s.base) _ ?hg Try.underlying33 rfl (base_size _) ?_; (case hg => exact xb))
          | (refine wpList_load_mid' (by rfl) 33 _ rfl (w.heap.size + 1) 1 rfl (baseL t.base) _ ?hg Try.underlying33 rfl (base_size _) ?_; (case hg => exact yb))
          | (refine wpList_load_mid' (by rfl) 37 _ rfl w.heap.size 40 rfl (entL s.tail) _ ?hg Try.underlying37 rfl (ent_size _) ?_; (case hg => exact xt))
          | (refine wpList_load_mid' (by rfl) 37 _ rfl (w.heap.size + 1) 40 rfl (entL t.tail) _ ?hg Try.underlying37 rfl (ent_size _) ?_; (case hg => exact yt))
          | (refine wpList_bin_agg (by rfl) .eql 33 _ _ _ rfl (baseC s.base) (baseC t.base) rfl rfl (.bool true) guard_base ?hg ?_; (case hg => exact e1 _))
          | (refine wpList_bin_agg (by rfl) .eql 37 _ _ _ rfl (entC s.tail) (entC t.tail) rfl rfl (.bool false) guard_ent ?hg ?_; (case hg => exact e2 _)))
        go_ret
        exact ⟨by rw [hM.out]; rfl, hb⟩
      | true =>
        rw [h3] at hM e2
        go_enter Try.func20, Try.ntmps20
        go_wp2_with (first
          | (refine wpList_load_mid' (by rfl) 33 _ rfl w.heap.size 1 rfl (baseL s.base) _ ?hg Try.underlying33 rfl (base_size _) ?_; (case hg => exact xb))
          | (refine wpList_load_mid' (by rfl) 33 _ rfl (w.heap.size + 1) 1 rfl (baseL t.base) _ ?hg Try.underlying33 rfl (base_size _) ?_; (case hg => exact yb))
          | (refine wpList_load_mid' (by rfl) 37 _ rfl w.heap.size 40 rfl (entL s.tail) _ ?hg Try.underlying37 rfl (ent_size _) ?_; (case hg => exact xt))
          | (refine wpList_load_mid' (by rfl) 37 _ rfl (w.heap.size + 1) 40 rfl (entL t.tail) _ ?hg Try.underlying37 rfl (ent_size _) ?_; (case hg => exact yt))
          | (refine wpList_bin_agg (by rfl) .eql 33 _ _ _ rfl (baseC s.base) (baseC t.base) rfl rfl (.bool true) guard_base ?hg ?_; (case hg => exact e1 _))
          | (refine wpList_bin_agg (by rfl) .eql 37 _ _ _ rfl (entC s.tail) (entC t.tail) rfl rfl (.bool true) guard_ent ?hg ?_; (case hg => exact e2 _)))
        refine (equal_any ao bo c d s.log t.log _ (h.later hb) (h'.later hb) hs.log ht.log).mono ?_
        rintro en w2 ⟨rfl, hq⟩
        replace hb := hb.trans (hq.mono hb.size)
        go_wp2
        go_ret
        exact ⟨by rw [hM.out]; rfl, hb⟩
  · have i1 : ((s.started : Int) == (t.started : Int)) = false := by rw [beq_eq_false_iff_ne]; omega
    have n1 : (s.started == t.started) = false := by rw [beq_eq_false_iff_ne]; omega
    rw [decide_eq_false h1] at hM
    go_enter Try.func20, Try.ntmps20
    go_wp2
    go_ret
    exact ⟨by rw [hM.out]; rfl, hb⟩
end Go.Proofs.Ytphlfepgaghhhaa
