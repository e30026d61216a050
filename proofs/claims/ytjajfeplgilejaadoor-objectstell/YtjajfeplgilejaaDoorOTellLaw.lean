/- ObjectsTell, walked. -/
import Derived.Test.YtjajfeplgilejaaDoorObjSteps
import Derived.Test.YtjajfeplgilejaaDoorBigAny
import Derived.Test.YtjajfeplgilejaaDoorRefRead
namespace Go.Proofs.YtjajfeplgilejaaDoor
set_option linter.unusedSimpArgs false
set_option linter.unusedVariables false
set_option maxRecDepth 100000
open Go.RowKit

theorem read_ok {b : BaseV} (h : BaseOk b) (o : OpV) : (readM b o).code < 256 ∧ (readM b o).data.length ≤ 9223372036854775807 := by
  unfold readM
  split
  · split
    · refine ⟨by show 0 < 256; decide, ?_⟩
      have hx := objOf_ok h o
      show ((objOf b o).data ++ attrS 0 (objOf b o).a0 ++ attrS 1 (objOf b o).a1 ++ attrS 2 (objOf b o).a2).length ≤ _
      rw [List.length_append, List.length_append, List.length_append]
      have h0 := attrS_le 0 (objOf b o).a0
      have h1 := attrS_le 1 (objOf b o).a1
      have h2 := attrS_le 2 (objOf b o).a2
      have := hx.data
      have := hx.a0
      have := hx.a1
      have := hx.a2
      omega
    · exact ⟨by show 1 < 256; decide, by show 0 ≤ _; decide⟩
  · exact ⟨by show 3 < 256; decide, by show 0 ≤ _; decide⟩

set_option maxHeartbeats 2000000 in
theorem tell_walk (S : ObjSpec) (b : BaseV) (M : Nat) (hM : M ≤ 140737488355328) (hf : BaseFit M b) (o : OpV) (ho : OpOk o) (w : World) :
    Calls Tryd.prog 3 #[.agg (baseC b), .agg (opC o)] w fun e w' => e = .returned (.bool true) ∧ Below w.heap.size w w' := by
  have hB : Has ((w.alloc (.cells (baseC b) 33)).alloc (.cells (opC o) 35)) w.heap.size 33 (baseC b) := (Has.new _ _ _).alloc _
  have hO : Has ((w.alloc (.cells (baseC b) 33)).alloc (.cells (opC o) 35)) (w.heap.size + 1) 35 (opC o) := by
    have := Has.new (w.alloc (.cells (baseC b) 33)) 35 (opC o)
    simpa using this
  have hb : Below w.heap.size w ((w.alloc (.cells (baseC b) 33)).alloc (.cells (opC o) 35)) := ((Below.refl _ _).alloc (Nat.le_refl _) _).alloc (by simp) _
  go_enter Tryd.func3, Tryd.ntmps3
  go_wp2_with fail
  refine (oknown_any S _).mono ?_
  rintro e w1 ⟨rfl, hq⟩
  replace hB := hB.later hq
  replace hO := hO.later hq
  replace hb := hb.trans (hq.mono hb.size)
  clear hq
  go_wp2_with (first
    | (refine wpList_load_has (by rfl) 33 _ rfl (w.heap.size) rfl 33 (baseC (b)) _ Tryd.underlying33 rfl (base_size _) ?hg ?_; (case hg => first | exact hB)))
  refine (big_any b M hM hf _).mono ?_
  rintro e w2 ⟨v, rfl, hsm, hq⟩
  replace hB := hB.later hq
  replace hO := hO.later hq
  replace hb := hb.trans (hq.mono hb.size)
  clear hq
  cases v with
  | true =>
    go_wp2_with fail
    go_ret
    exact ⟨rfl, hb⟩
  | false =>
  have hok := hsm rfl
  clear hsm
  go_wp2_with (first
    | (refine wpList_load_has (by rfl) 33 _ rfl (w.heap.size) rfl 33 (baseC (b)) _ Tryd.underlying33 rfl (base_size _) ?hg ?_; (case hg => first | exact hB))
    | (refine wpList_load_has (by rfl) 35 _ rfl (w.heap.size + 1) rfl 35 (opC (o)) _ Tryd.underlying35 rfl (op_size _) ?hg ?_; (case hg => first | exact hO)))
  refine (S.do' b o _ hok ho).mono ?_
  rintro e w3 ⟨rfl, hq⟩
  replace hB := hB.later hq
  replace hO := hO.later hq
  replace hb := hb.trans (hq.mono hb.size)
  clear hq
  have hC0 := do_ok hok ho
  have hrd := fun W => refdo_any b o W hok ho
  generalize (doM b o).2 = r at *
  generalize (doM b o).1 = C at *
  obtain ⟨w4, hw4, hn4, hC, hr, hq⟩ := do_vars w3 C r
  replace hB := hB.later hq
  replace hO := hO.later hq
  replace hb := hb.trans (hq.mono hb.size)
  clear hq
  go_wp2_with (first
    | (refine wpList_alloc_has (by rfl) 33 rfl (baseC base0) base_zero ?_)
    | (refine wpList_alloc_has (by rfl) 28 rfl (resC res0) res_zero ?_; rw [alloc_size])
    | (refine wpList_store_has (by rfl) 33 _ _ rfl w3.heap.size rfl (baseC C) rfl 33 (baseC base0) (base_size _) rfl (base_one _) ?hg ?_; (case hg => exact (Has.new _ _ _).alloc _))
    | (refine wpList_store_to (by rfl) 28 _ _ rfl (w3.heap.size + 1) rfl (resC r) rfl 28 (resC res0) (res_size _) rfl (res_one _) ?hg w4 ?hW ?_; (case hg => exact hn4); (case hW => exact hw4))
    | (refine wpList_load_has (by rfl) 33 _ rfl (w.heap.size) rfl 33 (baseC (b)) _ Tryd.underlying33 rfl (base_size _) ?hg ?_; (case hg => first | exact hB))
    | (refine wpList_load_has (by rfl) 35 _ rfl (w.heap.size + 1) rfl 35 (opC (o)) _ Tryd.underlying35 rfl (op_size _) ?hg ?_; (case hg => first | exact hO)))
  refine (hrd _).mono ?_
  rintro e w5 ⟨rfl, hq⟩
  replace hB := hB.later hq
  replace hO := hO.later hq
  replace hC := hC.later hq
  replace hr := hr.later hq
  replace hb := hb.trans (hq.mono hb.size)
  clear hq hw4 hn4 hrd
  generalize w3.heap.size = gc at *
  obtain ⟨w6, hw6, hn6, hD, hs, hq⟩ := do_vars w5 C r
  replace hB := hB.later hq
  replace hO := hO.later hq
  replace hC := hC.later hq
  replace hr := hr.later hq
  replace hb := hb.trans (hq.mono hb.size)
  clear hq
  go_wp2_with (first
    | (refine wpList_alloc_has (by rfl) 33 rfl (baseC base0) base_zero ?_)
    | (refine wpList_alloc_has (by rfl) 28 rfl (resC res0) res_zero ?_; rw [alloc_size])
    | (refine wpList_store_has (by rfl) 33 _ _ rfl w5.heap.size rfl (baseC C) rfl 33 (baseC base0) (base_size _) rfl (base_one _) ?hg ?_; (case hg => exact (Has.new _ _ _).alloc _))
    | (refine wpList_store_to (by rfl) 28 _ _ rfl (w5.heap.size + 1) rfl (resC r) rfl 28 (resC res0) (res_size _) rfl (res_one _) ?hg w6 ?hW ?_; (case hg => exact hn6); (case hW => exact hw6))
    | (refine wpList_load_has (by rfl) 33 _ rfl (w.heap.size) rfl 33 (baseC (b)) _ Tryd.underlying33 rfl (base_size _) ?hg ?_; (case hg => first | exact hB))
    | (refine wpList_load_has (by rfl) 35 _ rfl (w.heap.size + 1) rfl 35 (opC (o)) _ Tryd.underlying35 rfl (op_size _) ?hg ?_; (case hg => first | exact hO)))
  refine (S.seen b o _ hok ho).mono ?_
  rintro e w7 ⟨rfl, hq⟩
  replace hB := hB.later hq
  replace hO := hO.later hq
  replace hC := hC.later hq
  replace hr := hr.later hq
  replace hD := hD.later hq
  replace hs := hs.later hq
  replace hb := hb.trans (hq.mono hb.size)
  clear hq hw6 hn6
  generalize w5.heap.size = gd at *
  have hT0 := seen_ok hok o
  have hrs := fun W => refseen_any b o W hok ho
  generalize (seenM b o).1 = t at *
  generalize (seenM b o).2 = sn at *
  obtain ⟨w8, hw8, hT, hq⟩ := res_var w7 t
  replace hB := hB.later hq
  replace hO := hO.later hq
  replace hC := hC.later hq
  replace hr := hr.later hq
  replace hD := hD.later hq
  replace hs := hs.later hq
  replace hb := hb.trans (hq.mono hb.size)
  clear hq
  go_wp2_with (first
    | (refine wpList_alloc_has (by rfl) 28 rfl (resC res0) res_zero ?_)
    | (refine wpList_store_to (by rfl) 28 _ _ rfl w7.heap.size rfl (resC t) rfl 28 (resC res0) (res_size _) rfl (res_one _) ?hg w8 ?hW ?_; (case hg => exact Has.new _ _ _); (case hW => exact hw8); clear hw8; generalize w7.heap.size = gt at *)
    | (refine wpList_load_has (by rfl) 33 _ rfl (w.heap.size) rfl 33 (baseC (b)) _ Tryd.underlying33 rfl (base_size _) ?hg ?_; (case hg => first | exact hB))
    | (refine wpList_load_has (by rfl) 35 _ rfl (w.heap.size + 1) rfl 35 (opC (o)) _ Tryd.underlying35 rfl (op_size _) ?hg ?_; (case hg => first | exact hO)))
  refine (hrs _).mono ?_
  rintro e w9 ⟨rfl, hq⟩
  replace hB := hB.later hq
  replace hO := hO.later hq
  replace hC := hC.later hq
  replace hr := hr.later hq
  replace hD := hD.later hq
  replace hs := hs.later hq
  replace hT := hT.later hq
  replace hb := hb.trans (hq.mono hb.size)
  clear hq hrs
  obtain ⟨wa, hwa, hU, hq⟩ := res_var w9 t
  replace hB := hB.later hq
  replace hO := hO.later hq
  replace hC := hC.later hq
  replace hr := hr.later hq
  replace hD := hD.later hq
  replace hs := hs.later hq
  replace hT := hT.later hq
  replace hb := hb.trans (hq.mono hb.size)
  clear hq
  go_wp2_with (first
    | (refine wpList_alloc_has (by rfl) 28 rfl (resC res0) res_zero ?_)
    | (refine wpList_store_to (by rfl) 28 _ _ rfl w9.heap.size rfl (resC t) rfl 28 (resC res0) (res_size _) rfl (res_one _) ?hg wa ?hW ?_; (case hg => exact Has.new _ _ _); (case hW => exact hwa); clear hwa; generalize w9.heap.size = gu at *))
  have hW0 := read_ok hok o
  have c1 := fun W => S.isop o W ho
  have c2 := fun W => refisop_any o W ho
  have c3 := fun W => S.writes o W ho
  have c4 := fun W => refwrites_any o W ho
  have c5 := fun W => S.read b o W hok ho
  have c6 := fun W => refread_any b o W hok ho
  generalize isOpM o = m1 at *
  generalize writesM o = m2 at *
  generalize readM b o = rr at *
  have e1 := eq_base C hC0.1
  have e2 := eq_res r hC0.2.1 hC0.2.2
  have e3 := eq_res t hT0.1 hT0.2
  have e4 := eq_res rr hW0.1 hW0.2
  have hbA : Below wa.heap.size wa wa.drew := (Below.refl _ _).drew
  refine wp_region_plan (fun W => Below wa.heap.size wa W) (Plan.of [(0, true), (2, true), (1, false), (3, false), (4, true), (5, true), (6, true), (8, true), (7, false), (9, false), (10, true), (11, true), (12, true), (13, true), (14, true), (15, true), (16, true), (17, true), (18, true), (19, true), (20, true), (21, true), (22, true), (23, true), (24, true), (25, true), (26, true), (27, true), (28, true), (29, true), (30, true), (31, true), (32, true), (33, true), (34, true), (36, true), (37, true), (35, false), (38, false), (39, true), (40, true), (41, true)] .done) (by kernel_rfl) (by kernel_rfl) (by kernel_rfl) (by kernel_rfl) hbA ?_
  refine plan_take _ _ rfl (yields_load_has (by rfl) 35 _ rfl (w.heap.size + 1) rfl 35 (opC (o)) _ Tryd.underlying35 rfl (op_size _) (fun W h => hO.later h)) ?_
  try simp only [Act.put, List.setIfInBounds_toArray, List.set_cons_zero, List.set_cons_succ]
  refine plan_take _ _ rfl (yields_load_has (by rfl) 35 _ rfl (w.heap.size + 1) rfl 35 (opC (o)) _ Tryd.underlying35 rfl (op_size _) (fun W h => hO.later h)) ?_
  try simp only [Act.put, List.setIfInBounds_toArray, List.set_cons_zero, List.set_cons_succ]
  refine plan_run _ rfl (fun K hK => ?_)
  go_simp
  refine (c1 _).mono ?_
  rintro e wb ⟨rfl, hq⟩
  have hbB : Below wa.heap.size wa wb := hbA.trans (hq.mono hbA.size)
  refine hK.out _ _ hbB ?_
  clear hK K hq
  try simp only [Act.put, List.setIfInBounds_toArray, List.set_cons_zero, List.set_cons_succ]
  refine plan_run _ rfl (fun K hK => ?_)
  go_simp
  refine (c2 _).mono ?_
  rintro e wc ⟨rfl, hq⟩
  have hbC : Below wa.heap.size wa wc := hbB.trans (hq.mono hbB.size)
  refine hK.out _ _ hbC ?_
  clear hK K hq
  try simp only [Act.put, List.setIfInBounds_toArray, List.set_cons_zero, List.set_cons_succ]
  refine plan_take _ (.bool true) rfl (.inl ⟨by rfl, fun W hS => by clear hS; go_simp; try with_reducible rfl⟩) ?_
  try simp only [Act.put, List.setIfInBounds_toArray, List.set_cons_zero, List.set_cons_succ]
  iterate 1
    first
      | (refine plan_pass _ rfl (by rfl) ?_)
      | (refine plan_take _ _ rfl (.inl ⟨by rfl, fun W hS => by clear hS; go_simp; try with_reducible rfl⟩) ?_)
    try simp only [Act.put, List.setIfInBounds_toArray, List.set_cons_zero, List.set_cons_succ]
  refine plan_take _ _ rfl (yields_load_has (by rfl) 35 _ rfl (w.heap.size + 1) rfl 35 (opC (o)) _ Tryd.underlying35 rfl (op_size _) (fun W h => hO.later h)) ?_
  try simp only [Act.put, List.setIfInBounds_toArray, List.set_cons_zero, List.set_cons_succ]
  refine plan_take _ _ rfl (yields_load_has (by rfl) 35 _ rfl (w.heap.size + 1) rfl 35 (opC (o)) _ Tryd.underlying35 rfl (op_size _) (fun W h => hO.later h)) ?_
  try simp only [Act.put, List.setIfInBounds_toArray, List.set_cons_zero, List.set_cons_succ]
  refine plan_run _ rfl (fun K hK => ?_)
  go_simp
  refine (c3 _).mono ?_
  rintro e wd ⟨rfl, hq⟩
  have hbD : Below wa.heap.size wa wd := hbC.trans (hq.mono hbC.size)
  refine hK.out _ _ hbD ?_
  clear hK K hq
  try simp only [Act.put, List.setIfInBounds_toArray, List.set_cons_zero, List.set_cons_succ]
  refine plan_run _ rfl (fun K hK => ?_)
  go_simp
  refine (c4 _).mono ?_
  rintro e we ⟨rfl, hq⟩
  have hbE : Below wa.heap.size wa we := hbD.trans (hq.mono hbD.size)
  refine hK.out _ _ hbE ?_
  clear hK K hq
  try simp only [Act.put, List.setIfInBounds_toArray, List.set_cons_zero, List.set_cons_succ]
  refine plan_take _ (.bool true) rfl (.inl ⟨by rfl, fun W hS => by clear hS; go_simp; try with_reducible rfl⟩) ?_
  try simp only [Act.put, List.setIfInBounds_toArray, List.set_cons_zero, List.set_cons_succ]
  iterate 2
    first
      | (refine plan_pass _ rfl (by rfl) ?_)
      | (refine plan_take _ _ rfl (.inl ⟨by rfl, fun W hS => by clear hS; go_simp; try with_reducible rfl⟩) ?_)
    try simp only [Act.put, List.setIfInBounds_toArray, List.set_cons_zero, List.set_cons_succ]
  refine plan_take _ _ rfl (yields_load_has (by rfl) 33 _ rfl (gc) rfl 33 (baseC (C)) _ Tryd.underlying33 rfl (base_size _) (fun W h => hC.later h)) ?_
  try simp only [Act.put, List.setIfInBounds_toArray, List.set_cons_zero, List.set_cons_succ]
  refine plan_take _ _ rfl (yields_load_has (by rfl) 33 _ rfl (gd) rfl 33 (baseC (C)) _ Tryd.underlying33 rfl (base_size _) (fun W h => hD.later h)) ?_
  try simp only [Act.put, List.setIfInBounds_toArray, List.set_cons_zero, List.set_cons_succ]
  refine plan_take _ _ rfl (yields_bin_agg (by rfl) .eql 33 _ _ _ rfl (baseC C) (baseC C) rfl rfl (.bool true) guard_base e1) ?_
  try simp only [Act.put, List.setIfInBounds_toArray, List.set_cons_zero, List.set_cons_succ]
  iterate 2
    first
      | (refine plan_pass _ rfl (by rfl) ?_)
      | (refine plan_take _ _ rfl (.inl ⟨by rfl, fun W hS => by clear hS; go_simp; try with_reducible rfl⟩) ?_)
    try simp only [Act.put, List.setIfInBounds_toArray, List.set_cons_zero, List.set_cons_succ]
  refine plan_take _ _ rfl (yields_load_has (by rfl) 28 _ rfl (gc + 1) rfl 28 (resC (r)) _ Tryd.underlying28 rfl (res_size _) (fun W h => hr.later h)) ?_
  try simp only [Act.put, List.setIfInBounds_toArray, List.set_cons_zero, List.set_cons_succ]
  refine plan_take _ _ rfl (yields_load_has (by rfl) 28 _ rfl (gd + 1) rfl 28 (resC (r)) _ Tryd.underlying28 rfl (res_size _) (fun W h => hs.later h)) ?_
  try simp only [Act.put, List.setIfInBounds_toArray, List.set_cons_zero, List.set_cons_succ]
  refine plan_take _ _ rfl (yields_bin_agg (by rfl) .eql 28 _ _ _ rfl (resC r) (resC r) rfl rfl (.bool true) guard_res e2) ?_
  try simp only [Act.put, List.setIfInBounds_toArray, List.set_cons_zero, List.set_cons_succ]
  iterate 2
    first
      | (refine plan_pass _ rfl (by rfl) ?_)
      | (refine plan_take _ _ rfl (.inl ⟨by rfl, fun W hS => by clear hS; go_simp; try with_reducible rfl⟩) ?_)
    try simp only [Act.put, List.setIfInBounds_toArray, List.set_cons_zero, List.set_cons_succ]
  refine plan_take _ _ rfl (yields_load_has (by rfl) 28 _ rfl (gt) rfl 28 (resC (t)) _ Tryd.underlying28 rfl (res_size _) (fun W h => hT.later h)) ?_
  try simp only [Act.put, List.setIfInBounds_toArray, List.set_cons_zero, List.set_cons_succ]
  refine plan_take _ _ rfl (yields_load_has (by rfl) 28 _ rfl (gu) rfl 28 (resC (t)) _ Tryd.underlying28 rfl (res_size _) (fun W h => hU.later h)) ?_
  try simp only [Act.put, List.setIfInBounds_toArray, List.set_cons_zero, List.set_cons_succ]
  refine plan_take _ _ rfl (yields_bin_agg (by rfl) .eql 28 _ _ _ rfl (resC t) (resC t) rfl rfl (.bool true) guard_res e3) ?_
  try simp only [Act.put, List.setIfInBounds_toArray, List.set_cons_zero, List.set_cons_succ]
  iterate 4
    first
      | (refine plan_pass _ rfl (by rfl) ?_)
      | (refine plan_take _ _ rfl (.inl ⟨by rfl, fun W hS => by clear hS; go_simp; try with_reducible rfl⟩) ?_)
    try simp only [Act.put, List.setIfInBounds_toArray, List.set_cons_zero, List.set_cons_succ]
  refine plan_take _ (.bool true) rfl (.inl ⟨by rfl, fun W hS => by clear hS; go_simp; try with_reducible rfl⟩) ?_
  try simp only [Act.put, List.setIfInBounds_toArray, List.set_cons_zero, List.set_cons_succ]
  iterate 2
    first
      | (refine plan_pass _ rfl (by rfl) ?_)
      | (refine plan_take _ _ rfl (.inl ⟨by rfl, fun W hS => by clear hS; go_simp; try with_reducible rfl⟩) ?_)
    try simp only [Act.put, List.setIfInBounds_toArray, List.set_cons_zero, List.set_cons_succ]
  refine plan_take _ _ rfl (yields_load_has (by rfl) 33 _ rfl (w.heap.size) rfl 33 (baseC (b)) _ Tryd.underlying33 rfl (base_size _) (fun W h => hB.later h)) ?_
  try simp only [Act.put, List.setIfInBounds_toArray, List.set_cons_zero, List.set_cons_succ]
  refine plan_take _ _ rfl (yields_load_has (by rfl) 35 _ rfl (w.heap.size + 1) rfl 35 (opC (o)) _ Tryd.underlying35 rfl (op_size _) (fun W h => hO.later h)) ?_
  try simp only [Act.put, List.setIfInBounds_toArray, List.set_cons_zero, List.set_cons_succ]
  refine plan_take _ _ rfl (yields_load_has (by rfl) 33 _ rfl (w.heap.size) rfl 33 (baseC (b)) _ Tryd.underlying33 rfl (base_size _) (fun W h => hB.later h)) ?_
  try simp only [Act.put, List.setIfInBounds_toArray, List.set_cons_zero, List.set_cons_succ]
  refine plan_take _ _ rfl (yields_load_has (by rfl) 35 _ rfl (w.heap.size + 1) rfl 35 (opC (o)) _ Tryd.underlying35 rfl (op_size _) (fun W h => hO.later h)) ?_
  try simp only [Act.put, List.setIfInBounds_toArray, List.set_cons_zero, List.set_cons_succ]
  refine plan_run _ rfl (fun K hK => ?_)
  go_simp
  refine (c5 _).mono ?_
  rintro e wf ⟨rfl, hq⟩
  have hbF : Below wa.heap.size wa wf := hbE.trans (hq.mono hbE.size)
  refine hK.out _ _ hbF ?_
  clear hK K hq
  try simp only [Act.put, List.setIfInBounds_toArray, List.set_cons_zero, List.set_cons_succ]
  refine plan_run _ rfl (fun K hK => ?_)
  go_simp
  refine (c6 _).mono ?_
  rintro e wg ⟨rfl, hq⟩
  have hbG : Below wa.heap.size wa wg := hbF.trans (hq.mono hbF.size)
  refine hK.out _ _ hbG ?_
  clear hK K hq
  try simp only [Act.put, List.setIfInBounds_toArray, List.set_cons_zero, List.set_cons_succ]
  refine plan_take _ _ rfl (yields_bin_agg (by rfl) .eql 28 _ _ _ rfl (resC rr) (resC rr) rfl rfl (.bool true) guard_res e4) ?_
  try simp only [Act.put, List.setIfInBounds_toArray, List.set_cons_zero, List.set_cons_succ]
  iterate 2
    first
      | (refine plan_pass _ rfl (by rfl) ?_)
      | (refine plan_take _ _ rfl (.inl ⟨by rfl, fun W hS => by clear hS; go_simp; try with_reducible rfl⟩) ?_)
    try simp only [Act.put, List.setIfInBounds_toArray, List.set_cons_zero, List.set_cons_succ]
  refine plan_done ?_
  go_wp2_with fail
  go_ret
  exact ⟨rfl, hb.trans (hbG.mono hb.size)⟩
end Go.Proofs.YtjajfeplgilejaaDoor
