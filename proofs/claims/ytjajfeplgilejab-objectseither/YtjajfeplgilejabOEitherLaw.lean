/- ObjectsEither, walked. -/
import Derived.Test.YtjajfeplgilejabSliceTwo
namespace Go.Proofs.Ytjajfeplgilejab
set_option linter.unusedSimpArgs false
set_option linter.unusedVariables false
set_option maxRecDepth 100000
open Go.RowKit

theorem addr_zero (d : Addr) : d.add 0 = d := by cases d; simp [Addr.add]

set_option maxHeartbeats 1000000 in
theorem either_walk (S : ObjSpec) (ao : Option Addr) (c : Nat) (l : List OpV) (a b : OpV) (w : World) (h : Sl w ao c 6 (opR l)) (hl : ∀ x ∈ l, OpOk x) (hao : OpOk a) (hbo : OpOk b) :
    Calls Try.prog 4 #[.slice ao l.length c, .agg (opC a), .agg (opC b)] w fun e w' => e = .returned (.bool true) ∧ Below w.heap.size w w' := by
  have hle := h.le
  have hol : (opR l).length = l.length := by unfold opR; rw [List.length_map]
  rw [hol] at hle
  have hcap := h.cap
  have hA : Has ((w.alloc (.cells (opC a) 26)).alloc (.cells (opC b) 26)) w.heap.size 26 (opC a) := (Has.new _ _ _).alloc _
  have hB : Has ((w.alloc (.cells (opC a) 26)).alloc (.cells (opC b) 26)) (w.heap.size + 1) 26 (opC b) := by
    have := Has.new (w.alloc (.cells (opC a) 26)) 26 (opC b)
    simpa using this
  have hb : Below w.heap.size w ((w.alloc (.cells (opC a) 26)).alloc (.cells (opC b) 26)) := ((Below.refl _ _).alloc (Nat.le_refl _) _).alloc (by simp) _
  go_enter Try.func4, Try.ntmps4
  go_wp2_with fail
  refine (oknown_any S _).mono ?_
  rintro e w1 ⟨rfl, hq⟩
  replace hA := hA.later hq
  replace hB := hB.later hq
  replace hb := hb.trans (hq.mono hb.size)
  clear hq
  by_cases hlong : 20 < l.length
  · have hI : (20 : Int) < (l.length : Int) := by omega
    have hdec : decide ((20 : Int) < (l.length : Int)) = true := decide_eq_true hI
    clear hlong
    go_wp2_with fail
    go_ret
    exact ⟨rfl, hb⟩
  have hI : ¬ ((20 : Int) < (l.length : Int)) := by omega
  have hI2 : (l.length : Int) ≤ 20 := by omega
  have hdec : decide ((20 : Int) < (l.length : Int)) = false := decide_eq_false hI
  go_wp2_with (first
    | ((try rw [hdec]); refine wpList_load_has (by rfl) 26 _ rfl w.heap.size rfl 26 (opC a) _ Try.underlying26 rfl (op_size _) ?hg ?_; (case hg => exact hA)))
  refine (S.writes a _ hao).mono ?_
  rintro e w2 ⟨rfl, hq⟩
  replace hA := hA.later hq
  replace hB := hB.later hq
  replace hb := hb.trans (hq.mono hb.size)
  clear hq
  cases hwa : writesM a with
  | false =>
    go_wp2_with fail
    go_ret
    exact ⟨rfl, hb⟩
  | true =>
  go_wp2_with (first
    | (refine wpList_load_has (by rfl) 26 _ rfl (w.heap.size + 1) rfl 26 (opC b) _ Try.underlying26 rfl (op_size _) ?hg ?_; (case hg => exact hB)))
  refine (S.writes b _ hbo).mono ?_
  rintro e w3 ⟨rfl, hq⟩
  replace hA := hA.later hq
  replace hB := hB.later hq
  replace hb := hb.trans (hq.mono hb.size)
  clear hq
  cases hwb : writesM b with
  | false =>
    go_wp2_with fail
    go_ret
    exact ⟨rfl, hb⟩
  | true =>
  have a0 := (hA.cell 0).trans (show (opC a)[0]? = some (.int .u8 (a.client : Int)) from rfl)
  have a3 := (hA.cell 3).trans (show (opC a)[3]? = some (.int .u8 (a.obj : Int)) from rfl)
  have b0 := (hB.cell 0).trans (show (opC b)[0]? = some (.int .u8 (b.client : Int)) from rfl)
  have b3 := (hB.cell 3).trans (show (opC b)[3]? = some (.int .u8 (b.obj : Int)) from rfl)
  by_cases hcl : a.client = b.client
  · rw [hcl] at a0
    go_wp2_with fail
    go_ret
    exact ⟨rfl, hb⟩
  have hclI : ((a.client : Int) == (b.client : Int)) = false := by rw [beq_eq_false_iff_ne]; omega
  have hclP : ¬ ((a.client : Int) = (b.client : Int)) := by omega
  by_cases hob : a.obj = b.obj
  · rw [hob] at a3
    go_wp2_with fail
    go_ret
    exact ⟨rfl, hb⟩
  have hobI : ((a.obj : Int) == (b.obj : Int)) = false := by rw [beq_eq_false_iff_ne]; omega
  have hobP : ¬ ((a.obj : Int) = (b.obj : Int)) := by omega
  go_wp2_with (first
    | (refine wpList_build_has (by rfl) 37 #[] rfl (baseC base0) (by simpa using base_built) ?_))
  refine (S.all base0 ao c l _ base0_ok (h.later hb) hl (by omega)).mono ?_
  rintro e w4 ⟨ro, rc, rfl, _, hq⟩
  replace hA := hA.later hq
  replace hB := hB.later hq
  replace hb := hb.trans (hq.mono hb.size)
  clear hq a0 a3 b0 b3
  have hS0 := all_ok base0_ok l hl
  generalize (allM base0 l).1 = X at *
  obtain ⟨w5, hw5, hX, hq⟩ := base_var w4 X
  replace hA := hA.later hq
  replace hB := hB.later hq
  replace hb := hb.trans (hq.mono hb.size)
  clear hq
  have hab := slice_two a b w5
  have hsab := slice_sl [a, b] (by show 2 ≤ 1000; decide) w5
  have hbab : Below w5.heap.size w5 (w5.alloc (.cells (opsC [a, b]) 26)) := (Below.refl _ _).alloc (Nat.le_refl _) _
  obtain ⟨w6, hw6⟩ : ∃ W, w5.alloc (.cells (opsC [a, b]) 26) = W := ⟨_, rfl⟩
  rw [hw6] at hab hsab hbab
  have hX5 := hX
  have hA5 := hA
  have hB5 := hB
  replace hA := hA.later hbab
  replace hB := hB.later hbab
  replace hX := hX.later hbab
  replace hb := hb.trans (hbab.mono hb.size)
  have hcall : Calls Try.prog 8 #[.agg (baseC X), .slice (some ⟨w5.heap.size, 0, none⟩) 2 2] w6 fun e w' => ∃ ro rc, e = .returned (.tuple #[.agg (baseC (allM X [a, b]).1), .slice ro 2 rc]) ∧ Sl w' ro rc 2 (resR (allM X [a, b]).2) ∧ Below w6.heap.size w6 w' :=
    S.all X _ 2 [a, b] _ hS0 hsab (fun x hx => by rcases List.mem_cons.1 hx with rfl | hx; exact hao; rw [List.mem_singleton.1 hx]; exact hbo) (by show 2 ≤ 1000; decide)
  go_wp2_with (first
    | (refine wpList_alloc_has (by rfl) 37 rfl (baseC base0) base_zero ?_)
    | (refine wpList_store_to (by rfl) 37 _ _ rfl w4.heap.size rfl (baseC X) rfl 37 (baseC base0) (base_size _) rfl (base_one _) ?hg w5 ?hW ?_; (case hg => exact Has.new _ _ _); (case hW => exact hw5); clear hw5; generalize w4.heap.size = gx at *)
    | (refine wpList_load_has (by rfl) 37 _ rfl gx rfl 37 (baseC X) _ Try.underlying37 rfl (base_size _) ?hg ?_; (case hg => exact hX5))
    | (refine wpList_load_has (by rfl) 26 _ rfl (w.heap.size) rfl 26 (opC (a)) _ Try.underlying26 rfl (op_size _) ?hg ?_; (case hg => first | exact hA5))
    | (refine wpList_load_has (by rfl) 26 _ rfl (w.heap.size + 1) rfl 26 (opC (b)) _ Try.underlying26 rfl (op_size _) ?hg ?_; (case hg => first | exact hB5))
    | (refine wpList_slice_two (by rfl) 41 _ _ rfl (.agg (opC a)) (.agg (opC b)) rfl rfl (.slice (some ⟨w5.heap.size, 0, none⟩) 2 2) w6 ?hg ?_; (case hg => exact hab)))
  refine hcall.mono ?_
  rintro e w7 ⟨r1, c1, rfl, hR1, hq⟩
  replace hA := hA.later hq
  replace hB := hB.later hq
  replace hX := hX.later hq
  replace hb := hb.trans (hq.mono hb.size)
  clear hq hX5 hA5 hB5 hab hsab hbab hw6 hcall
  have hY0 := (all_ok hS0 [a, b] (fun x hx => by rcases List.mem_cons.1 hx with rfl | hx; exact hao; rw [List.mem_singleton.1 hx]; exact hbo))
  have hd1 := do_ok hS0 hao
  have hd2 := do_ok hd1.1 hbo
  obtain ⟨he1, he2, he3⟩ := do_either X (a := a) (b := b) (by have := writes_client hwa; have := writes_client hwb; omega) hob
  have hm1 := all_two X a b
  have hm2 := all_two X b a
  rw [← he1, he3] at hm2
  rw [he2] at hm1 hd2
  rw [hm1] at hY0 hR1 ⊢
  generalize (doM X a).2 = ra at *
  generalize (doM X b).2 = rb at *
  generalize (doM (doM X a).1 b).1 = Y at *
  clear he1 he2 he3
  obtain ⟨w8, hw8, hY, hq⟩ := base_var w7 Y
  replace hA := hA.later hq
  replace hB := hB.later hq
  replace hX := hX.later hq
  replace hR1 := hR1.later hq
  replace hb := hb.trans (hq.mono hb.size)
  clear hq
  have hab := slice_two b a w8
  have hsab := slice_sl [b, a] (by show 2 ≤ 1000; decide) w8
  have hbab : Below w8.heap.size w8 (w8.alloc (.cells (opsC [b, a]) 26)) := (Below.refl _ _).alloc (Nat.le_refl _) _
  obtain ⟨w9, hw9⟩ : ∃ W, w8.alloc (.cells (opsC [b, a]) 26) = W := ⟨_, rfl⟩
  rw [hw9] at hab hsab hbab
  have hX5 := hX
  have hA5 := hA
  have hB5 := hB
  replace hY := hY.later hbab
  replace hR1 := hR1.later hbab
  replace hb := hb.trans (hbab.mono hb.size)
  have hcall : Calls Try.prog 8 #[.agg (baseC X), .slice (some ⟨w8.heap.size, 0, none⟩) 2 2] w9 fun e w' => ∃ ro rc, e = .returned (.tuple #[.agg (baseC (allM X [b, a]).1), .slice ro 2 rc]) ∧ Sl w' ro rc 2 (resR (allM X [b, a]).2) ∧ Below w9.heap.size w9 w' :=
    S.all X _ 2 [b, a] _ hS0 hsab (fun x hx => by rcases List.mem_cons.1 hx with rfl | hx; exact hbo; rw [List.mem_singleton.1 hx]; exact hao) (by show 2 ≤ 1000; decide)
  rw [hm2] at hcall
  go_wp2_with (first
    | (refine wpList_alloc_has (by rfl) 37 rfl (baseC base0) base_zero ?_)
    | (refine wpList_store_to (by rfl) 37 _ _ rfl w7.heap.size rfl (baseC Y) rfl 37 (baseC base0) (base_size _) rfl (base_one _) ?hg w8 ?hW ?_; (case hg => exact Has.new _ _ _); (case hW => exact hw8); clear hw8; generalize w7.heap.size = gy at *)
    | (refine wpList_load_has (by rfl) 37 _ rfl (gx) rfl 37 (baseC (X)) _ Try.underlying37 rfl (base_size _) ?hg ?_; (case hg => first | exact hX5))
    | (refine wpList_load_has (by rfl) 26 _ rfl (w.heap.size) rfl 26 (opC (a)) _ Try.underlying26 rfl (op_size _) ?hg ?_; (case hg => first | exact hA5))
    | (refine wpList_load_has (by rfl) 26 _ rfl (w.heap.size + 1) rfl 26 (opC (b)) _ Try.underlying26 rfl (op_size _) ?hg ?_; (case hg => first | exact hB5))
    | (refine wpList_slice_two (by rfl) 41 _ _ rfl (.agg (opC b)) (.agg (opC a)) rfl rfl (.slice (some ⟨w8.heap.size, 0, none⟩) 2 2) w9 ?hg ?_; (case hg => exact hab)))
  refine hcall.mono ?_
  rintro e w10 ⟨r2, c2, rfl, hR2, hq⟩
  replace hY := hY.later hq
  replace hR1 := hR1.later hq
  replace hb := hb.trans (hq.mono hb.size)
  clear hq hX5 hA5 hB5 hab hsab hbab hw9 hX hA hB hcall
  obtain ⟨w11, hw11, hZ, hq⟩ := base_var w10 Y
  replace hY := hY.later hq
  replace hR1 := hR1.later hq
  replace hR2 := hR2.later hq
  replace hb := hb.trans (hq.mono hb.size)
  clear hq
  cases r1 with
  | none =>
    have h1 := hR1.le
    have h2 := hR1.nil rfl
    rw [h2] at h1
    cases h1
  | some d1 =>
  cases r2 with
  | none =>
    have h1 := hR2.le
    have h2 := hR2.nil rfl
    rw [h2] at h1
    cases h1
  | some d2 =>
  have e1 := eq_base Y hY0
  go_wp2_with (first
    | (refine wpList_alloc_has (by rfl) 37 rfl (baseC base0) base_zero ?_)
    | (refine wpList_store_to (by rfl) 37 _ _ rfl w10.heap.size rfl (baseC Y) rfl 37 (baseC base0) (base_size _) rfl (base_one _) ?hg w11 ?hW ?_; (case hg => exact Has.new _ _ _); (case hW => exact hw11); clear hw11; generalize w10.heap.size = gz at *))
  refine wp_region_plan (fun W => Below w11.heap.size w11 W) (Plan.of [(0, true), (1, true), (2, true), (3, true), (4, true), (5, true), (6, true), (7, true), (8, true), (9, true), (10, true), (11, true), (12, true), (13, true), (14, true), (15, true), (16, true), (17, true), (18, true), (19, true), (20, true), (21, true)] .done) (by kernel_rfl) (by kernel_rfl) (by kernel_rfl) (by kernel_rfl) (Below.refl _ _).drew ?_
  refine plan_take _ _ rfl (yields_load_has (by rfl) 37 _ rfl gy rfl 37 (baseC Y) _ Try.underlying37 rfl (base_size _) (fun W h => hY.later h)) ?_
  try simp only [Act.put, List.setIfInBounds_toArray, List.set_cons_zero, List.set_cons_succ]
  refine plan_take _ _ rfl (yields_load_has (by rfl) 37 _ rfl gz rfl 37 (baseC Y) _ Try.underlying37 rfl (base_size _) (fun W h => hZ.later h)) ?_
  try simp only [Act.put, List.setIfInBounds_toArray, List.set_cons_zero, List.set_cons_succ]
  refine plan_take _ _ rfl (yields_bin_agg (by rfl) .eql 37 _ _ _ rfl (baseC Y) (baseC Y) rfl rfl (.bool true) guard_base e1) ?_
  try simp only [Act.put, List.setIfInBounds_toArray, List.set_cons_zero, List.set_cons_succ]
  have hra := hd1.2
  have hrb := hd2.2
  have e2 := eq_res ra hra.1 hra.2
  have e3 := eq_res rb hrb.1 hrb.2
  have p1 := fun W (hW : Below w11.heap.size w11 W) => res_at (hR1.later hW) 0 (by show 0 < 2; decide)
  have p2 := fun W (hW : Below w11.heap.size w11 W) => res_at (hR1.later hW) 1 (by show 1 < 2; decide)
  have p3 := fun W (hW : Below w11.heap.size w11 W) => res_at (hR2.later hW) 0 (by show 0 < 2; decide)
  have p4 := fun W (hW : Below w11.heap.size w11 W) => res_at (hR2.later hW) 1 (by show 1 < 2; decide)
  have z1 := addr_zero d1
  have z2 := addr_zero d2
  iterate 3
    first
      | (refine plan_pass _ rfl (by rfl) ?_)
      | (refine plan_take _ _ rfl (.inl ⟨by rfl, fun W hS => by clear hS; go_simp; try with_reducible rfl⟩) ?_)
    try simp only [Act.put, List.setIfInBounds_toArray, List.set_cons_zero, List.set_cons_succ]
  refine plan_take _ (.agg (resC ra)) rfl (.inl ⟨by rfl, fun W hW => run_load_any 32 _ rfl _ rfl (resL ra) _ (by first | exact p1 W hW | exact z1 ▸ p1 W hW) Try.underlying32 rfl (res_size ra)⟩) ?_
  try simp only [Act.put, List.setIfInBounds_toArray, List.set_cons_zero, List.set_cons_succ]
  iterate 2
    first
      | (refine plan_pass _ rfl (by rfl) ?_)
      | (refine plan_take _ _ rfl (.inl ⟨by rfl, fun W hS => by clear hS; go_simp; try with_reducible rfl⟩) ?_)
    try simp only [Act.put, List.setIfInBounds_toArray, List.set_cons_zero, List.set_cons_succ]
  refine plan_take _ (.agg (resC ra)) rfl (.inl ⟨by rfl, fun W hW => run_load_any 32 _ rfl _ rfl (resL ra) _ (by first | exact p4 W hW) Try.underlying32 rfl (res_size ra)⟩) ?_
  try simp only [Act.put, List.setIfInBounds_toArray, List.set_cons_zero, List.set_cons_succ]
  refine plan_take _ _ rfl (yields_bin_agg (by rfl) .eql 32 _ _ _ rfl (resC ra) (resC ra) rfl rfl (.bool true) guard_res e2) ?_
  try simp only [Act.put, List.setIfInBounds_toArray, List.set_cons_zero, List.set_cons_succ]
  iterate 4
    first
      | (refine plan_pass _ rfl (by rfl) ?_)
      | (refine plan_take _ _ rfl (.inl ⟨by rfl, fun W hS => by clear hS; go_simp; try with_reducible rfl⟩) ?_)
    try simp only [Act.put, List.setIfInBounds_toArray, List.set_cons_zero, List.set_cons_succ]
  refine plan_take _ (.agg (resC rb)) rfl (.inl ⟨by rfl, fun W hW => run_load_any 32 _ rfl _ rfl (resL rb) _ (by first | exact p2 W hW) Try.underlying32 rfl (res_size rb)⟩) ?_
  try simp only [Act.put, List.setIfInBounds_toArray, List.set_cons_zero, List.set_cons_succ]
  iterate 2
    first
      | (refine plan_pass _ rfl (by rfl) ?_)
      | (refine plan_take _ _ rfl (.inl ⟨by rfl, fun W hS => by clear hS; go_simp; try with_reducible rfl⟩) ?_)
    try simp only [Act.put, List.setIfInBounds_toArray, List.set_cons_zero, List.set_cons_succ]
  refine plan_take _ (.agg (resC rb)) rfl (.inl ⟨by rfl, fun W hW => run_load_any 32 _ rfl _ rfl (resL rb) _ (by first | exact p3 W hW | exact z2 ▸ p3 W hW) Try.underlying32 rfl (res_size rb)⟩) ?_
  try simp only [Act.put, List.setIfInBounds_toArray, List.set_cons_zero, List.set_cons_succ]
  refine plan_take _ _ rfl (yields_bin_agg (by rfl) .eql 32 _ _ _ rfl (resC rb) (resC rb) rfl rfl (.bool true) guard_res e3) ?_
  try simp only [Act.put, List.setIfInBounds_toArray, List.set_cons_zero, List.set_cons_succ]
  iterate 2
    first
      | (refine plan_pass _ rfl (by rfl) ?_)
      | (refine plan_take _ _ rfl (.inl ⟨by rfl, fun W hS => by clear hS; go_simp; try with_reducible rfl⟩) ?_)
    try simp only [Act.put, List.setIfInBounds_toArray, List.set_cons_zero, List.set_cons_succ]
  refine plan_done ?_
  go_wp2_with fail
  go_ret
  exact ⟨rfl, hb.drew⟩
end Go.Proofs.Ytjajfeplgilejab
