/- LogCuts, walked. -/
import Derived.Test.YtkkjdihmjcaibaaCutsFacts
namespace Go.Proofs.Ytkkjdihmjcaibaa
set_option linter.unusedSimpArgs false
set_option linter.unusedVariables false
set_option maxRecDepth 100000
open Go.RowKit

theorem u32_small (n : Nat) (h : n < 4294967296) : IntKind.u32.wrap (n : Int) = (n : Int) := by
  simp [IntKind.wrap, IntKind.bits, IntKind.signed]
  omega
/-- The difference of two numbers of 32 bits, the first the greater. -/
theorem run_sub_u32 {P : Program} {o : Oper} {ev : Operand → Value} (ty ty' : TypeId) (x y : Operand) (ho : o.op = .binOp .sub ty x y ty') (n m k : Nat) (hx : ev x = .int .u32 (n : Int)) (hy : ev y = .int .u32 (m : Int)) (hk : n = m + k) (hl : k < 4294967296) (w : World) :
    (execOp ev o).run P w = .ok (.value (.int .u32 (k : Int))) w := by
  subst hk
  have h4 : IntKind.u32.wrap (((m + k : Nat) : Int) - (m : Int)) = (k : Int) := by
    rw [show ((m + k : Nat) : Int) - (m : Int) = (k : Int) by omega]
    exact u32_small k hl
  unfold execOp
  simp only [ho, hx, hy]
  simp only [Sem.run_bind, go_sem, h4]
  simp [go_sem, h4]

set_option maxHeartbeats 1500000 in
theorem cuts_walk (ao : Option Addr) (c a : Nat) (l : List OpV) (w : World) (h : Sl w ao c 6 (opR l)) (hl : ∀ x ∈ l, OpOk x) (ha : a < 256) :
    Calls Try.prog 5 #[.slice ao l.length c, .int .u8 (a : Int)] w fun e w' => e = .returned (.bool true) ∧ Below w.heap.size w w' := by
  have hle := h.op_le
  have hcap := h.cap
  go_enter Try.func5, Try.ntmps5
  go_wp2_with fail
  refine (known_any _).mono ?_
  rintro e w1 ⟨rfl, hb⟩
  by_cases hlong : 40 < l.length
  · have hI : (40 : Int) < (l.length : Int) := by omega
    clear hlong
    go_wp2_with fail
    go_ret
    exact ⟨rfl, hb⟩
  have hI : ¬ ((40 : Int) < (l.length : Int)) := by omega
  have hl60 : l.length ≤ 60 := by omega
  have hlB : l.length ≤ 40 := by omega
  clear hlong
  go_wp2_with fail
  refine (row_any ao c 1 l _ (h.later hb) hl hl60 (by omega)).mono ?_
  rintro e w2 ⟨ro, rc, bo, bc, rfl, hS8, _, hD6, _, hq⟩
  replace hb := hb.trans (hq.mono hb.size)
  have hDw := filter_writes l
  have hDo := filter_ok hl
  have hD60 : (l.filter writesM).length ≤ 40 := Nat.le_trans (filter_len l) hlB
  have hD60I : ((l.filter writesM).length : Int) ≤ 40 := by omega
  have hRS := rowState (q := 1 % 60 + 1) (D := l.filter writesM) (by omega) hDw hDo (by omega)
  clear hq
  generalize stOf (1 % 60 + 1) (l.filter writesM) = S at *
  have hq60 : 1 % 60 + 1 ≤ 60 := by omega
  generalize 1 % 60 + 1 = q at *
  generalize l.filter writesM = D at *
  have hDc := hD6.op_le
  have hDcap := hD6.cap
  have hSo := hRS.ok
  have hSi : Hid _ := hRS.is'
  have hSf : Hid _ := hRS.fold
  have hSh : Hid _ := hRS.head
  have hSl : Hid _ := hRS.len
  have hSt : Hid _ := hRS.tail
  have hSb : Hid _ := hRS.base
  have hSe : Hid _ := hRS.eq
  clear hRS
  obtain ⟨w3, hw3, hX, hq⟩ := new_var w2 40 (stC st0 none 0) (stC S ro rc)
  replace hS8 := hS8.later hq
  replace hD6 := hD6.later hq
  replace hb := hb.trans (hq.mono hb.size)
  clear hq
  go_wp2_with (first
    | (refine wpList_alloc_has (by rfl) 40 rfl (stC st0 none 0) st_zero ?_)
    | (refine wpList_store_to (by rfl) 40 _ _ rfl w2.heap.size rfl (stC S ro rc) rfl 40 (stC st0 none 0) (st_size _ _ _) (st_same _ _ _ _ _ _) (st_one _ _ _) ?hg w3 ?hW ?_; (case hg => exact Has.new _ _ _); (case hW => exact hw3); clear hw3; generalize w2.heap.size = gs at *)
    | (refine wpList_load_has (by rfl) 40 _ rfl (gs) rfl 40 (stC S ro rc) _ Try.underlying40 rfl (st_size _ _ _) ?hg ?_; (case hg => exact hX)))
  refine (head_any S ro rc _ hSo hS8).mono ?_
  rintro e w4 ⟨rfl, hq⟩
  rw [hSh.out]
  replace hX := hX.later hq
  replace hS8 := hS8.later hq
  replace hD6 := hD6.later hq
  replace hb := hb.trans (hq.mono hb.size)
  clear hq
  generalize (posQ q D.length).since = ps at *
  obtain ⟨t, ht⟩ : ∃ t, t = D.length - 6 := ⟨_, rfl⟩
  obtain ⟨m, hm⟩ : ∃ m, D.length = t + m := ⟨D.length - t, by omega⟩
  obtain ⟨r, hr⟩ : ∃ r, a % (m + 1) = r := ⟨_, rfl⟩
  have hrm : r < m + 1 := hr ▸ Nat.mod_lt _ (by omega)
  obtain ⟨k, hk⟩ : ∃ k, t + r = k := ⟨_, rfl⟩
  have hCS := cutState (k := k) hSe.out hq60 hDw hDo (by omega) (by omega) (by omega)
  generalize sK q (D.take k) (D.length - 6) = A at *
  generalize sK q D k = Bs at *
  generalize (allM base0 (D.take k)).1 = C at *
  generalize (allM base0 D).1 = E at *
  have htn : ∀ W, Has W gs 40 (stC S ro rc) → W.cell? ⟨gs, 41, none⟩ = some (.int .u32 (t : Int)) := fun W hW => by
    have := hW.st_tail_n
    rw [hSt.out, ← ht] at this
    exact this
  have hm1 : Hid (m < 100) := show m < 100 by omega
  have ht1 : Hid (t < 100) := show t < 100 by omega
  have hmH : Hid _ := hm
  have hrH : Hid _ := hr
  have hkD : k ≤ D.length := by omega
  have hkH : Hid _ := hk
  clear hm ht hr hrm hk
  have hbA : Below w4.heap.size w4 w4.drew := (Below.refl _ _).drew
  go_wp2_with fail
  refine wp_region_plan (fun W => Below w4.heap.size w4 W) (Plan.of [(0, true), (1, true), (2, true), (3, true), (4, true), (5, true), (6, true), (7, true), (8, true), (9, true), (10, true), (11, true), (12, true), (13, true)] .done) (by kernel_rfl) (by kernel_rfl) (by kernel_rfl) (by kernel_rfl) hbA ?_
  iterate 2
    first
      | (refine plan_pass _ rfl (by rfl) ?_)
      | (refine plan_take _ _ rfl (.inl ⟨by rfl, fun W hS => by clear hS; go_simp; try with_reducible rfl⟩) ?_)
    try simp only [Act.put, List.setIfInBounds_toArray, List.set_cons_zero, List.set_cons_succ]
  iterate 1
    first
      | (refine plan_pass _ rfl (by rfl) ?_)
      | (refine plan_take _ _ rfl (.inl ⟨by rfl, fun W hS => by have z0 := htn W (hX.later hS); go_simp; try with_reducible rfl⟩) ?_)
    try simp only [Act.put, List.setIfInBounds_toArray, List.set_cons_zero, List.set_cons_succ]
  iterate 1
    first
      | (refine plan_pass _ rfl (by rfl) ?_)
      | (refine plan_take _ _ rfl (.inl ⟨by rfl, fun W hS => by clear hS; go_simp; try with_reducible rfl⟩) ?_)
    try simp only [Act.put, List.setIfInBounds_toArray, List.set_cons_zero, List.set_cons_succ]
  refine plan_take _ (.int .u32 (a : Int)) rfl (.inl ⟨by rfl, fun W hS => by clear hS; go_simp; exact u32_small _ (by omega)⟩) ?_
  try simp only [Act.put, List.setIfInBounds_toArray, List.set_cons_zero, List.set_cons_succ]
  iterate 3
    first
      | (refine plan_pass _ rfl (by rfl) ?_)
      | (refine plan_take _ _ rfl (.inl ⟨by rfl, fun W hS => by clear hS; go_simp; try with_reducible rfl⟩) ?_)
    try simp only [Act.put, List.setIfInBounds_toArray, List.set_cons_zero, List.set_cons_succ]
  iterate 1
    first
      | (refine plan_pass _ rfl (by rfl) ?_)
      | (refine plan_take _ _ rfl (.inl ⟨by rfl, fun W hS => by have z0 := htn W (hX.later hS); go_simp; try with_reducible rfl⟩) ?_)
    try simp only [Act.put, List.setIfInBounds_toArray, List.set_cons_zero, List.set_cons_succ]
  refine plan_take _ (.int .u32 (m : Int)) rfl (.inl ⟨by rfl, fun W _ => run_sub_u32 _ _ _ _ rfl D.length t m rfl rfl hmH.out (by have := hm1.out; omega) W⟩) ?_
  try simp only [Act.put, List.setIfInBounds_toArray, List.set_cons_zero, List.set_cons_succ]
  refine plan_take _ (.int .u32 ((m + 1 : Nat) : Int)) rfl (.inl ⟨by rfl, fun W _ => run_add_u32 _ _ _ _ rfl m 1 (m + 1) rfl rfl rfl (by have := hm1.out; omega) W⟩) ?_
  try simp only [Act.put, List.setIfInBounds_toArray, List.set_cons_zero, List.set_cons_succ]
  refine plan_take _ (.int .u32 (r : Int)) rfl (.inl ⟨by rfl, fun W _ => run_rem_u32 _ _ _ _ rfl a (m + 1) r rfl rfl (by omega) (by omega) hrH.out W⟩) ?_
  try simp only [Act.put, List.setIfInBounds_toArray, List.set_cons_zero, List.set_cons_succ]
  refine plan_take _ (.int .u32 (k : Int)) rfl (.inl ⟨by rfl, fun W _ => run_add_u32 _ _ _ _ rfl t r k rfl rfl hkH.out (by omega) W⟩) ?_
  try simp only [Act.put, List.setIfInBounds_toArray, List.set_cons_zero, List.set_cons_succ]
  iterate 1
    first
      | (refine plan_pass _ rfl (by rfl) ?_)
      | (refine plan_take _ _ rfl (.inl ⟨by rfl, fun W hS => by clear hS; go_simp; try with_reducible rfl⟩) ?_)
    try simp only [Act.put, List.setIfInBounds_toArray, List.set_cons_zero, List.set_cons_succ]
  refine plan_done ?_
  replace hX := hX.later hbA
  replace hS8 := hS8.later hbA
  replace hD6 := hD6.later hbA
  replace hb := hb.trans (hbA.mono hb.size)
  generalize w4.drew = w5 at *
  clear hkH hrH hmH hm1 ht1 hbA
  have hk32 : k < 4294967296 := by omega
  have hcut : Hid _ := hCS.cut
  have htail : Hid _ := hCS.tail
  have hupto : Hid _ := hCS.upto
  have hAo := hCS.okA
  have hBo := hCS.okB
  go_wp2_with (first
    | (refine wpList_load_has (by rfl) 40 _ rfl (gs) rfl 40 (stC S ro rc) _ Try.underlying40 rfl (st_size _ _ _) ?hg ?_; (case hg => exact hX)))
  refine (cut_any S ro rc k _ hSo hS8 hk32).mono ?_
  rintro e w6 ⟨xo, xc, rfl, hG⟩
  rw [hcut.out] at hG
  rw [hcut.out]
  have hA8 := hG.sl
  replace hX := hX.later hG.below
  replace hS8 := hS8.later hG.below
  replace hD6 := hD6.later hG.below
  replace hb := hb.trans (hG.below.mono hb.size)
  clear hG hcut
  obtain ⟨w7, hw7, hA, hq⟩ := new_var w6 40 (stC st0 none 0) (stC A xo xc)
  replace hX := hX.later hq
  replace hS8 := hS8.later hq
  replace hD6 := hD6.later hq
  replace hA8 := hA8.later hq
  replace hb := hb.trans (hq.mono hb.size)
  clear hq
  go_wp2_with (first
    | (refine wpList_alloc_has (by rfl) 40 rfl (stC st0 none 0) st_zero ?_)
    | (refine wpList_store_to (by rfl) 40 _ _ rfl w6.heap.size rfl (stC A xo xc) rfl 40 (stC st0 none 0) (st_size _ _ _) (st_same _ _ _ _ _ _) (st_one _ _ _) ?hg w7 ?hW ?_; (case hg => exact Has.new _ _ _); (case hW => exact hw7); clear hw7; generalize w6.heap.size = ga at *)
    | (refine wpList_load_has (by rfl) 40 _ rfl (gs) rfl 40 (stC S ro rc) _ Try.underlying40 rfl (st_size _ _ _) ?hg ?_; (case hg => exact hX)))
  refine (tail_any S ro rc k _ hSo hS8 hk32).mono ?_
  rintro e w8 ⟨yo, yc, rfl, hG⟩
  rw [htail.out] at hG
  rw [htail.out]
  have hB8 := hG.sl
  replace hX := hX.later hG.below
  replace hS8 := hS8.later hG.below
  replace hD6 := hD6.later hG.below
  replace hA8 := hA8.later hG.below
  replace hA := hA.later hG.below
  replace hb := hb.trans (hG.below.mono hb.size)
  clear hG htail
  obtain ⟨w9, hw9, hB, hq⟩ := new_var w8 40 (stC st0 none 0) (stC Bs yo yc)
  replace hX := hX.later hq
  replace hS8 := hS8.later hq
  replace hD6 := hD6.later hq
  replace hA8 := hA8.later hq
  replace hA := hA.later hq
  replace hB8 := hB8.later hq
  replace hb := hb.trans (hq.mono hb.size)
  clear hq
  go_wp2_with (first
    | (refine wpList_alloc_has (by rfl) 40 rfl (stC st0 none 0) st_zero ?_)
    | (refine wpList_store_to (by rfl) 40 _ _ rfl w8.heap.size rfl (stC Bs yo yc) rfl 40 (stC st0 none 0) (st_size _ _ _) (st_same _ _ _ _ _ _) (st_one _ _ _) ?hg w9 ?hW ?_; (case hg => exact Has.new _ _ _); (case hW => exact hw9); clear hw9; generalize w8.heap.size = gt at *)
    | (refine wpList_load_has (by rfl) 40 _ rfl (gs) rfl 40 (stC S ro rc) _ Try.underlying40 rfl (st_size _ _ _) ?hg ?_; (case hg => exact hX)))
  refine (upto_any S ro rc k _ hSo hS8 hk32).mono ?_
  rintro e wa ⟨rfl, hq⟩
  rw [hupto.out]
  replace hX := hX.later hq
  replace hS8 := hS8.later hq
  replace hD6 := hD6.later hq
  replace hA8 := hA8.later hq
  replace hA := hA.later hq
  replace hB8 := hB8.later hq
  replace hB := hB.later hq
  replace hb := hb.trans (hq.mono hb.size)
  clear hq hupto
  obtain ⟨wb, hwb, hU, hq⟩ := new_var wa 33 (baseC base0) (baseC C)
  replace hX := hX.later hq
  replace hS8 := hS8.later hq
  replace hD6 := hD6.later hq
  replace hA8 := hA8.later hq
  replace hA := hA.later hq
  replace hB8 := hB8.later hq
  replace hB := hB.later hq
  replace hb := hb.trans (hq.mono hb.size)
  clear hq
  have hlenk : (D.take k).length = k := by rw [List.length_take]; omega
  have hall := fun W (hW : Sl W bo bc 6 (opR (D.take k))) => all_any base0 bo bc (D.take k) W base0_ok hW (fun o ho => hDo o (List.mem_of_mem_take ho)) (by omega)
  rw [hlenk, hCS.allC] at hall
  have hslk := fun W => run_head_ops W bo D.length bc k (by omega) .u32
  go_wp2_with (first
    | (refine wpList_alloc_has (by rfl) 33 rfl (baseC base0) base_zero ?_)
    | (refine wpList_store_to (by rfl) 33 _ _ rfl wa.heap.size rfl (baseC (C)) rfl 33 (baseC base0) (base_size _) rfl (base_one _) ?hg wb ?hW ?_; (case hg => exact Has.new _ _ _); (case hW => exact hwb); clear hwb; generalize wa.heap.size = gu at *)
    | (refine wpList_build_has (by rfl) 33 #[] rfl (baseC base0) (by simpa using base_built) ?_)
    | fail)
  refine (hall _ (hD6.op_take k)).mono ?_
  rintro e wc ⟨xo2, xc2, rfl, hXr, hq⟩
  replace hX := hX.later hq
  replace hS8 := hS8.later hq
  replace hA8 := hA8.later hq
  replace hA := hA.later hq
  replace hB8 := hB8.later hq
  replace hB := hB.later hq
  replace hU := hU.later hq
  replace hb := hb.trans (hq.mono hb.size)
  clear hq hXr hall hslk hD6
  obtain ⟨wd, hwd, hC, hq⟩ := new_var wc 33 (baseC base0) (baseC C)
  replace hX := hX.later hq
  replace hS8 := hS8.later hq
  replace hA8 := hA8.later hq
  replace hA := hA.later hq
  replace hB8 := hB8.later hq
  replace hB := hB.later hq
  replace hU := hU.later hq
  replace hb := hb.trans (hq.mono hb.size)
  clear hq
  go_wp2_with (first
    | (refine wpList_alloc_has (by rfl) 33 rfl (baseC base0) base_zero ?_)
    | (refine wpList_store_to (by rfl) 33 _ _ rfl wc.heap.size rfl (baseC (C)) rfl 33 (baseC base0) (base_size _) rfl (base_one _) ?hg wd ?hW ?_; (case hg => exact Has.new _ _ _); (case hW => exact hwd); clear hwd; generalize wc.heap.size = gc at *)
    | (refine wpList_load_has (by rfl) 40 _ rfl (ga) rfl 40 (stC A xo xc) _ Try.underlying40 rfl (st_size _ _ _) ?hg ?_; (case hg => exact hA)))
  refine (head_any A xo xc _ hAo hA8).mono ?_
  rintro e we ⟨rfl, hq⟩
  obtain ⟨p1, hp1⟩ := hCS.headA
  rw [hp1]
  replace hX := hX.later hq
  replace hS8 := hS8.later hq
  replace hA8 := hA8.later hq
  replace hA := hA.later hq
  replace hB8 := hB8.later hq
  replace hB := hB.later hq
  replace hU := hU.later hq
  replace hC := hC.later hq
  replace hb := hb.trans (hq.mono hb.size)
  clear hq hp1
  go_wp2_with (first
    | (refine wpList_load_has (by rfl) 40 _ rfl (gt) rfl 40 (stC Bs yo yc) _ Try.underlying40 rfl (st_size _ _ _) ?hg ?_; (case hg => exact hB)))
  refine (head_any Bs yo yc _ hBo hB8).mono ?_
  rintro e wf ⟨rfl, hq⟩
  obtain ⟨p2, hp2⟩ := hCS.headB
  rw [hp2]
  replace hX := hX.later hq
  replace hS8 := hS8.later hq
  replace hA8 := hA8.later hq
  replace hA := hA.later hq
  replace hB8 := hB8.later hq
  replace hB := hB.later hq
  replace hU := hU.later hq
  replace hC := hC.later hq
  replace hb := hb.trans (hq.mono hb.size)
  clear hq hp2
  have e1 := fun W => neq_base C hCS.okC W
  have e2 := fun W => neq_base E hCS.okE W
  have hfA : Hid _ := hCS.foldA
  have hfB : Hid _ := hCS.foldB
  have hfS : Hid _ := hCS.foldS
  have hiA : Hid _ := hCS.isA
  have hiB : Hid _ := hCS.isB
  have hn1 : Hid _ := hCS.none1
  have hn2 : Hid _ := hCS.none2
  have hbm : ∀ W, Below wf.heap.size wf W → W.rangeAt gt 1 (baseL C) := fun W hW => by
    have := (hB.later hW).st_base
    rw [hCS.baseB] at this
    exact this
  have htn2 : ∀ W, Below wf.heap.size wf W → W.cell? ⟨gt, 41, none⟩ = some (.int .u32 (k : Int)) := fun W hW => by
    have := (hB.later hW).st_tail_n
    rw [hCS.tailB] at this
    exact this
  clear hCS
  have hbA : Below wf.heap.size wf wf.drew := (Below.refl _ _).drew
  go_wp2_with fail
  refine wp_region_plan (fun W => Below wf.heap.size wf W) (Plan.of [(0, true), (1, true), (2, true), (3, true), (4, true), (5, true), (6, true), (7, true), (8, true), (9, true), (10, true), (11, true), (12, true), (13, true), (14, true), (15, true), (16, true), (17, true), (18, true), (19, true), (20, true), (21, true), (22, true), (23, true), (24, true), (25, true), (26, true), (28, true), (27, false), (29, true), (30, true), (31, true), (32, true), (34, true), (33, false), (35, false), (36, true), (37, true), (38, true), (39, true), (40, true), (41, true), (42, true), (43, true), (44, true), (45, true), (46, true), (47, true), (48, true), (49, true), (50, true)] .done) (by kernel_rfl) (by kernel_rfl) (by kernel_rfl) (by kernel_rfl) hbA ?_
  iterate 1
    first
      | (refine plan_pass _ rfl (by rfl) ?_)
      | (refine plan_take _ _ rfl (.inl ⟨by rfl, fun W hS => by clear hS; go_simp; try with_reducible rfl⟩) ?_)
    try simp only [Act.put, List.setIfInBounds_toArray, List.set_cons_zero, List.set_cons_succ]
  refine plan_take _ (.bool false) rfl (.inl ⟨by rfl, fun W hS => by clear hS; go_simp; try with_reducible rfl⟩) ?_
  try simp only [Act.put, List.setIfInBounds_toArray, List.set_cons_zero, List.set_cons_succ]
  iterate 2
    first
      | (refine plan_pass _ rfl (by rfl) ?_)
      | (refine plan_take _ _ rfl (.inl ⟨by rfl, fun W hS => by clear hS; go_simp; try with_reducible rfl⟩) ?_)
    try simp only [Act.put, List.setIfInBounds_toArray, List.set_cons_zero, List.set_cons_succ]
  refine plan_take _ (.bool false) rfl (.inl ⟨by rfl, fun W hS => by clear hS; go_simp; try with_reducible rfl⟩) ?_
  try simp only [Act.put, List.setIfInBounds_toArray, List.set_cons_zero, List.set_cons_succ]
  iterate 3
    first
      | (refine plan_pass _ rfl (by rfl) ?_)
      | (refine plan_take _ _ rfl (.inl ⟨by rfl, fun W hS => by clear hS; go_simp; try with_reducible rfl⟩) ?_)
    try simp only [Act.put, List.setIfInBounds_toArray, List.set_cons_zero, List.set_cons_succ]
  refine plan_take _ (.bool false) rfl (.inl ⟨by rfl, fun W hS => by clear hS; go_simp; try with_reducible rfl⟩) ?_
  try simp only [Act.put, List.setIfInBounds_toArray, List.set_cons_zero, List.set_cons_succ]
  iterate 4
    first
      | (refine plan_pass _ rfl (by rfl) ?_)
      | (refine plan_take _ _ rfl (.inl ⟨by rfl, fun W hS => by clear hS; go_simp; try with_reducible rfl⟩) ?_)
    try simp only [Act.put, List.setIfInBounds_toArray, List.set_cons_zero, List.set_cons_succ]
  refine plan_take _ (.bool false) rfl (.inl ⟨by rfl, fun W hS => by clear hS; go_simp; try with_reducible rfl⟩) ?_
  try simp only [Act.put, List.setIfInBounds_toArray, List.set_cons_zero, List.set_cons_succ]
  iterate 4
    first
      | (refine plan_pass _ rfl (by rfl) ?_)
      | (refine plan_take _ _ rfl (.inl ⟨by rfl, fun W hS => by clear hS; go_simp; try with_reducible rfl⟩) ?_)
    try simp only [Act.put, List.setIfInBounds_toArray, List.set_cons_zero, List.set_cons_succ]
  refine plan_take _ (.bool false) rfl (.inl ⟨by rfl, fun W hS => by clear hS; go_simp; try with_reducible rfl⟩) ?_
  try simp only [Act.put, List.setIfInBounds_toArray, List.set_cons_zero, List.set_cons_succ]
  iterate 2
    first
      | (refine plan_pass _ rfl (by rfl) ?_)
      | (refine plan_take _ _ rfl (.inl ⟨by rfl, fun W hS => by clear hS; go_simp; try with_reducible rfl⟩) ?_)
    try simp only [Act.put, List.setIfInBounds_toArray, List.set_cons_zero, List.set_cons_succ]
  refine plan_take _ _ rfl (yields_load_has (by rfl) 33 _ rfl (gu) rfl 33 (baseC (C)) _ Try.underlying33 rfl (base_size _) (fun W hW => hU.later hW)) ?_
  try simp only [Act.put, List.setIfInBounds_toArray, List.set_cons_zero, List.set_cons_succ]
  refine plan_take _ _ rfl (yields_load_has (by rfl) 33 _ rfl (gc) rfl 33 (baseC (C)) _ Try.underlying33 rfl (base_size _) (fun W hW => hC.later hW)) ?_
  try simp only [Act.put, List.setIfInBounds_toArray, List.set_cons_zero, List.set_cons_succ]
  refine plan_take _ _ rfl (yields_bin_agg (by rfl) .neq 33 _ _ _ rfl (baseC (C)) (baseC (C)) rfl rfl (.bool (false)) guard_base (e1)) ?_
  try simp only [Act.put, List.setIfInBounds_toArray, List.set_cons_zero, List.set_cons_succ]
  iterate 2
    first
      | (refine plan_pass _ rfl (by rfl) ?_)
      | (refine plan_take _ _ rfl (.inl ⟨by rfl, fun W hS => by clear hS; go_simp; try with_reducible rfl⟩) ?_)
    try simp only [Act.put, List.setIfInBounds_toArray, List.set_cons_zero, List.set_cons_succ]
  refine plan_take _ _ rfl (yields_load_has (by rfl) 40 _ rfl (ga) rfl 40 (stC A xo xc) _ Try.underlying40 rfl (st_size _ _ _) (fun W hW => hA.later hW)) ?_
  try simp only [Act.put, List.setIfInBounds_toArray, List.set_cons_zero, List.set_cons_succ]
  refine plan_take _ _ rfl (yields_load_has (by rfl) 33 _ rfl (gc) rfl 33 (baseC (C)) _ Try.underlying33 rfl (base_size _) (fun W hW => hC.later hW)) ?_
  try simp only [Act.put, List.setIfInBounds_toArray, List.set_cons_zero, List.set_cons_succ]
  refine plan_run _ rfl (fun K hK => ?_)
  go_simp
  refine (fold_any A xo xc _ hAo (hA8.later hbA)).mono ?_
  rintro e wg ⟨rfl, hq⟩
  rw [hfA.out]
  have hbB : Below _ _ wg := hbA.trans (hq.mono hbA.size)
  refine hK.out _ _ hbB ?_
  clear hK K hq
  try simp only [Act.put, List.setIfInBounds_toArray, List.set_cons_zero, List.set_cons_succ]
  refine plan_take _ _ rfl (yields_bin_agg (by rfl) .neq 33 _ _ _ rfl (baseC (C)) (baseC (C)) rfl rfl (.bool (false)) guard_base (e1)) ?_
  try simp only [Act.put, List.setIfInBounds_toArray, List.set_cons_zero, List.set_cons_succ]
  iterate 2
    first
      | (refine plan_pass _ rfl (by rfl) ?_)
      | (refine plan_take _ _ rfl (.inl ⟨by rfl, fun W hS => by clear hS; go_simp; try with_reducible rfl⟩) ?_)
    try simp only [Act.put, List.setIfInBounds_toArray, List.set_cons_zero, List.set_cons_succ]
  refine plan_take _ _ rfl (yields_load_has (by rfl) 40 _ rfl (gt) rfl 40 (stC Bs yo yc) _ Try.underlying40 rfl (st_size _ _ _) (fun W hW => hB.later hW)) ?_
  try simp only [Act.put, List.setIfInBounds_toArray, List.set_cons_zero, List.set_cons_succ]
  refine plan_take _ _ rfl (yields_load_has (by rfl) 40 _ rfl (gs) rfl 40 (stC S ro rc) _ Try.underlying40 rfl (st_size _ _ _) (fun W hW => hX.later hW)) ?_
  try simp only [Act.put, List.setIfInBounds_toArray, List.set_cons_zero, List.set_cons_succ]
  refine plan_run _ rfl (fun K hK => ?_)
  go_simp
  refine (fold_any Bs yo yc _ hBo (hB8.later hbB)).mono ?_
  rintro e wh ⟨rfl, hq⟩
  rw [hfB.out]
  have hbC : Below _ _ wh := hbB.trans (hq.mono hbB.size)
  refine hK.out _ _ hbC ?_
  clear hK K hq
  try simp only [Act.put, List.setIfInBounds_toArray, List.set_cons_zero, List.set_cons_succ]
  refine plan_run _ rfl (fun K hK => ?_)
  go_simp
  refine (fold_any S ro rc _ hSo (hS8.later hbC)).mono ?_
  rintro e wi ⟨rfl, hq⟩
  rw [hfS.out]
  have hbD : Below _ _ wi := hbC.trans (hq.mono hbC.size)
  refine hK.out _ _ hbD ?_
  clear hK K hq
  try simp only [Act.put, List.setIfInBounds_toArray, List.set_cons_zero, List.set_cons_succ]
  refine plan_take _ _ rfl (yields_bin_agg (by rfl) .neq 33 _ _ _ rfl (baseC (E)) (baseC (E)) rfl rfl (.bool (false)) guard_base (e2)) ?_
  try simp only [Act.put, List.setIfInBounds_toArray, List.set_cons_zero, List.set_cons_succ]
  iterate 4
    first
      | (refine plan_pass _ rfl (by rfl) ?_)
      | (refine plan_take _ _ rfl (.inl ⟨by rfl, fun W hS => by clear hS; go_simp; try with_reducible rfl⟩) ?_)
    try simp only [Act.put, List.setIfInBounds_toArray, List.set_cons_zero, List.set_cons_succ]
  iterate 1
    first
      | (refine plan_pass _ rfl (by rfl) ?_)
      | (refine plan_take _ _ rfl (.inl ⟨by rfl, fun W hS => by have z0 := htn2 W hS; go_simp; try with_reducible rfl⟩) ?_)
    try simp only [Act.put, List.setIfInBounds_toArray, List.set_cons_zero, List.set_cons_succ]
  iterate 1
    first
      | (refine plan_pass _ rfl (by rfl) ?_)
      | (refine plan_take _ _ rfl (.inl ⟨by rfl, fun W hS => by clear hS; go_simp; try with_reducible rfl⟩) ?_)
    try simp only [Act.put, List.setIfInBounds_toArray, List.set_cons_zero, List.set_cons_succ]
  refine plan_take _ (.bool false) rfl (.inl ⟨by rfl, fun W hS => by clear hS; go_simp; try with_reducible rfl⟩) ?_
  try simp only [Act.put, List.setIfInBounds_toArray, List.set_cons_zero, List.set_cons_succ]
  iterate 3
    first
      | (refine plan_pass _ rfl (by rfl) ?_)
      | (refine plan_take _ _ rfl (.inl ⟨by rfl, fun W hS => by clear hS; go_simp; try with_reducible rfl⟩) ?_)
    try simp only [Act.put, List.setIfInBounds_toArray, List.set_cons_zero, List.set_cons_succ]
  refine plan_take _ _ rfl (yields_load_mid (by rfl) 33 _ rfl gt 1 rfl (baseL C) _ Try.underlying33 rfl (base_size _) hbm) ?_
  try simp only [Act.put, List.setIfInBounds_toArray, List.set_cons_zero, List.set_cons_succ]
  refine plan_take _ _ rfl (yields_load_has (by rfl) 33 _ rfl (gc) rfl 33 (baseC (C)) _ Try.underlying33 rfl (base_size _) (fun W hW => hC.later hW)) ?_
  try simp only [Act.put, List.setIfInBounds_toArray, List.set_cons_zero, List.set_cons_succ]
  refine plan_take _ _ rfl (yields_bin_agg (by rfl) .neq 33 _ _ _ rfl (baseC (C)) (baseC (C)) rfl rfl (.bool (false)) guard_base (e1)) ?_
  try simp only [Act.put, List.setIfInBounds_toArray, List.set_cons_zero, List.set_cons_succ]
  iterate 1
    first
      | (refine plan_pass _ rfl (by rfl) ?_)
      | (refine plan_take _ _ rfl (.inl ⟨by rfl, fun W hS => by clear hS; go_simp; try with_reducible rfl⟩) ?_)
    try simp only [Act.put, List.setIfInBounds_toArray, List.set_cons_zero, List.set_cons_succ]
  refine plan_done ?_
  replace hX := hX.later hbD
  replace hS8 := hS8.later hbD
  replace hA8 := hA8.later hbD
  replace hA := hA.later hbD
  replace hB8 := hB8.later hbD
  replace hB := hB.later hbD
  replace hb := hb.trans (hbD.mono hb.size)
  clear hbA hbB hbC hbD hbm htn2 e1 e2
  have hD1 : D.length + 1 < 4294967296 := by omega
  go_wp2_with (first
    | (refine wpList_load_has (by rfl) 40 _ rfl (gs) rfl 40 (stC S ro rc) _ Try.underlying40 rfl (st_size _ _ _) ?hg ?_; (case hg => exact hX))
    | (refine wpList_val (.int .u32 ((D.length + 1 : Nat) : Int)) (by rfl) (run_add_u32 _ _ _ _ rfl D.length 1 (D.length + 1) rfl rfl rfl hD1) ?_))
  refine (cut_any S ro rc (D.length + 1) _ hSo hS8 hD1).mono ?_
  rintro e wj ⟨xo3, xc3, rfl, hG⟩
  rw [hn1.out] at hG
  rw [hn1.out]
  replace hX := hX.later hG.below
  replace hS8 := hS8.later hG.below
  replace hA8 := hA8.later hG.below
  replace hA := hA.later hG.below
  replace hB8 := hB8.later hG.below
  replace hB := hB.later hG.below
  replace hb := hb.trans (hG.below.mono hb.size)
  clear hG
  obtain ⟨wk, hwk, hZ, hq⟩ := new_var wj 40 (stC st0 none 0) (stC st0 xo3 xc3)
  replace hX := hX.later hq
  replace hS8 := hS8.later hq
  replace hA8 := hA8.later hq
  replace hA := hA.later hq
  replace hB8 := hB8.later hq
  replace hB := hB.later hq
  replace hb := hb.trans (hq.mono hb.size)
  clear hq
  go_wp2_with (first
    | (refine wpList_alloc_has (by rfl) 40 rfl (stC st0 none 0) st_zero ?_)
    | (refine wpList_store_to (by rfl) 40 _ _ rfl wj.heap.size rfl (stC st0 xo3 xc3) rfl 40 (stC st0 none 0) (st_size _ _ _) (st_same _ _ _ _ _ _) (st_one _ _ _) ?hg wk ?hW ?_; (case hg => exact Has.new _ _ _); (case hW => exact hwk); clear hwk; generalize wj.heap.size = gz at *)
    | (refine wpList_load_has (by rfl) 40 _ rfl (gs) rfl 40 (stC S ro rc) _ Try.underlying40 rfl (st_size _ _ _) ?hg ?_; (case hg => exact hX))
    | (refine wpList_val (.int .u32 ((D.length + 1 : Nat) : Int)) (by rfl) (run_add_u32 _ _ _ _ rfl D.length 1 (D.length + 1) rfl rfl rfl hD1) ?_))
  refine (tail_any S ro rc (D.length + 1) _ hSo hS8 hD1).mono ?_
  rintro e wl ⟨xo4, xc4, rfl, hG⟩
  rw [hn2.out] at hG
  rw [hn2.out]
  replace hX := hX.later hG.below
  replace hS8 := hS8.later hG.below
  replace hA8 := hA8.later hG.below
  replace hA := hA.later hG.below
  replace hB8 := hB8.later hG.below
  replace hB := hB.later hG.below
  replace hb := hb.trans (hG.below.mono hb.size)
  clear hG hZ
  obtain ⟨wm, hwm, hZ, hq⟩ := new_var wl 40 (stC st0 none 0) (stC st0 xo4 xc4)
  replace hX := hX.later hq
  replace hS8 := hS8.later hq
  replace hA8 := hA8.later hq
  replace hA := hA.later hq
  replace hB8 := hB8.later hq
  replace hB := hB.later hq
  replace hb := hb.trans (hq.mono hb.size)
  clear hq
  go_wp2_with (first
    | (refine wpList_alloc_has (by rfl) 40 rfl (stC st0 none 0) st_zero ?_)
    | (refine wpList_store_to (by rfl) 40 _ _ rfl wl.heap.size rfl (stC st0 xo4 xc4) rfl 40 (stC st0 none 0) (st_size _ _ _) (st_same _ _ _ _ _ _) (st_one _ _ _) ?hg wm ?hW ?_; (case hg => exact Has.new _ _ _); (case hW => exact hwm); clear hwm; generalize wl.heap.size = gy at *)
    | (refine wpList_load_has (by rfl) 40 _ rfl (ga) rfl 40 (stC A xo xc) _ Try.underlying40 rfl (st_size _ _ _) ?hg ?_; (case hg => exact hA)))
  refine (is_any A xo xc _ hAo hA8).mono ?_
  rintro e wn ⟨rfl, hq⟩
  rw [hiA.out]
  replace hB8 := hB8.later hq
  replace hB := hB.later hq
  replace hb := hb.trans (hq.mono hb.size)
  clear hq
  go_wp2_with (first
    | (refine wpList_load_has (by rfl) 40 _ rfl (gt) rfl 40 (stC Bs yo yc) _ Try.underlying40 rfl (st_size _ _ _) ?hg ?_; (case hg => exact hB)))
  refine (is_any Bs yo yc _ hBo hB8).mono ?_
  rintro e wo ⟨rfl, hq⟩
  rw [hiB.out]
  replace hb := hb.trans (hq.mono hb.size)
  clear hq
  go_wp2_with fail
  go_ret
  exact ⟨rfl, hb⟩
end Go.Proofs.Ytkkjdihmjcaibaa
