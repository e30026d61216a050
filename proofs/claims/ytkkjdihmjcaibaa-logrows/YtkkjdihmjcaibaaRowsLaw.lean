/- LogRows, walked. -/
import Derived.Test.YtkkjdihmjcaibaaLogOps
namespace Go.Proofs.Ytkkjdihmjcaibaa
set_option linter.unusedSimpArgs false
set_option linter.unusedVariables false
set_option maxRecDepth 100000
open Go.RowKit

set_option maxHeartbeats 4000000 in
theorem rows_walk (ao : Option Addr) (c since : Nat) (l : List OpV) (w : World) (h : Sl w ao c 6 (opR l)) (hl : ∀ x ∈ l, OpOk x) (hsince : since < 4294967296) :
    Calls Try.prog 4 #[.slice ao l.length c, .int .u32 (since : Int)] w fun e w' => e = .returned (.bool true) ∧ Below w.heap.size w w' := by
  have hle := h.op_le
  have hcap := h.cap
  go_enter Try.func4, Try.ntmps4
  go_wp2_with fail
  refine (known_any _).mono ?_
  rintro e w1 ⟨rfl, hb⟩
  by_cases hlong : 60 < l.length
  · have hI : (60 : Int) < (l.length : Int) := by omega
    clear hlong
    go_wp2_with fail
    go_ret
    exact ⟨rfl, hb⟩
  have hI : ¬ ((60 : Int) < (l.length : Int)) := by omega
  have hl60 : l.length ≤ 60 := by omega
  clear hlong
  go_wp2_with fail
  refine (row_any ao c since l _ (h.later hb) hl hl60 hsince).mono ?_
  rintro e w2 ⟨ro, rc, bo, bc, rfl, hS8, _, hD6, _, hq⟩
  replace hb := hb.trans (hq.mono hb.size)
  have hRS := rowState (q := since % 60 + 1) (D := l.filter writesM) (by omega) (filter_writes l) (filter_ok hl) (Nat.le_trans (filter_len l) hl60)
  have hDo := filter_ok hl
  have hD60 : (l.filter writesM).length ≤ 60 := Nat.le_trans (filter_len l) hl60
  have hD60I : ((l.filter writesM).length : Int) ≤ 60 := by omega
  clear hq
  generalize stOf (since % 60 + 1) (l.filter writesM) = S at *
  generalize since % 60 + 1 = q at *
  generalize l.filter writesM = D at *
  have hDc := hD6.op_le
  have hDcap := hD6.cap
  have hSo := hRS.ok
  have hSi : Hid _ := hRS.is'
  have hSf : Hid _ := hRS.fold
  have hSh : Hid _ := hRS.head
  have hSl : Hid _ := hRS.len
  have hSt : Hid _ := hRS.tail
  have hSb : Hid _ := hRS.base
  clear hRS
  obtain ⟨w3, hw3, hX, hq⟩ := new_var w2 40 (stC st0 none 0) (stC S ro rc)
  replace hS8 := hS8.later hq
  replace hD6 := hD6.later hq
  replace hb := hb.trans (hq.mono hb.size)
  clear hq
  go_wp2_with (first
    | (refine wpList_alloc_has (by rfl) 40 rfl (stC st0 none 0) st_zero ?_)
    | (refine wpList_store_to (by rfl) 40 _ _ rfl w2.heap.size rfl (stC S ro rc) rfl 40 (stC st0 none 0) (st_size _ _ _) (st_same _ _ _ _ _ _) (st_one _ _ _) ?hg w3 ?hW ?_; (case hg => exact Has.new _ _ _); (case hW => exact hw3); clear hw3; generalize w2.heap.size = gs at *)
    | (refine wpList_build_has (by rfl) 33 #[] rfl (baseC base0) (by simpa using base_built) ?_))
  refine (all_any base0 bo bc D _ base0_ok hD6 hDo (by omega)).mono ?_
  rintro e w4 ⟨xo, xc, rfl, hXr, hq⟩
  clear hXr
  have hBo := all_ok base0_ok D hDo
  generalize (allM base0 D).1 = B at *
  replace hX := hX.later hq
  replace hS8 := hS8.later hq
  replace hD6 := hD6.later hq
  replace hb := hb.trans (hq.mono hb.size)
  clear hq
  obtain ⟨w5, hw5, hB, hq⟩ := new_var w4 33 (baseC base0) (baseC B)
  replace hX := hX.later hq
  replace hS8 := hS8.later hq
  replace hD6 := hD6.later hq
  replace hb := hb.trans (hq.mono hb.size)
  clear hq
  go_wp2_with (first
    | (refine wpList_alloc_has (by rfl) 33 rfl (baseC base0) base_zero ?_)
    | (refine wpList_store_to (by rfl) 33 _ _ rfl w4.heap.size rfl (baseC B) rfl 33 (baseC base0) (base_size _) rfl (base_one _) ?hg w5 ?hW ?_; (case hg => exact Has.new _ _ _); (case hW => exact hw5); clear hw5; generalize w4.heap.size = gb at *)
    | (refine wpList_load_has (by rfl) 40 _ rfl gs rfl 40 (stC S ro rc) _ Try.underlying40 rfl (st_size _ _ _) ?hg ?_; (case hg => exact hX)))
  refine (head_any S ro rc _ hSo hS8).mono ?_
  rintro e w6 ⟨rfl, hq⟩
  rw [hSh.out]
  replace hX := hX.later hq
  replace hB := hB.later hq
  replace hS8 := hS8.later hq
  replace hD6 := hD6.later hq
  replace hb := hb.trans (hq.mono hb.size)
  clear hq
  generalize (posQ q D.length).since = ps at *
  obtain ⟨k, hk⟩ : ∃ k, k = D.length - 6 := ⟨_, rfl⟩
  have hkm : Hid ((if ((D.length : Int) - 6) > (0 : Int) then ((D.length : Int) - 6) else (0 : Int)) = (k : Int)) := by
    show _ = _
    split <;> omega
  rw [← hk] at hSt hSb
  have hkD : k ≤ D.length := by omega
  have hkc : k ≤ bc := by omega
  have hlenk : (D.take k).length = k := by rw [List.length_take]; omega
  have hall := fun W (hW : Sl W bo bc 6 (opR (D.take k))) => all_any base0 bo bc (D.take k) W base0_ok hW (fun o ho => hDo o (List.mem_of_mem_take ho)) (by omega)
  rw [hlenk] at hall
  have hCo := all_ok base0_ok (D.take k) (fun o ho => hDo o (List.mem_of_mem_take ho))
  generalize (allM base0 (D.take k)).1 = C at *
  have hslk := fun W => run_head_ops W bo D.length bc k hkc .i64
  replace hk : Hid _ := hk
  have hkI : (k : Int) ≤ 60 := by omega
  go_wp2_with (first
    | (refine wpList_max (by rfl) _ _ _ rfl _ _ _ _ (k : Int) rfl rfl ?hg ?_; (case hg => exact hkm.out))
    | (refine wpList_build_has (by rfl) 33 #[] rfl (baseC base0) (by simpa using base_built) ?_))
  refine (hall _ (hD6.op_take k)).mono ?_
  rintro e w7 ⟨xo2, xc2, rfl, hXr, hq⟩
  clear hXr hall
  replace hX := hX.later hq
  replace hB := hB.later hq
  replace hS8 := hS8.later hq
  replace hb := hb.trans (hq.mono hb.size)
  clear hq
  obtain ⟨w8, hw8, hC, hq⟩ := new_var w7 33 (baseC base0) (baseC C)
  replace hX := hX.later hq
  replace hB := hB.later hq
  replace hS8 := hS8.later hq
  replace hb := hb.trans (hq.mono hb.size)
  clear hq
  go_wp2_with (first
    | (refine wpList_alloc_has (by rfl) 33 rfl (baseC base0) base_zero ?_)
    | (refine wpList_store_to (by rfl) 33 _ _ rfl w7.heap.size rfl (baseC C) rfl 33 (baseC base0) (base_size _) rfl (base_one _) ?hg w8 ?hW ?_; (case hg => exact Has.new _ _ _); (case hW => exact hw8); clear hw8; generalize w7.heap.size = gc at *))
  have hbA : Below w8.heap.size w8 w8.drew := (Below.refl _ _).drew
  have e1 := fun W => eq_base B hBo W
  have e2 := fun W => eq_base C hCo W
  have hbm : ∀ W, Below w8.heap.size w8 W → W.rangeAt gs 1 (baseL C) := fun W hW => by
    have := (hX.later hW).st_base
    rw [hSb.out] at this
    exact this
  have htn : ∀ W, Below w8.heap.size w8 W → W.cell? ⟨gs, 41, none⟩ = some (.int .u32 (k : Int)) := fun W hW => by
    have := (hX.later hW).st_tail_n
    rw [hSt.out] at this
    exact this
  obtain ⟨m, hm⟩ : ∃ m, m = S.log.length := ⟨_, rfl⟩
  have hlg : ∀ W, Below w8.heap.size w8 W → W.cell? ⟨gs, 48, none⟩ = some (.slice ro m rc) := fun W hW => by
    have := (hX.later hW).st_log
    rw [← hm] at this
    exact this
  have hmin : Hid ((if (6 : Int) < (D.length : Int) then (6 : Int) else (D.length : Int)) = (m : Int)) := by
    have := hSl.out
    show _ = _
    split <;> omega
  clear hm hSl hSt hSb
  refine wp_region_plan (fun W => Below w8.heap.size w8 W) (Plan.of [(0, true), (1, false), (2, true), (3, true), (5, true), (4, false), (6, true), (7, true), (8, true), (9, true), (10, true), (11, true), (12, false), (13, true), (14, true), (15, true), (16, true), (17, true), (19, true)]
    (.either 18 (Plan.of [(20, false), (21, false), (22, true), (23, true), (24, true), (25, true), (26, true), (27, true), (28, true), (29, true), (30, true), (31, true), (32, true), (33, true), (34, true), (35, true), (36, true), (37, true), (38, true)] .done)
      20 (.either 18 (Plan.of [(21, false), (22, true), (23, true), (24, true), (25, true), (26, true), (27, true), (28, true), (29, true), (30, true), (31, true), (32, true), (33, true), (34, true), (35, true), (36, true), (37, true), (38, true)] .done) 21 (Plan.of [(18, false), (22, true), (23, true), (24, true), (25, true), (26, true), (27, true), (28, true), (29, true), (30, true), (31, true), (32, true), (33, true), (34, true), (35, true), (36, true), (37, true), (38, true)] .done)))) (by kernel_rfl) (by kernel_rfl) (by kernel_rfl) (by kernel_rfl) hbA ?_
  refine plan_take _ _ rfl (yields_load_has (by rfl) 40 _ rfl (gs) rfl 40 (stC S ro rc) _ Try.underlying40 rfl (st_size _ _ _) (fun W hW => hX.later hW)) ?_
  try simp only [Act.put, List.setIfInBounds_toArray, List.set_cons_zero, List.set_cons_succ]
  refine plan_run _ rfl (fun K hK => ?_)
  go_simp
  refine (is_any S ro rc _ hSo (hS8.later hbA)).mono ?_
  rintro e w9 ⟨rfl, hq⟩
  rw [hSi.out]
  have hbB : Below _ _ w9 := hbA.trans (hq.mono hbA.size)
  refine hK.out _ _ hbB ?_
  clear hK K hq
  try simp only [Act.put, List.setIfInBounds_toArray, List.set_cons_zero, List.set_cons_succ]
  iterate 1
    first
      | (refine plan_pass _ rfl (by rfl) ?_)
      | (refine plan_take _ _ rfl (.inl ⟨by rfl, fun W hS => by clear hS; go_simp; try with_reducible rfl⟩) ?_)
    try simp only [Act.put, List.setIfInBounds_toArray, List.set_cons_zero, List.set_cons_succ]
  refine plan_take _ _ rfl (yields_load_has (by rfl) 40 _ rfl (gs) rfl 40 (stC S ro rc) _ Try.underlying40 rfl (st_size _ _ _) (fun W hW => hX.later hW)) ?_
  try simp only [Act.put, List.setIfInBounds_toArray, List.set_cons_zero, List.set_cons_succ]
  refine plan_take _ _ rfl (yields_load_has (by rfl) 33 _ rfl (gb) rfl 33 (baseC (B)) _ Try.underlying33 rfl (base_size _) (fun W hW => hB.later hW)) ?_
  try simp only [Act.put, List.setIfInBounds_toArray, List.set_cons_zero, List.set_cons_succ]
  refine plan_run _ rfl (fun K hK => ?_)
  go_simp
  refine (fold_any S ro rc _ hSo (hS8.later hbB)).mono ?_
  rintro e wa ⟨rfl, hq⟩
  rw [hSf.out]
  have hbC : Below _ _ wa := hbB.trans (hq.mono hbB.size)
  refine hK.out _ _ hbC ?_
  clear hK K hq
  try simp only [Act.put, List.setIfInBounds_toArray, List.set_cons_zero, List.set_cons_succ]
  refine plan_take _ _ rfl (yields_bin_agg (by rfl) .eql 33 _ _ _ rfl (baseC (B)) (baseC (B)) rfl rfl (.bool (true)) guard_base (e1)) ?_
  try simp only [Act.put, List.setIfInBounds_toArray, List.set_cons_zero, List.set_cons_succ]
  iterate 3
    first
      | (refine plan_pass _ rfl (by rfl) ?_)
      | (refine plan_take _ _ rfl (.inl ⟨by rfl, fun W hS => by clear hS; go_simp; try with_reducible rfl⟩) ?_)
    try simp only [Act.put, List.setIfInBounds_toArray, List.set_cons_zero, List.set_cons_succ]
  refine plan_take _ (.int .i64 ((D.length : Nat) : Int)) rfl (.inl ⟨by rfl, fun W hS => by clear hS; go_simp; exact i64_small _ (by omega)⟩) ?_
  try simp only [Act.put, List.setIfInBounds_toArray, List.set_cons_zero, List.set_cons_succ]
  iterate 1
    first
      | (refine plan_pass _ rfl (by rfl) ?_)
      | (refine plan_take _ _ rfl (.inl ⟨by rfl, fun W hS => by clear hS; go_simp; try with_reducible rfl⟩) ?_)
    try simp only [Act.put, List.setIfInBounds_toArray, List.set_cons_zero, List.set_cons_succ]
  refine plan_run _ rfl (fun K hK => ?_)
  go_simp
  refine hK.out _ _ hbC ?_
  clear hK K
  try simp only [Act.put, List.setIfInBounds_toArray, List.set_cons_zero, List.set_cons_succ]
  refine plan_take _ (.bool true) rfl (.inl ⟨by rfl, fun W hS => by clear hS; go_simp; try with_reducible rfl⟩) ?_
  try simp only [Act.put, List.setIfInBounds_toArray, List.set_cons_zero, List.set_cons_succ]
  iterate 3
    first
      | (refine plan_pass _ rfl (by rfl) ?_)
      | (refine plan_take _ _ rfl (.inl ⟨by rfl, fun W hS => by clear hS; go_simp; try with_reducible rfl⟩) ?_)
    try simp only [Act.put, List.setIfInBounds_toArray, List.set_cons_zero, List.set_cons_succ]
  iterate 1
    first
      | (refine plan_pass _ rfl (by rfl) ?_)
      | (refine plan_take _ _ rfl (.inl ⟨by rfl, fun W hS => by have z0 := hlg W hS; go_simp; try with_reducible rfl⟩) ?_)
    try simp only [Act.put, List.setIfInBounds_toArray, List.set_cons_zero, List.set_cons_succ]
  iterate 1
    first
      | (refine plan_pass _ rfl (by rfl) ?_)
      | (refine plan_take _ _ rfl (.inl ⟨by rfl, fun W hS => by clear hS; go_simp; try with_reducible rfl⟩) ?_)
    try simp only [Act.put, List.setIfInBounds_toArray, List.set_cons_zero, List.set_cons_succ]
  refine plan_either ?_ ?_
  · refine plan_run _ rfl (fun K hK => ?_)
    go_simp
    refine hK.out _ _ hbC ?_
    clear hK K
    try simp only [Act.put, List.setIfInBounds_toArray, List.set_cons_zero, List.set_cons_succ]
    refine plan_run _ rfl (fun K hK => ?_)
    go_simp
    refine hK.out _ _ hbC ?_
    clear hK K
    try simp only [Act.put, List.setIfInBounds_toArray, List.set_cons_zero, List.set_cons_succ]
    refine plan_min _ rfl (by rfl) _ _ _ rfl _ _ _ _ (m : Int) rfl rfl hmin.out hbC ?_
    try simp only [Act.put, List.setIfInBounds_toArray, List.set_cons_zero, List.set_cons_succ]
    refine plan_take _ (.bool true) rfl (.inl ⟨by rfl, fun W hS => by clear hS; go_simp; try with_reducible rfl⟩) ?_
    try simp only [Act.put, List.setIfInBounds_toArray, List.set_cons_zero, List.set_cons_succ]
    iterate 4
      first
        | (refine plan_pass _ rfl (by rfl) ?_)
        | (refine plan_take _ _ rfl (.inl ⟨by rfl, fun W hS => by clear hS; go_simp; try with_reducible rfl⟩) ?_)
      try simp only [Act.put, List.setIfInBounds_toArray, List.set_cons_zero, List.set_cons_succ]
    iterate 1
      first
        | (refine plan_pass _ rfl (by rfl) ?_)
        | (refine plan_take _ _ rfl (.inl ⟨by rfl, fun W hS => by have z0 := htn W hS; go_simp; try with_reducible rfl⟩) ?_)
      try simp only [Act.put, List.setIfInBounds_toArray, List.set_cons_zero, List.set_cons_succ]
    refine plan_take _ (.int .i64 ((k : Nat) : Int)) rfl (.inl ⟨by rfl, fun W hS => by clear hS; go_simp; exact i64_small _ (by omega)⟩) ?_
    try simp only [Act.put, List.setIfInBounds_toArray, List.set_cons_zero, List.set_cons_succ]
    iterate 1
      first
        | (refine plan_pass _ rfl (by rfl) ?_)
        | (refine plan_take _ _ rfl (.inl ⟨by rfl, fun W hS => by clear hS; go_simp; try with_reducible rfl⟩) ?_)
      try simp only [Act.put, List.setIfInBounds_toArray, List.set_cons_zero, List.set_cons_succ]
    refine plan_take _ (.bool true) rfl (.inl ⟨by rfl, fun W hS => by clear hS; go_simp; try with_reducible rfl⟩) ?_
    try simp only [Act.put, List.setIfInBounds_toArray, List.set_cons_zero, List.set_cons_succ]
    iterate 3
      first
        | (refine plan_pass _ rfl (by rfl) ?_)
        | (refine plan_take _ _ rfl (.inl ⟨by rfl, fun W hS => by clear hS; go_simp; try with_reducible rfl⟩) ?_)
      try simp only [Act.put, List.setIfInBounds_toArray, List.set_cons_zero, List.set_cons_succ]
    refine plan_take _ _ rfl (yields_load_mid (by rfl) 33 _ rfl gs 1 rfl (baseL C) _ Try.underlying33 rfl (base_size _) hbm) ?_
    try simp only [Act.put, List.setIfInBounds_toArray, List.set_cons_zero, List.set_cons_succ]
    refine plan_take _ _ rfl (yields_load_has (by rfl) 33 _ rfl (gc) rfl 33 (baseC (C)) _ Try.underlying33 rfl (base_size _) (fun W hW => hC.later hW)) ?_
    try simp only [Act.put, List.setIfInBounds_toArray, List.set_cons_zero, List.set_cons_succ]
    refine plan_take _ _ rfl (yields_bin_agg (by rfl) .eql 33 _ _ _ rfl (baseC (C)) (baseC (C)) rfl rfl (.bool (true)) guard_base (e2)) ?_
    try simp only [Act.put, List.setIfInBounds_toArray, List.set_cons_zero, List.set_cons_succ]
    iterate 2
      first
        | (refine plan_pass _ rfl (by rfl) ?_)
        | (refine plan_take _ _ rfl (.inl ⟨by rfl, fun W hS => by clear hS; go_simp; try with_reducible rfl⟩) ?_)
      try simp only [Act.put, List.setIfInBounds_toArray, List.set_cons_zero, List.set_cons_succ]
    refine plan_done ?_
    go_wp2_with fail
    go_ret
    exact ⟨rfl, hb.trans (hbC.mono hb.size)⟩
  · refine plan_run _ rfl (fun K hK => ?_)
    go_simp
    refine hK.out _ _ hbC ?_
    clear hK K
    try simp only [Act.put, List.setIfInBounds_toArray, List.set_cons_zero, List.set_cons_succ]
    refine plan_either ?_ ?_
    · refine plan_run _ rfl (fun K hK => ?_)
      go_simp
      refine hK.out _ _ hbC ?_
      clear hK K
      try simp only [Act.put, List.setIfInBounds_toArray, List.set_cons_zero, List.set_cons_succ]
      refine plan_min _ rfl (by rfl) _ _ _ rfl _ _ _ _ (m : Int) rfl rfl hmin.out hbC ?_
      try simp only [Act.put, List.setIfInBounds_toArray, List.set_cons_zero, List.set_cons_succ]
      refine plan_take _ (.bool true) rfl (.inl ⟨by rfl, fun W hS => by clear hS; go_simp; try with_reducible rfl⟩) ?_
      try simp only [Act.put, List.setIfInBounds_toArray, List.set_cons_zero, List.set_cons_succ]
      iterate 4
        first
          | (refine plan_pass _ rfl (by rfl) ?_)
          | (refine plan_take _ _ rfl (.inl ⟨by rfl, fun W hS => by clear hS; go_simp; try with_reducible rfl⟩) ?_)
        try simp only [Act.put, List.setIfInBounds_toArray, List.set_cons_zero, List.set_cons_succ]
      iterate 1
        first
          | (refine plan_pass _ rfl (by rfl) ?_)
          | (refine plan_take _ _ rfl (.inl ⟨by rfl, fun W hS => by have z0 := htn W hS; go_simp; try with_reducible rfl⟩) ?_)
        try simp only [Act.put, List.setIfInBounds_toArray, List.set_cons_zero, List.set_cons_succ]
      refine plan_take _ (.int .i64 ((k : Nat) : Int)) rfl (.inl ⟨by rfl, fun W hS => by clear hS; go_simp; exact i64_small _ (by omega)⟩) ?_
      try simp only [Act.put, List.setIfInBounds_toArray, List.set_cons_zero, List.set_cons_succ]
      iterate 1
        first
          | (refine plan_pass _ rfl (by rfl) ?_)
          | (refine plan_take _ _ rfl (.inl ⟨by rfl, fun W hS => by clear hS; go_simp; try with_reducible rfl⟩) ?_)
        try simp only [Act.put, List.setIfInBounds_toArray, List.set_cons_zero, List.set_cons_succ]
      refine plan_take _ (.bool true) rfl (.inl ⟨by rfl, fun W hS => by clear hS; go_simp; try with_reducible rfl⟩) ?_
      try simp only [Act.put, List.setIfInBounds_toArray, List.set_cons_zero, List.set_cons_succ]
      iterate 3
        first
          | (refine plan_pass _ rfl (by rfl) ?_)
          | (refine plan_take _ _ rfl (.inl ⟨by rfl, fun W hS => by clear hS; go_simp; try with_reducible rfl⟩) ?_)
        try simp only [Act.put, List.setIfInBounds_toArray, List.set_cons_zero, List.set_cons_succ]
      refine plan_take _ _ rfl (yields_load_mid (by rfl) 33 _ rfl gs 1 rfl (baseL C) _ Try.underlying33 rfl (base_size _) hbm) ?_
      try simp only [Act.put, List.setIfInBounds_toArray, List.set_cons_zero, List.set_cons_succ]
      refine plan_take _ _ rfl (yields_load_has (by rfl) 33 _ rfl (gc) rfl 33 (baseC (C)) _ Try.underlying33 rfl (base_size _) (fun W hW => hC.later hW)) ?_
      try simp only [Act.put, List.setIfInBounds_toArray, List.set_cons_zero, List.set_cons_succ]
      refine plan_take _ _ rfl (yields_bin_agg (by rfl) .eql 33 _ _ _ rfl (baseC (C)) (baseC (C)) rfl rfl (.bool (true)) guard_base (e2)) ?_
      try simp only [Act.put, List.setIfInBounds_toArray, List.set_cons_zero, List.set_cons_succ]
      iterate 2
        first
          | (refine plan_pass _ rfl (by rfl) ?_)
          | (refine plan_take _ _ rfl (.inl ⟨by rfl, fun W hS => by clear hS; go_simp; try with_reducible rfl⟩) ?_)
        try simp only [Act.put, List.setIfInBounds_toArray, List.set_cons_zero, List.set_cons_succ]
      refine plan_done ?_
      go_wp2_with fail
      go_ret
      exact ⟨rfl, hb.trans (hbC.mono hb.size)⟩
    · refine plan_min _ rfl (by rfl) _ _ _ rfl _ _ _ _ (m : Int) rfl rfl hmin.out hbC ?_
      try simp only [Act.put, List.setIfInBounds_toArray, List.set_cons_zero, List.set_cons_succ]
      refine plan_run _ rfl (fun K hK => ?_)
      go_simp
      refine hK.out _ _ hbC ?_
      clear hK K
      try simp only [Act.put, List.setIfInBounds_toArray, List.set_cons_zero, List.set_cons_succ]
      refine plan_take _ (.bool true) rfl (.inl ⟨by rfl, fun W hS => by clear hS; go_simp; try with_reducible rfl⟩) ?_
      try simp only [Act.put, List.setIfInBounds_toArray, List.set_cons_zero, List.set_cons_succ]
      iterate 4
        first
          | (refine plan_pass _ rfl (by rfl) ?_)
          | (refine plan_take _ _ rfl (.inl ⟨by rfl, fun W hS => by clear hS; go_simp; try with_reducible rfl⟩) ?_)
        try simp only [Act.put, List.setIfInBounds_toArray, List.set_cons_zero, List.set_cons_succ]
      iterate 1
        first
          | (refine plan_pass _ rfl (by rfl) ?_)
          | (refine plan_take _ _ rfl (.inl ⟨by rfl, fun W hS => by have z0 := htn W hS; go_simp; try with_reducible rfl⟩) ?_)
        try simp only [Act.put, List.setIfInBounds_toArray, List.set_cons_zero, List.set_cons_succ]
      refine plan_take _ (.int .i64 ((k : Nat) : Int)) rfl (.inl ⟨by rfl, fun W hS => by clear hS; go_simp; exact i64_small _ (by omega)⟩) ?_
      try simp only [Act.put, List.setIfInBounds_toArray, List.set_cons_zero, List.set_cons_succ]
      iterate 1
        first
          | (refine plan_pass _ rfl (by rfl) ?_)
          | (refine plan_take _ _ rfl (.inl ⟨by rfl, fun W hS => by clear hS; go_simp; try with_reducible rfl⟩) ?_)
        try simp only [Act.put, List.setIfInBounds_toArray, List.set_cons_zero, List.set_cons_succ]
      refine plan_take _ (.bool true) rfl (.inl ⟨by rfl, fun W hS => by clear hS; go_simp; try with_reducible rfl⟩) ?_
      try simp only [Act.put, List.setIfInBounds_toArray, List.set_cons_zero, List.set_cons_succ]
      iterate 3
        first
          | (refine plan_pass _ rfl (by rfl) ?_)
          | (refine plan_take _ _ rfl (.inl ⟨by rfl, fun W hS => by clear hS; go_simp; try with_reducible rfl⟩) ?_)
        try simp only [Act.put, List.setIfInBounds_toArray, List.set_cons_zero, List.set_cons_succ]
      refine plan_take _ _ rfl (yields_load_mid (by rfl) 33 _ rfl gs 1 rfl (baseL C) _ Try.underlying33 rfl (base_size _) hbm) ?_
      try simp only [Act.put, List.setIfInBounds_toArray, List.set_cons_zero, List.set_cons_succ]
      refine plan_take _ _ rfl (yields_load_has (by rfl) 33 _ rfl (gc) rfl 33 (baseC (C)) _ Try.underlying33 rfl (base_size _) (fun W hW => hC.later hW)) ?_
      try simp only [Act.put, List.setIfInBounds_toArray, List.set_cons_zero, List.set_cons_succ]
      refine plan_take _ _ rfl (yields_bin_agg (by rfl) .eql 33 _ _ _ rfl (baseC (C)) (baseC (C)) rfl rfl (.bool (true)) guard_base (e2)) ?_
      try simp only [Act.put, List.setIfInBounds_toArray, List.set_cons_zero, List.set_cons_succ]
      iterate 2
        first
          | (refine plan_pass _ rfl (by rfl) ?_)
          | (refine plan_take _ _ rfl (.inl ⟨by rfl, fun W hS => by clear hS; go_simp; try with_reducible rfl⟩) ?_)
        try simp only [Act.put, List.setIfInBounds_toArray, List.set_cons_zero, List.set_cons_succ]
      refine plan_done ?_
      go_wp2_with fail
      go_ret
      exact ⟨rfl, hb.trans (hbC.mono hb.size)⟩
end Go.Proofs.Ytkkjdihmjcaibaa
