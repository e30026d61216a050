/- LogTails, walked. -/
import Derived.Test.YtkkjdihmjcaibaaTailsFacts
namespace Go.Proofs.Ytkkjdihmjcaibaa
set_option linter.unusedSimpArgs false
set_option linter.unusedVariables false
set_option maxRecDepth 100000
open Go.RowKit

set_option maxHeartbeats 4000000 in
theorem tails_walk (ao : Option Addr) (c a b : Nat) (l : List OpV) (o : OpV) (w : World) (h : Sl w ao c 6 (opR l)) (hl : ∀ x ∈ l, OpOk x) (ho : OpOk o) (ha : a < 256) (hb' : b < 256) :
    Calls Try.prog 8 #[.slice ao l.length c, .int .u8 (a : Int), .int .u8 (b : Int), .agg (opC o)] w fun e w' => e = .returned (.bool true) ∧ Below w.heap.size w w' := by
  have hle := h.op_le
  have hcap := h.cap
  obtain ⟨w0, hw0, hO, hb0⟩ := one_var w 35 (opC o)
  go_enter Try.func8, Try.ntmps8
  go_wp2_with fail
  refine (known_any _).mono ?_
  rintro e w1 ⟨rfl, hq⟩
  have hb := hb0.trans (hq.mono hb0.size)
  replace hO := hO.later hq
  clear hq hw0 hb0
  by_cases hlong : 20 < l.length
  · have hI : (20 : Int) < (l.length : Int) := by omega
    clear hlong
    go_wp2_with fail
    go_ret
    exact ⟨rfl, hb⟩
  have hI : ¬ ((20 : Int) < (l.length : Int)) := by omega
  have hl60 : l.length ≤ 60 := by omega
  have hlB : l.length ≤ 20 := by omega
  clear hlong
  go_wp2_with fail
  refine (row_any ao c 1 l _ (h.later hb) hl hl60 (by omega)).mono ?_
  rintro e w2 ⟨ro, rc, bo, bc, rfl, hS8, _, hD6, _, hq⟩
  replace hb := hb.trans (hq.mono hb.size)
  replace hO := hO.later hq
  have hDw := filter_writes l
  have hDo := filter_ok hl
  have hD60 : (l.filter writesM).length ≤ 20 := Nat.le_trans (filter_len l) hlB
  have hD60I : ((l.filter writesM).length : Int) ≤ 20 := by omega
  have hRS := rowState (q := 1 % 60 + 1) (D := l.filter writesM) (by omega) hDw hDo (by omega)
  clear hq
  generalize stOf (1 % 60 + 1) (l.filter writesM) = S at *
  have hq60 : 1 % 60 + 1 ≤ 60 := by omega
  generalize 1 % 60 + 1 = q at *
  generalize l.filter writesM = D at *
  have hDc := hD6.op_le
  have hDcap := hD6.cap
  have hSo := hRS.ok
  have hSi : Hid _ := hRS.is'
  have hSf : Hid _ := hRS.fold
  have hSh : Hid _ := hRS.head
  have hSl : Hid _ := hRS.len
  have hSt : Hid _ := hRS.tail
  have hSb : Hid _ := hRS.base
  have hSe : Hid _ := hRS.eq
  clear hRS
  obtain ⟨w3, hw3, hX, hq⟩ := new_var w2 40 (stC st0 none 0) (stC S ro rc)
  replace hS8 := hS8.later hq
  replace hD6 := hD6.later hq
  replace hO := hO.later hq
  replace hb := hb.trans (hq.mono hb.size)
  clear hq
  go_wp2_with (first
    | (refine wpList_alloc_has (by rfl) 40 rfl (stC st0 none 0) st_zero ?_)
    | (refine wpList_store_to (by rfl) 40 _ _ rfl w2.heap.size rfl (stC S ro rc) rfl 40 (stC st0 none 0) (st_size _ _ _) (st_same _ _ _ _ _ _) (st_one _ _ _) ?hg w3 ?hW ?_; (case hg => exact Has.new _ _ _); (case hW => exact hw3); clear hw3; generalize w2.heap.size = gs at *)
    | (refine wpList_load_has (by rfl) 40 _ rfl (gs) rfl 40 (stC S ro rc) _ Try.underlying40 rfl (st_size _ _ _) ?hg ?_; (case hg => exact hX)))
  refine (head_any S ro rc _ hSo hS8).mono ?_
  rintro e w4 ⟨rfl, hq⟩
  rw [hSh.out]
  replace hX := hX.later hq
  replace hS8 := hS8.later hq
  replace hO := hO.later hq
  replace hb := hb.trans (hq.mono hb.size)
  clear hq hD6
  generalize (posQ q D.length).since = ps at *
  obtain ⟨t, ht⟩ : ∃ t, t = D.length - 6 := ⟨_, rfl⟩
  obtain ⟨m, hm⟩ : ∃ m, D.length = t + m := ⟨D.length - t, by omega⟩
  obtain ⟨sp, hsp⟩ : ∃ sp, m + 1 = sp := ⟨_, rfl⟩
  obtain ⟨r1, hr1⟩ : ∃ r, a % sp = r := ⟨_, rfl⟩
  obtain ⟨r2, hr2⟩ : ∃ r, b % sp = r := ⟨_, rfl⟩
  have hr1m : r1 < sp := hr1 ▸ Nat.mod_lt _ (by omega)
  have hr2m : r2 < sp := hr2 ▸ Nat.mod_lt _ (by omega)
  obtain ⟨x, hx⟩ : ∃ x, t + r1 = x := ⟨_, rfl⟩
  obtain ⟨y, hy⟩ : ∃ y, t + r2 = y := ⟨_, rfl⟩
  obtain ⟨n1, hn1⟩ : ∃ n1, D.length + 1 = n1 := ⟨_, rfl⟩
  have heo : EntOk ⟨50, n1, o⟩ := ⟨by show 50 < _; decide, by show n1 < _; omega, ho⟩
  have hTS := fun x y h1 h2 h3 => tailState (x := x) (y := y) hSe.out hq60 hDw hDo (by omega) h1 h2 h3 heo
  have hxl : D.length - 6 ≤ x := by omega
  have hyl : D.length - 6 ≤ y := by omega
  have hxu : x ≤ D.length := by omega
  have hyu : y ≤ D.length := by omega
  have hn1b : n1 < 1000 := by omega
  have hspb : Hid (0 < sp ∧ sp < 100) := show _ from ⟨by omega, by omega⟩
  have htn : ∀ W, Has W gs 40 (stC S ro rc) → W.cell? ⟨gs, 41, none⟩ = some (.int .u32 (t : Int)) := fun W hW => by
    have := hW.st_tail_n
    rw [hSt.out, ← ht] at this
    exact this
  have c41 := htn _ hX
  have htb : Hid (t < 100 ∧ m < 100) := show _ from ⟨by omega, by omega⟩
  have hmH : Hid _ := hm
  have hspH : Hid _ := hsp
  have hr1H : Hid _ := hr1
  have hr2H : Hid _ := hr2
  have hxH : Hid _ := hx
  have hyH : Hid _ := hy
  have hn1H : Hid _ := hn1
  clear hm ht hsp hr1 hr2 hr1m hr2m hx hy hn1
  go_wp2_with (first
    | (refine wpList_val (.int .u32 (m : Int)) (by rfl) (run_sub_u32 _ _ _ _ rfl D.length t m rfl rfl hmH.out (by have := htb.out.2; omega)) ?_)
    | (refine wpList_val (.int .u32 (sp : Int)) (by rfl) (run_add_u32 _ _ _ _ rfl m 1 sp rfl rfl hspH.out (by have := hspb.out.2; omega)) ?_))
  have hbA : Below w4.heap.size w4 w4.drew := (Below.refl _ _).drew
  refine wp_region_plan (fun W => Below w4.heap.size w4 W) (Plan.of [(0, true), (1, true), (2, true), (3, true), (4, true), (5, true), (6, true), (7, true), (8, true), (9, true), (10, true), (11, true), (12, true), (13, true), (14, true), (15, true), (16, true), (17, true)] .done) (by kernel_rfl) (by kernel_rfl) (by kernel_rfl) (by kernel_rfl) hbA ?_
  iterate 2
    first
      | (refine plan_pass _ rfl (by rfl) ?_)
      | (refine plan_take _ _ rfl (.inl ⟨by rfl, fun W hS => by clear hS; go_simp; try with_reducible rfl⟩) ?_)
    try simp only [Act.put, List.setIfInBounds_toArray, List.set_cons_zero, List.set_cons_succ]
  iterate 1
    first
      | (refine plan_pass _ rfl (by rfl) ?_)
      | (refine plan_take _ _ rfl (.inl ⟨by rfl, fun W hS => by have z0 := htn W (hX.later hS); go_simp; try with_reducible rfl⟩) ?_)
    try simp only [Act.put, List.setIfInBounds_toArray, List.set_cons_zero, List.set_cons_succ]
  iterate 1
    first
      | (refine plan_pass _ rfl (by rfl) ?_)
      | (refine plan_take _ _ rfl (.inl ⟨by rfl, fun W hS => by clear hS; go_simp; try with_reducible rfl⟩) ?_)
    try simp only [Act.put, List.setIfInBounds_toArray, List.set_cons_zero, List.set_cons_succ]
  refine plan_take _ (.int .u32 (a : Int)) rfl (.inl ⟨by rfl, fun W hS => by clear hS; go_simp; exact u32_small _ (by omega)⟩) ?_
  try simp only [Act.put, List.setIfInBounds_toArray, List.set_cons_zero, List.set_cons_succ]
  iterate 1
    first
      | (refine plan_pass _ rfl (by rfl) ?_)
      | (refine plan_take _ _ rfl (.inl ⟨by rfl, fun W hS => by clear hS; go_simp; try with_reducible rfl⟩) ?_)
    try simp only [Act.put, List.setIfInBounds_toArray, List.set_cons_zero, List.set_cons_succ]
  refine plan_take _ (.int .u32 (r1 : Int)) rfl (.inl ⟨by rfl, fun W _ => run_rem_u32 _ _ _ _ rfl a sp r1 rfl rfl (by omega) hspb.out.1 hr1H.out W⟩) ?_
  try simp only [Act.put, List.setIfInBounds_toArray, List.set_cons_zero, List.set_cons_succ]
  refine plan_take _ (.int .u32 (x : Int)) rfl (.inl ⟨by rfl, fun W _ => run_add_u32 _ _ _ _ rfl t r1 x rfl rfl hxH.out (by omega) W⟩) ?_
  try simp only [Act.put, List.setIfInBounds_toArray, List.set_cons_zero, List.set_cons_succ]
  iterate 2
    first
      | (refine plan_pass _ rfl (by rfl) ?_)
      | (refine plan_take _ _ rfl (.inl ⟨by rfl, fun W hS => by clear hS; go_simp; try with_reducible rfl⟩) ?_)
    try simp only [Act.put, List.setIfInBounds_toArray, List.set_cons_zero, List.set_cons_succ]
  iterate 1
    first
      | (refine plan_pass _ rfl (by rfl) ?_)
      | (refine plan_take _ _ rfl (.inl ⟨by rfl, fun W hS => by have z0 := htn W (hX.later hS); go_simp; try with_reducible rfl⟩) ?_)
    try simp only [Act.put, List.setIfInBounds_toArray, List.set_cons_zero, List.set_cons_succ]
  iterate 1
    first
      | (refine plan_pass _ rfl (by rfl) ?_)
      | (refine plan_take _ _ rfl (.inl ⟨by rfl, fun W hS => by clear hS; go_simp; try with_reducible rfl⟩) ?_)
    try simp only [Act.put, List.setIfInBounds_toArray, List.set_cons_zero, List.set_cons_succ]
  refine plan_take _ (.int .u32 (b : Int)) rfl (.inl ⟨by rfl, fun W hS => by clear hS; go_simp; exact u32_small _ (by omega)⟩) ?_
  try simp only [Act.put, List.setIfInBounds_toArray, List.set_cons_zero, List.set_cons_succ]
  iterate 1
    first
      | (refine plan_pass _ rfl (by rfl) ?_)
      | (refine plan_take _ _ rfl (.inl ⟨by rfl, fun W hS => by clear hS; go_simp; try with_reducible rfl⟩) ?_)
    try simp only [Act.put, List.setIfInBounds_toArray, List.set_cons_zero, List.set_cons_succ]
  refine plan_take _ (.int .u32 (r2 : Int)) rfl (.inl ⟨by rfl, fun W _ => run_rem_u32 _ _ _ _ rfl b sp r2 rfl rfl (by omega) hspb.out.1 hr2H.out W⟩) ?_
  try simp only [Act.put, List.setIfInBounds_toArray, List.set_cons_zero, List.set_cons_succ]
  refine plan_take _ (.int .u32 (y : Int)) rfl (.inl ⟨by rfl, fun W _ => run_add_u32 _ _ _ _ rfl t r2 y rfl rfl hyH.out (by omega) W⟩) ?_
  try simp only [Act.put, List.setIfInBounds_toArray, List.set_cons_zero, List.set_cons_succ]
  iterate 2
    first
      | (refine plan_pass _ rfl (by rfl) ?_)
      | (refine plan_take _ _ rfl (.inl ⟨by rfl, fun W hS => by clear hS; go_simp; try with_reducible rfl⟩) ?_)
    try simp only [Act.put, List.setIfInBounds_toArray, List.set_cons_zero, List.set_cons_succ]
  refine plan_done ?_
  replace hX := hX.later hbA
  replace hS8 := hS8.later hbA
  replace hO := hO.later hbA
  replace hb := hb.trans (hbA.mono hb.size)
  generalize w4.drew = w5 at *
  clear hbA c41 htn hmH hspH hr1H hr2H hxH hyH htb hspb
  rcases Nat.lt_trichotomy x y with hxy | hxy | hxy
  · have i1 : ¬ ((y : Int) < (x : Int)) := by omega
    have i2 : ((x : Int) == (y : Int)) = false := by rw [beq_eq_false_iff_ne]; omega
    have i3 : (x == y) = false := by rw [beq_eq_false_iff_ne]; omega
    obtain ⟨T, V, A, B, G, hTS⟩ := hTS x y hxl (by omega) hyu
    have herr : Hid _ := hTS.t5 hxy
    clear hxy
    have ht1 : Hid _ := hTS.t1
    have ht2 : Hid _ := hTS.t2
    have ht3 : Hid _ := hTS.t3
    have hTo := hTS.okT
    have hVo := hTS.okV
    have hAo := hTS.okA
    have hBo := hTS.okB
    have haA : Hid _ := hTS.a
    have haB : Hid _ := hTS.b
    have hAB : Hid _ := hTS.err
    have hfA : Hid _ := hTS.fA
    have hfB : Hid _ := hTS.fB
    have hGo := hTS.okG
    clear hTS
    go_wp2_with (first
      | (refine wpList_load_has (by rfl) 40 _ rfl (gs) rfl 40 (stC S ro rc) _ Try.underlying40 rfl (st_size _ _ _) ?hg ?_; (case hg => exact hX)))
    refine (tail_any S ro rc (x) _ hSo hS8 (by omega)).mono ?_
    rintro e w6 ⟨xo, xc, rfl, hG⟩
    rw [ht1.out] at hG
    rw [ht1.out]
    have hT8 := hG.sl
    replace hX := hX.later hG.below
    replace hS8 := hS8.later hG.below
    replace hO := hO.later hG.below
    replace hb := hb.trans (hG.below.mono hb.size)
    clear hG
    obtain ⟨w7, hw7, hT, hq⟩ := new_var w6 40 (stC st0 none 0) (stC T xo xc)
    replace hX := hX.later hq
    replace hS8 := hS8.later hq
    replace hO := hO.later hq
    replace hT8 := hT8.later hq
    replace hb := hb.trans (hq.mono hb.size)
    clear hq
    go_wp2_with (first
      | (refine wpList_alloc_has (by rfl) 40 rfl (stC st0 none 0) st_zero ?_)
      | (refine wpList_store_to (by rfl) 40 _ _ rfl w6.heap.size rfl (stC T xo xc) rfl 40 (stC st0 none 0) (st_size _ _ _) (st_same _ _ _ _ _ _) (st_one _ _ _) ?hg w7 ?hW ?_; (case hg => exact Has.new _ _ _); (case hW => exact hw7); clear hw7; generalize w6.heap.size = gt at *)
      | (refine wpList_load_has (by rfl) 40 _ rfl (gt) rfl 40 (stC T xo xc) _ Try.underlying40 rfl (st_size _ _ _) ?hg ?_; (case hg => exact hT)))
    refine (tail_any T xo xc (y) _ hTo hT8 (by omega)).mono ?_
    rintro e w8 ⟨yo, yc, rfl, hG⟩
    rw [ht2.out] at hG
    rw [ht2.out]
    have hU8 := hG.sl
    replace hX := hX.later hG.below
    replace hS8 := hS8.later hG.below
    replace hO := hO.later hG.below
    replace hb := hb.trans (hG.below.mono hb.size)
    clear hG hT hT8
    obtain ⟨w9, hw9, hU, hq⟩ := new_var w8 40 (stC st0 none 0) (stC V yo yc)
    replace hX := hX.later hq
    replace hS8 := hS8.later hq
    replace hO := hO.later hq
    replace hU8 := hU8.later hq
    replace hb := hb.trans (hq.mono hb.size)
    clear hq
    go_wp2_with (first
      | (refine wpList_alloc_has (by rfl) 40 rfl (stC st0 none 0) st_zero ?_)
      | (refine wpList_store_to (by rfl) 40 _ _ rfl w8.heap.size rfl (stC V yo yc) rfl 40 (stC st0 none 0) (st_size _ _ _) (st_same _ _ _ _ _ _) (st_one _ _ _) ?hg w9 ?hW ?_; (case hg => exact Has.new _ _ _); (case hW => exact hw9); clear hw9; generalize w8.heap.size = gu at *)
      | (refine wpList_load_has (by rfl) 40 _ rfl (gs) rfl 40 (stC S ro rc) _ Try.underlying40 rfl (st_size _ _ _) ?hg ?_; (case hg => exact hX)))
    refine (tail_any S ro rc (y) _ hSo hS8 (by omega)).mono ?_
    rintro e wa ⟨zo, zc, rfl, hG⟩
    rw [ht3.out] at hG
    rw [ht3.out]
    have hV8 := hG.sl
    replace hX := hX.later hG.below
    replace hS8 := hS8.later hG.below
    replace hO := hO.later hG.below
    replace hU := hU.later hG.below
    replace hU8 := hU8.later hG.below
    replace hb := hb.trans (hG.below.mono hb.size)
    clear hG
    obtain ⟨wb, hwb, hV, hq⟩ := new_var wa 40 (stC st0 none 0) (stC V zo zc)
    replace hX := hX.later hq
    replace hS8 := hS8.later hq
    replace hO := hO.later hq
    replace hU := hU.later hq
    replace hU8 := hU8.later hq
    replace hV8 := hV8.later hq
    replace hb := hb.trans (hq.mono hb.size)
    clear hq
    go_wp2_with (first
      | (refine wpList_alloc_has (by rfl) 40 rfl (stC st0 none 0) st_zero ?_)
      | (refine wpList_store_to (by rfl) 40 _ _ rfl wa.heap.size rfl (stC V zo zc) rfl 40 (stC st0 none 0) (st_size _ _ _) (st_same _ _ _ _ _ _) (st_one _ _ _) ?hg wb ?hW ?_; (case hg => exact Has.new _ _ _); (case hW => exact hwb); clear hwb; generalize wa.heap.size = gv at *)
      | (refine wpList_load_has (by rfl) 40 _ rfl (gu) rfl 40 (stC V yo yc) _ Try.underlying40 rfl (st_size _ _ _) ?hg ?_; (case hg => exact hU))
      | (refine wpList_load_has (by rfl) 40 _ rfl (gv) rfl 40 (stC V zo zc) _ Try.underlying40 rfl (st_size _ _ _) ?hg ?_; (case hg => exact hV)))
    refine (same_any V V yo zo yc zc _ hVo hVo hU8 hV8).mono ?_
    rintro e wc ⟨rfl, hq⟩
    rw [same_self]
    replace hX := hX.later hq
    replace hS8 := hS8.later hq
    replace hO := hO.later hq
    replace hV := hV.later hq
    replace hV8 := hV8.later hq
    replace hb := hb.trans (hq.mono hb.size)
    clear hq hU hU8
    go_wp2_with (first
      | (refine wpList_load_has (by rfl) 40 _ rfl (gv) rfl 40 (stC V zo zc) _ Try.underlying40 rfl (st_size _ _ _) ?hg ?_; (case hg => exact hV)))
    refine (tail_any V zo zc (x) _ hVo hV8 (by omega)).mono ?_
    rintro e wd ⟨uo, uc, rfl, hG⟩
    rw [herr.out] at hG
    rw [herr.out]
    replace hX := hX.later hG.below
    replace hS8 := hS8.later hG.below
    replace hO := hO.later hG.below
    replace hV := hV.later hG.below
    replace hV8 := hV8.later hG.below
    replace hb := hb.trans (hG.below.mono hb.size)
    clear hG
    obtain ⟨we, hwe, hZ, hq⟩ := new_var wd 40 (stC st0 none 0) (stC (st0) uo uc)
    replace hX := hX.later hq
    replace hS8 := hS8.later hq
    replace hO := hO.later hq
    replace hV := hV.later hq
    replace hV8 := hV8.later hq
    replace hb := hb.trans (hq.mono hb.size)
    clear hq
    go_wp2_with (first
      | (refine wpList_alloc_has (by rfl) 40 rfl (stC st0 none 0) st_zero ?_)
      | (refine wpList_store_to (by rfl) 40 _ _ rfl wd.heap.size rfl (stC (st0) uo uc) rfl 40 (stC st0 none 0) (st_size _ _ _) (st_same _ _ _ _ _ _) (st_one _ _ _) ?hg we ?hW ?_; (case hg => exact Has.new _ _ _); (case hW => exact hwe); clear hwe; generalize wd.heap.size = gz at *)
      | (refine wpList_load_has (by rfl) 40 _ rfl (gv) rfl 40 (stC V zo zc) _ Try.underlying40 rfl (st_size _ _ _) ?hg ?_; (case hg => exact hV))
      | (refine wpList_val (.int .u32 (n1 : Int)) (by rfl) (run_add_u32 _ _ _ _ rfl D.length 1 n1 rfl rfl hn1H.out (by omega)) ?_)
      | (refine wpList_load_has (by rfl) 35 _ rfl w.heap.size rfl 35 (opC o) _ Try.underlying35 rfl (op_size _) ?hg ?_; (case hg => exact hO))
      | (refine wpList_build_three (by rfl) 37 0 1 2 _ _ _ rfl (.int .u32 50) (.int .u32 (n1 : Int)) (.agg (opC o)) rfl rfl rfl (entC ⟨50, n1, o⟩) (ent_built 50 _ _) ?_))
    refine (add_any V zo zc ⟨50, n1, o⟩ _ hVo heo hV8).mono ?_
    rintro e wf ⟨qo, qc, rfl, hG⟩
    rw [haA.out] at hG
    rw [haA.out]
    have hA8 := hG.sl
    replace hX := hX.later hG.below
    replace hS8 := hS8.later hG.below
    replace hO := hO.later hG.below
    replace hb := hb.trans (hG.below.mono hb.size)
    clear hG hZ hV hV8
    obtain ⟨wg, hwg, hA, hq⟩ := new_var wf 40 (stC st0 none 0) (stC A.1 qo qc)
    replace hX := hX.later hq
    replace hS8 := hS8.later hq
    replace hO := hO.later hq
    replace hA8 := hA8.later hq
    replace hb := hb.trans (hq.mono hb.size)
    clear hq
    go_wp2_with (first
      | (refine wpList_alloc_has (by rfl) 40 rfl (stC st0 none 0) st_zero ?_)
      | (refine wpList_store_to (by rfl) 40 _ _ rfl wf.heap.size rfl (stC A.1 qo qc) rfl 40 (stC st0 none 0) (st_size _ _ _) (st_same _ _ _ _ _ _) (st_one _ _ _) ?hg wg ?hW ?_; (case hg => exact Has.new _ _ _); (case hW => exact hwg); clear hwg; generalize wf.heap.size = ga at *)
      | (refine wpList_load_has (by rfl) 40 _ rfl (gs) rfl 40 (stC S ro rc) _ Try.underlying40 rfl (st_size _ _ _) ?hg ?_; (case hg => exact hX))
      | (refine wpList_val (.int .u32 (n1 : Int)) (by rfl) (run_add_u32 _ _ _ _ rfl D.length 1 n1 rfl rfl hn1H.out (by omega)) ?_)
      | (refine wpList_load_has (by rfl) 35 _ rfl w.heap.size rfl 35 (opC o) _ Try.underlying35 rfl (op_size _) ?hg ?_; (case hg => exact hO))
      | (refine wpList_build_three (by rfl) 37 0 1 2 _ _ _ rfl (.int .u32 50) (.int .u32 (n1 : Int)) (.agg (opC o)) rfl rfl rfl (entC ⟨50, n1, o⟩) (ent_built 50 _ _) ?_))
    refine (add_any S ro rc ⟨50, n1, o⟩ _ hSo heo hS8).mono ?_
    rintro e wh ⟨po, pc, rfl, hG⟩
    rw [haB.out] at hG
    rw [haB.out, hAB.out]
    have hB8 := hG.sl
    replace hA := hA.later hG.below
    replace hA8 := hA8.later hG.below
    replace hb := hb.trans (hG.below.mono hb.size)
    clear hG hX hS8 hO
    obtain ⟨wi, hwi, hB, hq⟩ := new_var wh 40 (stC st0 none 0) (stC B.1 po pc)
    replace hA := hA.later hq
    replace hA8 := hA8.later hq
    replace hB8 := hB8.later hq
    replace hb := hb.trans (hq.mono hb.size)
    clear hq
    have e1 := fun W => eq_base G hGo W
    go_wp2_with (first
      | (refine wpList_alloc_has (by rfl) 40 rfl (stC st0 none 0) st_zero ?_)
      | (refine wpList_store_to (by rfl) 40 _ _ rfl wh.heap.size rfl (stC B.1 po pc) rfl 40 (stC st0 none 0) (st_size _ _ _) (st_same _ _ _ _ _ _) (st_one _ _ _) ?hg wi ?hW ?_; (case hg => exact Has.new _ _ _); (case hW => exact hwi); clear hwi; generalize wh.heap.size = gb at *)
      | fail)
    have hbA : Below wi.heap.size wi wi.drew := (Below.refl _ _).drew
    refine wp_region_plan (fun W => Below wi.heap.size wi W) (Plan.of [(0, true), (1, true), (2, true), (3, true), (4, true), (6, true), (5, false), (7, false), (8, true), (9, true), (10, true)] .done) (by kernel_rfl) (by kernel_rfl) (by kernel_rfl) (by kernel_rfl) hbA ?_
    iterate 2
      first
        | (refine plan_pass _ rfl (by rfl) ?_)
        | (refine plan_take _ _ rfl (.inl ⟨by rfl, fun W hS => by clear hS; go_simp; try with_reducible rfl⟩) ?_)
      try simp only [Act.put, List.setIfInBounds_toArray, List.set_cons_zero, List.set_cons_succ]
    refine plan_take _ (.bool true) rfl (.inl ⟨by rfl, fun W hS => by clear hS; go_simp; try with_reducible rfl⟩) ?_
    try simp only [Act.put, List.setIfInBounds_toArray, List.set_cons_zero, List.set_cons_succ]
    iterate 1
      first
        | (refine plan_pass _ rfl (by rfl) ?_)
        | (refine plan_take _ _ rfl (.inl ⟨by rfl, fun W hS => by clear hS; go_simp; try with_reducible rfl⟩) ?_)
      try simp only [Act.put, List.setIfInBounds_toArray, List.set_cons_zero, List.set_cons_succ]
    refine plan_take _ _ rfl (yields_load_has (by rfl) 40 _ rfl (ga) rfl 40 (stC A.1 qo qc) _ Try.underlying40 rfl (st_size _ _ _) (fun W hW => hA.later hW)) ?_
    try simp only [Act.put, List.setIfInBounds_toArray, List.set_cons_zero, List.set_cons_succ]
    refine plan_take _ _ rfl (yields_load_has (by rfl) 40 _ rfl (gb) rfl 40 (stC B.1 po pc) _ Try.underlying40 rfl (st_size _ _ _) (fun W hW => hB.later hW)) ?_
    try simp only [Act.put, List.setIfInBounds_toArray, List.set_cons_zero, List.set_cons_succ]
    refine plan_run _ rfl (fun K hK => ?_)
    go_simp
    refine (fold_any A.1 qo qc _ hAo (hA8.later hbA)).mono ?_
    rintro e wj ⟨rfl, hq⟩
    rw [hfA.out]
    have hbB : Below _ _ wj := hbA.trans (hq.mono hbA.size)
    refine hK.out _ _ hbB ?_
    clear hK K hq
    try simp only [Act.put, List.setIfInBounds_toArray, List.set_cons_zero, List.set_cons_succ]
    refine plan_run _ rfl (fun K hK => ?_)
    go_simp
    refine (fold_any B.1 po pc _ hBo (hB8.later hbB)).mono ?_
    rintro e wk ⟨rfl, hq⟩
    rw [hfB.out]
    have hbC : Below _ _ wk := hbB.trans (hq.mono hbB.size)
    refine hK.out _ _ hbC ?_
    clear hK K hq
    try simp only [Act.put, List.setIfInBounds_toArray, List.set_cons_zero, List.set_cons_succ]
    refine plan_take _ _ rfl (yields_bin_agg (by rfl) .eql 33 _ _ _ rfl (baseC (G)) (baseC (G)) rfl rfl (.bool (true)) guard_base (e1)) ?_
    try simp only [Act.put, List.setIfInBounds_toArray, List.set_cons_zero, List.set_cons_succ]
    iterate 2
      first
        | (refine plan_pass _ rfl (by rfl) ?_)
        | (refine plan_take _ _ rfl (.inl ⟨by rfl, fun W hS => by clear hS; go_simp; try with_reducible rfl⟩) ?_)
      try simp only [Act.put, List.setIfInBounds_toArray, List.set_cons_zero, List.set_cons_succ]
    refine plan_done ?_
    go_wp2_with fail
    go_ret
    exact ⟨rfl, hb.trans (hbC.mono hb.size)⟩
  · have i1 : ¬ ((x : Int) < (x : Int)) := by omega
    subst hxy
    obtain ⟨T, V, A, B, G, hTS⟩ := hTS x x hxl (by omega) hyu
    have herr : Hid _ := hTS.t4 rfl
    have ht1 : Hid _ := hTS.t1
    have ht2 : Hid _ := hTS.t2
    have ht3 : Hid _ := hTS.t3
    have hTo := hTS.okT
    have hVo := hTS.okV
    have hAo := hTS.okA
    have hBo := hTS.okB
    have haA : Hid _ := hTS.a
    have haB : Hid _ := hTS.b
    have hAB : Hid _ := hTS.err
    have hfA : Hid _ := hTS.fA
    have hfB : Hid _ := hTS.fB
    have hGo := hTS.okG
    clear hTS
    go_wp2_with (first
      | (refine wpList_load_has (by rfl) 40 _ rfl (gs) rfl 40 (stC S ro rc) _ Try.underlying40 rfl (st_size _ _ _) ?hg ?_; (case hg => exact hX)))
    refine (tail_any S ro rc (x) _ hSo hS8 (by omega)).mono ?_
    rintro e w6 ⟨xo, xc, rfl, hG⟩
    rw [ht1.out] at hG
    rw [ht1.out]
    have hT8 := hG.sl
    replace hX := hX.later hG.below
    replace hS8 := hS8.later hG.below
    replace hO := hO.later hG.below
    replace hb := hb.trans (hG.below.mono hb.size)
    clear hG
    obtain ⟨w7, hw7, hT, hq⟩ := new_var w6 40 (stC st0 none 0) (stC T xo xc)
    replace hX := hX.later hq
    replace hS8 := hS8.later hq
    replace hO := hO.later hq
    replace hT8 := hT8.later hq
    replace hb := hb.trans (hq.mono hb.size)
    clear hq
    go_wp2_with (first
      | (refine wpList_alloc_has (by rfl) 40 rfl (stC st0 none 0) st_zero ?_)
      | (refine wpList_store_to (by rfl) 40 _ _ rfl w6.heap.size rfl (stC T xo xc) rfl 40 (stC st0 none 0) (st_size _ _ _) (st_same _ _ _ _ _ _) (st_one _ _ _) ?hg w7 ?hW ?_; (case hg => exact Has.new _ _ _); (case hW => exact hw7); clear hw7; generalize w6.heap.size = gt at *)
      | (refine wpList_load_has (by rfl) 40 _ rfl (gt) rfl 40 (stC T xo xc) _ Try.underlying40 rfl (st_size _ _ _) ?hg ?_; (case hg => exact hT)))
    refine (tail_any T xo xc (x) _ hTo hT8 (by omega)).mono ?_
    rintro e w8 ⟨yo, yc, rfl, hG⟩
    rw [ht2.out] at hG
    rw [ht2.out]
    have hU8 := hG.sl
    replace hX := hX.later hG.below
    replace hS8 := hS8.later hG.below
    replace hO := hO.later hG.below
    replace hb := hb.trans (hG.below.mono hb.size)
    clear hG hT hT8
    obtain ⟨w9, hw9, hU, hq⟩ := new_var w8 40 (stC st0 none 0) (stC V yo yc)
    replace hX := hX.later hq
    replace hS8 := hS8.later hq
    replace hO := hO.later hq
    replace hU8 := hU8.later hq
    replace hb := hb.trans (hq.mono hb.size)
    clear hq
    go_wp2_with (first
      | (refine wpList_alloc_has (by rfl) 40 rfl (stC st0 none 0) st_zero ?_)
      | (refine wpList_store_to (by rfl) 40 _ _ rfl w8.heap.size rfl (stC V yo yc) rfl 40 (stC st0 none 0) (st_size _ _ _) (st_same _ _ _ _ _ _) (st_one _ _ _) ?hg w9 ?hW ?_; (case hg => exact Has.new _ _ _); (case hW => exact hw9); clear hw9; generalize w8.heap.size = gu at *)
      | (refine wpList_load_has (by rfl) 40 _ rfl (gs) rfl 40 (stC S ro rc) _ Try.underlying40 rfl (st_size _ _ _) ?hg ?_; (case hg => exact hX)))
    refine (tail_any S ro rc (x) _ hSo hS8 (by omega)).mono ?_
    rintro e wa ⟨zo, zc, rfl, hG⟩
    rw [ht3.out] at hG
    rw [ht3.out]
    have hV8 := hG.sl
    replace hX := hX.later hG.below
    replace hS8 := hS8.later hG.below
    replace hO := hO.later hG.below
    replace hU := hU.later hG.below
    replace hU8 := hU8.later hG.below
    replace hb := hb.trans (hG.below.mono hb.size)
    clear hG
    obtain ⟨wb, hwb, hV, hq⟩ := new_var wa 40 (stC st0 none 0) (stC V zo zc)
    replace hX := hX.later hq
    replace hS8 := hS8.later hq
    replace hO := hO.later hq
    replace hU := hU.later hq
    replace hU8 := hU8.later hq
    replace hV8 := hV8.later hq
    replace hb := hb.trans (hq.mono hb.size)
    clear hq
    go_wp2_with (first
      | (refine wpList_alloc_has (by rfl) 40 rfl (stC st0 none 0) st_zero ?_)
      | (refine wpList_store_to (by rfl) 40 _ _ rfl wa.heap.size rfl (stC V zo zc) rfl 40 (stC st0 none 0) (st_size _ _ _) (st_same _ _ _ _ _ _) (st_one _ _ _) ?hg wb ?hW ?_; (case hg => exact Has.new _ _ _); (case hW => exact hwb); clear hwb; generalize wa.heap.size = gv at *)
      | (refine wpList_load_has (by rfl) 40 _ rfl (gu) rfl 40 (stC V yo yc) _ Try.underlying40 rfl (st_size _ _ _) ?hg ?_; (case hg => exact hU))
      | (refine wpList_load_has (by rfl) 40 _ rfl (gv) rfl 40 (stC V zo zc) _ Try.underlying40 rfl (st_size _ _ _) ?hg ?_; (case hg => exact hV)))
    refine (same_any V V yo zo yc zc _ hVo hVo hU8 hV8).mono ?_
    rintro e wc ⟨rfl, hq⟩
    rw [same_self]
    replace hX := hX.later hq
    replace hS8 := hS8.later hq
    replace hO := hO.later hq
    replace hV := hV.later hq
    replace hV8 := hV8.later hq
    replace hb := hb.trans (hq.mono hb.size)
    clear hq hU hU8
    go_wp2_with (first
      | (refine wpList_load_has (by rfl) 40 _ rfl (gv) rfl 40 (stC V zo zc) _ Try.underlying40 rfl (st_size _ _ _) ?hg ?_; (case hg => exact hV)))
    refine (tail_any V zo zc (x) _ hVo hV8 (by omega)).mono ?_
    rintro e wd ⟨uo, uc, rfl, hG⟩
    rw [herr.out] at hG
    rw [herr.out]
    replace hX := hX.later hG.below
    replace hS8 := hS8.later hG.below
    replace hO := hO.later hG.below
    replace hV := hV.later hG.below
    replace hV8 := hV8.later hG.below
    replace hb := hb.trans (hG.below.mono hb.size)
    clear hG
    obtain ⟨we, hwe, hZ, hq⟩ := new_var wd 40 (stC st0 none 0) (stC (V) uo uc)
    replace hX := hX.later hq
    replace hS8 := hS8.later hq
    replace hO := hO.later hq
    replace hV := hV.later hq
    replace hV8 := hV8.later hq
    replace hb := hb.trans (hq.mono hb.size)
    clear hq
    go_wp2_with (first
      | (refine wpList_alloc_has (by rfl) 40 rfl (stC st0 none 0) st_zero ?_)
      | (refine wpList_store_to (by rfl) 40 _ _ rfl wd.heap.size rfl (stC (V) uo uc) rfl 40 (stC st0 none 0) (st_size _ _ _) (st_same _ _ _ _ _ _) (st_one _ _ _) ?hg we ?hW ?_; (case hg => exact Has.new _ _ _); (case hW => exact hwe); clear hwe; generalize wd.heap.size = gz at *)
      | (refine wpList_load_has (by rfl) 40 _ rfl (gv) rfl 40 (stC V zo zc) _ Try.underlying40 rfl (st_size _ _ _) ?hg ?_; (case hg => exact hV))
      | (refine wpList_val (.int .u32 (n1 : Int)) (by rfl) (run_add_u32 _ _ _ _ rfl D.length 1 n1 rfl rfl hn1H.out (by omega)) ?_)
      | (refine wpList_load_has (by rfl) 35 _ rfl w.heap.size rfl 35 (opC o) _ Try.underlying35 rfl (op_size _) ?hg ?_; (case hg => exact hO))
      | (refine wpList_build_three (by rfl) 37 0 1 2 _ _ _ rfl (.int .u32 50) (.int .u32 (n1 : Int)) (.agg (opC o)) rfl rfl rfl (entC ⟨50, n1, o⟩) (ent_built 50 _ _) ?_))
    refine (add_any V zo zc ⟨50, n1, o⟩ _ hVo heo hV8).mono ?_
    rintro e wf ⟨qo, qc, rfl, hG⟩
    rw [haA.out] at hG
    rw [haA.out]
    have hA8 := hG.sl
    replace hX := hX.later hG.below
    replace hS8 := hS8.later hG.below
    replace hO := hO.later hG.below
    replace hb := hb.trans (hG.below.mono hb.size)
    clear hG hZ hV hV8
    obtain ⟨wg, hwg, hA, hq⟩ := new_var wf 40 (stC st0 none 0) (stC A.1 qo qc)
    replace hX := hX.later hq
    replace hS8 := hS8.later hq
    replace hO := hO.later hq
    replace hA8 := hA8.later hq
    replace hb := hb.trans (hq.mono hb.size)
    clear hq
    go_wp2_with (first
      | (refine wpList_alloc_has (by rfl) 40 rfl (stC st0 none 0) st_zero ?_)
      | (refine wpList_store_to (by rfl) 40 _ _ rfl wf.heap.size rfl (stC A.1 qo qc) rfl 40 (stC st0 none 0) (st_size _ _ _) (st_same _ _ _ _ _ _) (st_one _ _ _) ?hg wg ?hW ?_; (case hg => exact Has.new _ _ _); (case hW => exact hwg); clear hwg; generalize wf.heap.size = ga at *)
      | (refine wpList_load_has (by rfl) 40 _ rfl (gs) rfl 40 (stC S ro rc) _ Try.underlying40 rfl (st_size _ _ _) ?hg ?_; (case hg => exact hX))
      | (refine wpList_val (.int .u32 (n1 : Int)) (by rfl) (run_add_u32 _ _ _ _ rfl D.length 1 n1 rfl rfl hn1H.out (by omega)) ?_)
      | (refine wpList_load_has (by rfl) 35 _ rfl w.heap.size rfl 35 (opC o) _ Try.underlying35 rfl (op_size _) ?hg ?_; (case hg => exact hO))
      | (refine wpList_build_three (by rfl) 37 0 1 2 _ _ _ rfl (.int .u32 50) (.int .u32 (n1 : Int)) (.agg (opC o)) rfl rfl rfl (entC ⟨50, n1, o⟩) (ent_built 50 _ _) ?_))
    refine (add_any S ro rc ⟨50, n1, o⟩ _ hSo heo hS8).mono ?_
    rintro e wh ⟨po, pc, rfl, hG⟩
    rw [haB.out] at hG
    rw [haB.out, hAB.out]
    have hB8 := hG.sl
    replace hA := hA.later hG.below
    replace hA8 := hA8.later hG.below
    replace hb := hb.trans (hG.below.mono hb.size)
    clear hG hX hS8 hO
    obtain ⟨wi, hwi, hB, hq⟩ := new_var wh 40 (stC st0 none 0) (stC B.1 po pc)
    replace hA := hA.later hq
    replace hA8 := hA8.later hq
    replace hB8 := hB8.later hq
    replace hb := hb.trans (hq.mono hb.size)
    clear hq
    have e1 := fun W => eq_base G hGo W
    go_wp2_with (first
      | (refine wpList_alloc_has (by rfl) 40 rfl (stC st0 none 0) st_zero ?_)
      | (refine wpList_store_to (by rfl) 40 _ _ rfl wh.heap.size rfl (stC B.1 po pc) rfl 40 (stC st0 none 0) (st_size _ _ _) (st_same _ _ _ _ _ _) (st_one _ _ _) ?hg wi ?hW ?_; (case hg => exact Has.new _ _ _); (case hW => exact hwi); clear hwi; generalize wh.heap.size = gb at *)
      | fail)
    have hbA : Below wi.heap.size wi wi.drew := (Below.refl _ _).drew
    refine wp_region_plan (fun W => Below wi.heap.size wi W) (Plan.of [(0, true), (1, true), (2, true), (3, true), (4, true), (6, true), (5, false), (7, false), (8, true), (9, true), (10, true)] .done) (by kernel_rfl) (by kernel_rfl) (by kernel_rfl) (by kernel_rfl) hbA ?_
    iterate 2
      first
        | (refine plan_pass _ rfl (by rfl) ?_)
        | (refine plan_take _ _ rfl (.inl ⟨by rfl, fun W hS => by clear hS; go_simp; try with_reducible rfl⟩) ?_)
      try simp only [Act.put, List.setIfInBounds_toArray, List.set_cons_zero, List.set_cons_succ]
    refine plan_take _ (.bool true) rfl (.inl ⟨by rfl, fun W hS => by clear hS; go_simp; try with_reducible rfl⟩) ?_
    try simp only [Act.put, List.setIfInBounds_toArray, List.set_cons_zero, List.set_cons_succ]
    iterate 1
      first
        | (refine plan_pass _ rfl (by rfl) ?_)
        | (refine plan_take _ _ rfl (.inl ⟨by rfl, fun W hS => by clear hS; go_simp; try with_reducible rfl⟩) ?_)
      try simp only [Act.put, List.setIfInBounds_toArray, List.set_cons_zero, List.set_cons_succ]
    refine plan_take _ _ rfl (yields_load_has (by rfl) 40 _ rfl (ga) rfl 40 (stC A.1 qo qc) _ Try.underlying40 rfl (st_size _ _ _) (fun W hW => hA.later hW)) ?_
    try simp only [Act.put, List.setIfInBounds_toArray, List.set_cons_zero, List.set_cons_succ]
    refine plan_take _ _ rfl (yields_load_has (by rfl) 40 _ rfl (gb) rfl 40 (stC B.1 po pc) _ Try.underlying40 rfl (st_size _ _ _) (fun W hW => hB.later hW)) ?_
    try simp only [Act.put, List.setIfInBounds_toArray, List.set_cons_zero, List.set_cons_succ]
    refine plan_run _ rfl (fun K hK => ?_)
    go_simp
    refine (fold_any A.1 qo qc _ hAo (hA8.later hbA)).mono ?_
    rintro e wj ⟨rfl, hq⟩
    rw [hfA.out]
    have hbB : Below _ _ wj := hbA.trans (hq.mono hbA.size)
    refine hK.out _ _ hbB ?_
    clear hK K hq
    try simp only [Act.put, List.setIfInBounds_toArray, List.set_cons_zero, List.set_cons_succ]
    refine plan_run _ rfl (fun K hK => ?_)
    go_simp
    refine (fold_any B.1 po pc _ hBo (hB8.later hbB)).mono ?_
    rintro e wk ⟨rfl, hq⟩
    rw [hfB.out]
    have hbC : Below _ _ wk := hbB.trans (hq.mono hbB.size)
    refine hK.out _ _ hbC ?_
    clear hK K hq
    try simp only [Act.put, List.setIfInBounds_toArray, List.set_cons_zero, List.set_cons_succ]
    refine plan_take _ _ rfl (yields_bin_agg (by rfl) .eql 33 _ _ _ rfl (baseC (G)) (baseC (G)) rfl rfl (.bool (true)) guard_base (e1)) ?_
    try simp only [Act.put, List.setIfInBounds_toArray, List.set_cons_zero, List.set_cons_succ]
    iterate 2
      first
        | (refine plan_pass _ rfl (by rfl) ?_)
        | (refine plan_take _ _ rfl (.inl ⟨by rfl, fun W hS => by clear hS; go_simp; try with_reducible rfl⟩) ?_)
      try simp only [Act.put, List.setIfInBounds_toArray, List.set_cons_zero, List.set_cons_succ]
    refine plan_done ?_
    go_wp2_with fail
    go_ret
    exact ⟨rfl, hb.trans (hbC.mono hb.size)⟩
  · have i1 : ((y : Int) < (x : Int)) := by omega
    have i2 : ((y : Int) == (x : Int)) = false := by rw [beq_eq_false_iff_ne]; omega
    have i3 : (y == x) = false := by rw [beq_eq_false_iff_ne]; omega
    obtain ⟨T, V, A, B, G, hTS⟩ := hTS y x hyl (by omega) hxu
    have herr : Hid _ := hTS.t5 hxy
    clear hxy
    have ht1 : Hid _ := hTS.t1
    have ht2 : Hid _ := hTS.t2
    have ht3 : Hid _ := hTS.t3
    have hTo := hTS.okT
    have hVo := hTS.okV
    have hAo := hTS.okA
    have hBo := hTS.okB
    have haA : Hid _ := hTS.a
    have haB : Hid _ := hTS.b
    have hAB : Hid _ := hTS.err
    have hfA : Hid _ := hTS.fA
    have hfB : Hid _ := hTS.fB
    have hGo := hTS.okG
    clear hTS
    go_wp2_with (first
      | (refine wpList_load_has (by rfl) 40 _ rfl (gs) rfl 40 (stC S ro rc) _ Try.underlying40 rfl (st_size _ _ _) ?hg ?_; (case hg => exact hX)))
    refine (tail_any S ro rc (y) _ hSo hS8 (by omega)).mono ?_
    rintro e w6 ⟨xo, xc, rfl, hG⟩
    rw [ht1.out] at hG
    rw [ht1.out]
    have hT8 := hG.sl
    replace hX := hX.later hG.below
    replace hS8 := hS8.later hG.below
    replace hO := hO.later hG.below
    replace hb := hb.trans (hG.below.mono hb.size)
    clear hG
    obtain ⟨w7, hw7, hT, hq⟩ := new_var w6 40 (stC st0 none 0) (stC T xo xc)
    replace hX := hX.later hq
    replace hS8 := hS8.later hq
    replace hO := hO.later hq
    replace hT8 := hT8.later hq
    replace hb := hb.trans (hq.mono hb.size)
    clear hq
    go_wp2_with (first
      | (refine wpList_alloc_has (by rfl) 40 rfl (stC st0 none 0) st_zero ?_)
      | (refine wpList_store_to (by rfl) 40 _ _ rfl w6.heap.size rfl (stC T xo xc) rfl 40 (stC st0 none 0) (st_size _ _ _) (st_same _ _ _ _ _ _) (st_one _ _ _) ?hg w7 ?hW ?_; (case hg => exact Has.new _ _ _); (case hW => exact hw7); clear hw7; generalize w6.heap.size = gt at *)
      | (refine wpList_load_has (by rfl) 40 _ rfl (gt) rfl 40 (stC T xo xc) _ Try.underlying40 rfl (st_size _ _ _) ?hg ?_; (case hg => exact hT)))
    refine (tail_any T xo xc (x) _ hTo hT8 (by omega)).mono ?_
    rintro e w8 ⟨yo, yc, rfl, hG⟩
    rw [ht2.out] at hG
    rw [ht2.out]
    have hU8 := hG.sl
    replace hX := hX.later hG.below
    replace hS8 := hS8.later hG.below
    replace hO := hO.later hG.below
    replace hb := hb.trans (hG.below.mono hb.size)
    clear hG hT hT8
    obtain ⟨w9, hw9, hU, hq⟩ := new_var w8 40 (stC st0 none 0) (stC V yo yc)
    replace hX := hX.later hq
    replace hS8 := hS8.later hq
    replace hO := hO.later hq
    replace hU8 := hU8.later hq
    replace hb := hb.trans (hq.mono hb.size)
    clear hq
    go_wp2_with (first
      | (refine wpList_alloc_has (by rfl) 40 rfl (stC st0 none 0) st_zero ?_)
      | (refine wpList_store_to (by rfl) 40 _ _ rfl w8.heap.size rfl (stC V yo yc) rfl 40 (stC st0 none 0) (st_size _ _ _) (st_same _ _ _ _ _ _) (st_one _ _ _) ?hg w9 ?hW ?_; (case hg => exact Has.new _ _ _); (case hW => exact hw9); clear hw9; generalize w8.heap.size = gu at *)
      | (refine wpList_load_has (by rfl) 40 _ rfl (gs) rfl 40 (stC S ro rc) _ Try.underlying40 rfl (st_size _ _ _) ?hg ?_; (case hg => exact hX)))
    refine (tail_any S ro rc (x) _ hSo hS8 (by omega)).mono ?_
    rintro e wa ⟨zo, zc, rfl, hG⟩
    rw [ht3.out] at hG
    rw [ht3.out]
    have hV8 := hG.sl
    replace hX := hX.later hG.below
    replace hS8 := hS8.later hG.below
    replace hO := hO.later hG.below
    replace hU := hU.later hG.below
    replace hU8 := hU8.later hG.below
    replace hb := hb.trans (hG.below.mono hb.size)
    clear hG
    obtain ⟨wb, hwb, hV, hq⟩ := new_var wa 40 (stC st0 none 0) (stC V zo zc)
    replace hX := hX.later hq
    replace hS8 := hS8.later hq
    replace hO := hO.later hq
    replace hU := hU.later hq
    replace hU8 := hU8.later hq
    replace hV8 := hV8.later hq
    replace hb := hb.trans (hq.mono hb.size)
    clear hq
    go_wp2_with (first
      | (refine wpList_alloc_has (by rfl) 40 rfl (stC st0 none 0) st_zero ?_)
      | (refine wpList_store_to (by rfl) 40 _ _ rfl wa.heap.size rfl (stC V zo zc) rfl 40 (stC st0 none 0) (st_size _ _ _) (st_same _ _ _ _ _ _) (st_one _ _ _) ?hg wb ?hW ?_; (case hg => exact Has.new _ _ _); (case hW => exact hwb); clear hwb; generalize wa.heap.size = gv at *)
      | (refine wpList_load_has (by rfl) 40 _ rfl (gu) rfl 40 (stC V yo yc) _ Try.underlying40 rfl (st_size _ _ _) ?hg ?_; (case hg => exact hU))
      | (refine wpList_load_has (by rfl) 40 _ rfl (gv) rfl 40 (stC V zo zc) _ Try.underlying40 rfl (st_size _ _ _) ?hg ?_; (case hg => exact hV)))
    refine (same_any V V yo zo yc zc _ hVo hVo hU8 hV8).mono ?_
    rintro e wc ⟨rfl, hq⟩
    rw [same_self]
    replace hX := hX.later hq
    replace hS8 := hS8.later hq
    replace hO := hO.later hq
    replace hV := hV.later hq
    replace hV8 := hV8.later hq
    replace hb := hb.trans (hq.mono hb.size)
    clear hq hU hU8
    go_wp2_with (first
      | (refine wpList_load_has (by rfl) 40 _ rfl (gv) rfl 40 (stC V zo zc) _ Try.underlying40 rfl (st_size _ _ _) ?hg ?_; (case hg => exact hV)))
    refine (tail_any V zo zc (y) _ hVo hV8 (by omega)).mono ?_
    rintro e wd ⟨uo, uc, rfl, hG⟩
    rw [herr.out] at hG
    rw [herr.out]
    replace hX := hX.later hG.below
    replace hS8 := hS8.later hG.below
    replace hO := hO.later hG.below
    replace hV := hV.later hG.below
    replace hV8 := hV8.later hG.below
    replace hb := hb.trans (hG.below.mono hb.size)
    clear hG
    obtain ⟨we, hwe, hZ, hq⟩ := new_var wd 40 (stC st0 none 0) (stC (st0) uo uc)
    replace hX := hX.later hq
    replace hS8 := hS8.later hq
    replace hO := hO.later hq
    replace hV := hV.later hq
    replace hV8 := hV8.later hq
    replace hb := hb.trans (hq.mono hb.size)
    clear hq
    go_wp2_with (first
      | (refine wpList_alloc_has (by rfl) 40 rfl (stC st0 none 0) st_zero ?_)
      | (refine wpList_store_to (by rfl) 40 _ _ rfl wd.heap.size rfl (stC (st0) uo uc) rfl 40 (stC st0 none 0) (st_size _ _ _) (st_same _ _ _ _ _ _) (st_one _ _ _) ?hg we ?hW ?_; (case hg => exact Has.new _ _ _); (case hW => exact hwe); clear hwe; generalize wd.heap.size = gz at *)
      | (refine wpList_load_has (by rfl) 40 _ rfl (gv) rfl 40 (stC V zo zc) _ Try.underlying40 rfl (st_size _ _ _) ?hg ?_; (case hg => exact hV))
      | (refine wpList_val (.int .u32 (n1 : Int)) (by rfl) (run_add_u32 _ _ _ _ rfl D.length 1 n1 rfl rfl hn1H.out (by omega)) ?_)
      | (refine wpList_load_has (by rfl) 35 _ rfl w.heap.size rfl 35 (opC o) _ Try.underlying35 rfl (op_size _) ?hg ?_; (case hg => exact hO))
      | (refine wpList_build_three (by rfl) 37 0 1 2 _ _ _ rfl (.int .u32 50) (.int .u32 (n1 : Int)) (.agg (opC o)) rfl rfl rfl (entC ⟨50, n1, o⟩) (ent_built 50 _ _) ?_))
    refine (add_any V zo zc ⟨50, n1, o⟩ _ hVo heo hV8).mono ?_
    rintro e wf ⟨qo, qc, rfl, hG⟩
    rw [haA.out] at hG
    rw [haA.out]
    have hA8 := hG.sl
    replace hX := hX.later hG.below
    replace hS8 := hS8.later hG.below
    replace hO := hO.later hG.below
    replace hb := hb.trans (hG.below.mono hb.size)
    clear hG hZ hV hV8
    obtain ⟨wg, hwg, hA, hq⟩ := new_var wf 40 (stC st0 none 0) (stC A.1 qo qc)
    replace hX := hX.later hq
    replace hS8 := hS8.later hq
    replace hO := hO.later hq
    replace hA8 := hA8.later hq
    replace hb := hb.trans (hq.mono hb.size)
    clear hq
    go_wp2_with (first
      | (refine wpList_alloc_has (by rfl) 40 rfl (stC st0 none 0) st_zero ?_)
      | (refine wpList_store_to (by rfl) 40 _ _ rfl wf.heap.size rfl (stC A.1 qo qc) rfl 40 (stC st0 none 0) (st_size _ _ _) (st_same _ _ _ _ _ _) (st_one _ _ _) ?hg wg ?hW ?_; (case hg => exact Has.new _ _ _); (case hW => exact hwg); clear hwg; generalize wf.heap.size = ga at *)
      | (refine wpList_load_has (by rfl) 40 _ rfl (gs) rfl 40 (stC S ro rc) _ Try.underlying40 rfl (st_size _ _ _) ?hg ?_; (case hg => exact hX))
      | (refine wpList_val (.int .u32 (n1 : Int)) (by rfl) (run_add_u32 _ _ _ _ rfl D.length 1 n1 rfl rfl hn1H.out (by omega)) ?_)
      | (refine wpList_load_has (by rfl) 35 _ rfl w.heap.size rfl 35 (opC o) _ Try.underlying35 rfl (op_size _) ?hg ?_; (case hg => exact hO))
      | (refine wpList_build_three (by rfl) 37 0 1 2 _ _ _ rfl (.int .u32 50) (.int .u32 (n1 : Int)) (.agg (opC o)) rfl rfl rfl (entC ⟨50, n1, o⟩) (ent_built 50 _ _) ?_))
    refine (add_any S ro rc ⟨50, n1, o⟩ _ hSo heo hS8).mono ?_
    rintro e wh ⟨po, pc, rfl, hG⟩
    rw [haB.out] at hG
    rw [haB.out, hAB.out]
    have hB8 := hG.sl
    replace hA := hA.later hG.below
    replace hA8 := hA8.later hG.below
    replace hb := hb.trans (hG.below.mono hb.size)
    clear hG hX hS8 hO
    obtain ⟨wi, hwi, hB, hq⟩ := new_var wh 40 (stC st0 none 0) (stC B.1 po pc)
    replace hA := hA.later hq
    replace hA8 := hA8.later hq
    replace hB8 := hB8.later hq
    replace hb := hb.trans (hq.mono hb.size)
    clear hq
    have e1 := fun W => eq_base G hGo W
    go_wp2_with (first
      | (refine wpList_alloc_has (by rfl) 40 rfl (stC st0 none 0) st_zero ?_)
      | (refine wpList_store_to (by rfl) 40 _ _ rfl wh.heap.size rfl (stC B.1 po pc) rfl 40 (stC st0 none 0) (st_size _ _ _) (st_same _ _ _ _ _ _) (st_one _ _ _) ?hg wi ?hW ?_; (case hg => exact Has.new _ _ _); (case hW => exact hwi); clear hwi; generalize wh.heap.size = gb at *)
      | fail)
    have hbA : Below wi.heap.size wi wi.drew := (Below.refl _ _).drew
    refine wp_region_plan (fun W => Below wi.heap.size wi W) (Plan.of [(0, true), (1, true), (2, true), (3, true), (4, true), (6, true), (5, false), (7, false), (8, true), (9, true), (10, true)] .done) (by kernel_rfl) (by kernel_rfl) (by kernel_rfl) (by kernel_rfl) hbA ?_
    iterate 2
      first
        | (refine plan_pass _ rfl (by rfl) ?_)
        | (refine plan_take _ _ rfl (.inl ⟨by rfl, fun W hS => by clear hS; go_simp; try with_reducible rfl⟩) ?_)
      try simp only [Act.put, List.setIfInBounds_toArray, List.set_cons_zero, List.set_cons_succ]
    refine plan_take _ (.bool true) rfl (.inl ⟨by rfl, fun W hS => by clear hS; go_simp; try with_reducible rfl⟩) ?_
    try simp only [Act.put, List.setIfInBounds_toArray, List.set_cons_zero, List.set_cons_succ]
    iterate 1
      first
        | (refine plan_pass _ rfl (by rfl) ?_)
        | (refine plan_take _ _ rfl (.inl ⟨by rfl, fun W hS => by clear hS; go_simp; try with_reducible rfl⟩) ?_)
      try simp only [Act.put, List.setIfInBounds_toArray, List.set_cons_zero, List.set_cons_succ]
    refine plan_take _ _ rfl (yields_load_has (by rfl) 40 _ rfl (ga) rfl 40 (stC A.1 qo qc) _ Try.underlying40 rfl (st_size _ _ _) (fun W hW => hA.later hW)) ?_
    try simp only [Act.put, List.setIfInBounds_toArray, List.set_cons_zero, List.set_cons_succ]
    refine plan_take _ _ rfl (yields_load_has (by rfl) 40 _ rfl (gb) rfl 40 (stC B.1 po pc) _ Try.underlying40 rfl (st_size _ _ _) (fun W hW => hB.later hW)) ?_
    try simp only [Act.put, List.setIfInBounds_toArray, List.set_cons_zero, List.set_cons_succ]
    refine plan_run _ rfl (fun K hK => ?_)
    go_simp
    refine (fold_any A.1 qo qc _ hAo (hA8.later hbA)).mono ?_
    rintro e wj ⟨rfl, hq⟩
    rw [hfA.out]
    have hbB : Below _ _ wj := hbA.trans (hq.mono hbA.size)
    refine hK.out _ _ hbB ?_
    clear hK K hq
    try simp only [Act.put, List.setIfInBounds_toArray, List.set_cons_zero, List.set_cons_succ]
    refine plan_run _ rfl (fun K hK => ?_)
    go_simp
    refine (fold_any B.1 po pc _ hBo (hB8.later hbB)).mono ?_
    rintro e wk ⟨rfl, hq⟩
    rw [hfB.out]
    have hbC : Below _ _ wk := hbB.trans (hq.mono hbB.size)
    refine hK.out _ _ hbC ?_
    clear hK K hq
    try simp only [Act.put, List.setIfInBounds_toArray, List.set_cons_zero, List.set_cons_succ]
    refine plan_take _ _ rfl (yields_bin_agg (by rfl) .eql 33 _ _ _ rfl (baseC (G)) (baseC (G)) rfl rfl (.bool (true)) guard_base (e1)) ?_
    try simp only [Act.put, List.setIfInBounds_toArray, List.set_cons_zero, List.set_cons_succ]
    iterate 2
      first
        | (refine plan_pass _ rfl (by rfl) ?_)
        | (refine plan_take _ _ rfl (.inl ⟨by rfl, fun W hS => by clear hS; go_simp; try with_reducible rfl⟩) ?_)
      try simp only [Act.put, List.setIfInBounds_toArray, List.set_cons_zero, List.set_cons_succ]
    refine plan_done ?_
    go_wp2_with fail
    go_ret
    exact ⟨rfl, hb.trans (hbC.mono hb.size)⟩
end Go.Proofs.Ytkkjdihmjcaibaa
