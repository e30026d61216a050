/- ObjectsReads, walked. -/
import Derived.Test.YtjajfeplgilejabDoorObjSteps
import Derived.Test.YtjajfeplgilejabDoorReadsFacts
import Derived.Test.YtjajfeplgilejabDoorReadMath
import Derived.Deep.QuietTactic
import Derived.BigQuiet
namespace Go.Proofs.YtjajfeplgilejabDoor
set_option linter.unusedSimpArgs false
set_option linter.unusedVariables false
set_option maxRecDepth 100000
open Go.RowKit

theorem opRd_built (k : Nat) : Tryd.prog.built 41 [(0, .int .u8 1), (1, .int .u32 1), (2, .int .u8 5), (3, .int .u8 (k : Int))] = some (opC (opRd k)) := by kernel_rfl
theorem wpList_build_rd {P : Program} {ops : Array Oper} {rest : List Oper} {o : Oper} {a : Act} {w : World} {Q : Exit → Act → World → Prop} (hw : Region.wanted o (yielded ops a.tmps) = true) (t : TypeId) (x : Operand) (ho : o.op = .build t #[(0, .const (.int .u8 1)), (1, .const (.int .u32 1)), (2, .const (.int .u8 5)), (3, x)]) (p : Value) (hx : a.eval x = p) (c : Array Value) (hf : P.built t [(0, .int .u8 1), (1, .int .u32 1), (2, .int .u8 5), (3, p)] = some c)
    (h : wpList P ops Q rest (a.put o.dst (.agg c)) w) : wpList P ops Q (o :: rest) a w :=
  wpList_build_has hw t _ ho c (by
    have e0 : a.eval (.const (.int .u8 1)) = .int .u8 1 := rfl
    have e1 : a.eval (.const (.int .u32 1)) = .int .u32 1 := rfl
    have e2 : a.eval (.const (.int .u8 5)) = .int .u8 5 := rfl
    simpa [hx, e0, e1, e2] using hf) h
theorem res_one1 : Tryd.prog.built 30 [(0, .int .u8 1)] = some (resC ⟨1, []⟩) := by kernel_rfl

/-- What is told up to an attribute, in bytes. -/
def lenTo (x : ObjV) : Nat → Nat
  | 0 => x.data.length
  | k + 1 => lenTo x k + attrN (x.attr k)
theorem lenTo_3 (x : ObjV) : lenTo x 3 = x.data.length + attrN x.a0 + attrN x.a1 + attrN x.a2 := rfl
theorem attrN_le (v : List UInt8) : attrN v ≤ 3 + v.length := by
  unfold attrN
  split <;> omega

set_option maxHeartbeats 2000000 in
theorem reads_walk (S : ObjSpec) (ao : Option Addr) (c : Nat) (l : List OpV) (q : Nat) (w : World) (h : Sl w ao c 6 (opR l)) (hl : ∀ x ∈ l, OpOk x) (hq256 : q < 256) :
    Calls Tryd.prog 3 #[.slice ao l.length c, .int .u8 (q : Int)] w fun e w' => e = .returned (.bool true) ∧ Below w.heap.size w w' := by
  have hle := h.le
  have hol : (opR l).length = l.length := by unfold opR; rw [List.length_map]
  rw [hol] at hle
  have hcap := h.cap
  obtain ⟨k, hk⟩ : ∃ k, k = q % 6 := ⟨_, rfl⟩
  have hk6 : k < 6 := by omega
  have hkT : Int.tmod (q : Int) 6 = (k : Int) := by rw [Int.tmod_eq_emod_of_nonneg (by omega)]; omega
  have hkI : (k : Int) < 6 := by omega
  clear hk
  go_enter Tryd.func3, Tryd.ntmps3
  go_wp2_with fail
  refine (oknown_any S _).mono ?_
  rintro e w1 ⟨rfl, hb⟩
  by_cases hlong : 30 < l.length
  · have hI : (30 : Int) < (l.length : Int) := by omega
    clear hlong
    go_wp2_with fail
    go_ret
    exact ⟨rfl, hb⟩
  have hI : ¬ ((30 : Int) < (l.length : Int)) := by omega
  have hI2 : (l.length : Int) ≤ 30 := by omega
  go_wp2_with (first
    | (refine wpList_build_has (by rfl) 35 #[] rfl (baseC base0) (by simpa using base_built) ?_))
  refine (S.all base0 ao c l _ base0_ok (h.later hb) hl (by omega)).mono ?_
  rintro e w3 ⟨ro, rc, rfl, _, hq⟩
  replace hb := hb.trans (hq.mono hb.size)
  clear hq
  have hB0 := all_ok base0_ok l hl
  generalize (allM base0 l).1 = B at *
  obtain ⟨w4, hw4, hB, hq⟩ := base_var w3 B
  replace hb := hb.trans (hq.mono hb.size)
  clear hq
  go_wp2_with (first
    | (refine wpList_alloc_has (by rfl) 35 rfl (baseC base0) base_zero ?_)
    | (refine wpList_store_to (by rfl) 35 _ _ rfl w3.heap.size rfl (baseC B) rfl 35 (baseC base0) (base_size _) rfl (base_one _) ?hg w4 ?hW ?_; (case hg => exact Has.new _ _ _); (case hW => exact hw4); clear hw4; generalize w3.heap.size = gb at *)
    | (refine wpList_load_has (by rfl) 35 _ rfl (gb) rfl 35 (baseC (B)) _ Tryd.underlying35 rfl (base_size _) ?hg ?_; (case hg => first | exact hB))
    | (refine wpList_build_rd (by rfl) 41 _ rfl (.int .u8 (k : Int)) rfl (opC (opRd k)) (opRd_built k) ?_))
  refine (S.read B (opRd k) _ hB0 (opRd_ok hk6)).mono ?_
  rintro e w5 ⟨rfl, hq⟩
  replace hB := hB.later hq
  replace hb := hb.trans (hq.mono hb.size)
  clear hq
  have hr1 : (B.obj ⟨k, hk6⟩).there = false → readM B (opRd k) = ⟨1, []⟩ := reads_not (b := B) ⟨k, hk6⟩
  have hr2 := reads_there (b := B) ⟨k, hk6⟩
  replace hr2 : (B.obj ⟨k, hk6⟩).there = true → ∃ T, readM B (opRd k) = ⟨0, (B.obj ⟨k, hk6⟩).data ++ T⟩ ∧ T.length = attrN (B.obj ⟨k, hk6⟩).a0 + attrN (B.obj ⟨k, hk6⟩).a1 + attrN (B.obj ⟨k, hk6⟩).a2 := hr2
  have hxo := hB0.obj ⟨k, hk6⟩
  generalize readM B (opRd k) = R at *
  obtain ⟨w6, hw6, hr, hq⟩ := res_var w5 R
  replace hB := hB.later hq
  replace hb := hb.trans (hq.mono hb.size)
  clear hq
  have hrow : w6.rangeAt gb (k * 5) (objL (B.obj ⟨k, hk6⟩)) := hB.obj_at ⟨k, hk6⟩
  generalize B.obj ⟨k, hk6⟩ = x at *
  have hX := (Has.new w6 26 (objC obj0)).row (objC x)
  have hbb := below_setRow ((Below.refl w6.heap.size w6).alloc (Nat.le_refl _) (.cells (objC obj0) 26)) (Nat.le_refl _) (objC x)
  obtain ⟨w7, hw7⟩ : ∃ W, (w6.alloc (.cells (objC obj0) 26)).setRow w6.heap.size (objC x) = W := ⟨_, rfl⟩
  rw [hw7] at hX hbb
  replace hr := hr.later hbb
  replace hb := hb.trans (hbb.mono hb.size)
  clear hbb
  have x0 := (hX.cell 0).trans (show (objC x)[0]? = some (.bool x.there) from rfl)
  have x1 := (hX.cell 1).trans (show (objC x)[1]? = some (.string (mkS x.data)) from rfl)
  have hat : ∀ j : Nat, j < 3 → w7.cell? ⟨w6.heap.size, 2 + j, none⟩ = some (.string (mkS (x.attr j))) := fun j hj => (hX.cell (2 + j)).trans (attr_cell x j hj)
  have hX1 := hX
  clear hX
  cases hth : x.there with
  | false =>
    have hR1 := hr1 hth
    rw [hth] at x0
    subst hR1
    clear hr1 hr2 hat
    have e1 := eq_res ⟨1, []⟩ (by decide) (by decide)
    go_wp2_with (first
      | (refine wpList_alloc_has (by rfl) 30 rfl (resC res0) res_zero ?_)
      | (refine wpList_store_to (by rfl) 30 _ _ rfl w5.heap.size rfl (resC ⟨1, []⟩) rfl 30 (resC res0) (res_size _) rfl (res_one _) ?hg w6 ?hW ?_; (case hg => exact Has.new _ _ _); (case hW => exact hw6); clear hw6; generalize w5.heap.size = gr at *)
      | (refine wpList_load_mid' (by rfl) 26 _ rfl gb (k * 5) rfl (objL x) _ ?hg Tryd.underlying26 rfl (obj_size x) ?_; (case hg => exact hrow))
      | (refine wpList_alloc_has (by rfl) 26 rfl (objC obj0) obj_zero ?_)
      | (refine wpList_store_to (by rfl) 26 _ _ rfl w6.heap.size rfl (objC x) rfl 26 (objC obj0) (obj_size _) rfl (obj_one _) ?hg w7 ?hW ?_; (case hg => exact Has.new _ _ _); (case hW => exact hw7); clear hw7)
      | (refine wpList_load_has (by rfl) 30 _ rfl (gr) rfl 30 (resC ((⟨1, []⟩ : ResV))) _ Tryd.underlying30 rfl (res_size _) ?hg ?_; (case hg => first | exact hr))
      | (refine wpList_build_one (by rfl) 30 0 _ rfl (.int .u8 1) rfl (resC ⟨1, []⟩) res_one1 ?_)
      | (refine wpList_bin_agg (by rfl) .eql 30 _ _ _ rfl (resC ⟨1, []⟩) (resC ⟨1, []⟩) rfl rfl (.bool true) guard_res ?hg ?_; (case hg => exact e1 _)))
    go_ret
    exact ⟨rfl, hb⟩
  | true =>
    obtain ⟨T, hR1, hTl⟩ := hr2 hth
    rw [hth] at x0
    obtain ⟨U, hU⟩ : ∃ U, U = x.data ++ T := ⟨_, rfl⟩
    rw [← hU] at hR1
    subst hR1
    have hUl : U.length = lenTo x 3 := by rw [hU, List.length_append, hTl, lenTo_3]; omega
    have hUt : U.take x.data.length = x.data := by rw [hU, List.take_left]
    have hUd : x.data.length ≤ U.length := by rw [hU, List.length_append]; omega
    have r0 := (hr.cell 0).trans (show (resC ⟨0, U⟩)[0]? = some (.int .u8 0) from rfl)
    have r1 := (hr.cell 1).trans (show (resC ⟨0, U⟩)[1]? = some (.string (mkS U)) from rfl)
    have s1 := mkS_size U
    have s2 := mkS_size x.data
    have e1 := fun (W : World) => headS (P := Tryd.prog) W 9 Tryd.underlying9 U x.data.length hUd
    rw [hUt] at e1
    have hUdI : (x.data.length : Int) ≤ (U.length : Int) := by omega
    have hdd : decide ((U.length : Int) < (x.data.length : Int)) = false := decide_eq_false (by omega)
    have hnd : ¬ ((U.length : Int) < (x.data.length : Int)) := by omega
    have hxd := hxo.data
    have hxa : ∀ j, (x.attr j).length ≤ 1000 := fun j => attr_le j hxo.a0 hxo.a1 hxo.a2
    replace hUl : Hid _ := hUl
    clear hr1 hr2 hTl hU hUt
    go_wp2_with (first
      | (refine wpList_alloc_has (by rfl) 30 rfl (resC res0) res_zero ?_)
      | (refine wpList_store_to (by rfl) 30 _ _ rfl w5.heap.size rfl (resC ⟨0, U⟩) rfl 30 (resC res0) (res_size _) rfl (res_one _) ?hg w6 ?hW ?_; (case hg => exact Has.new _ _ _); (case hW => exact hw6); clear hw6; generalize w5.heap.size = gr at *)
      | (refine wpList_load_mid' (by rfl) 26 _ rfl gb (k * 5) rfl (objL x) _ ?hg Tryd.underlying26 rfl (obj_size x) ?_; (case hg => exact hrow))
      | (refine wpList_alloc_has (by rfl) 26 rfl (objC obj0) obj_zero ?_)
      | (refine wpList_store_to (by rfl) 26 _ _ rfl w6.heap.size rfl (objC x) rfl 26 (objC obj0) (obj_size _) rfl (obj_one _) ?hg w7 ?hW ?_; (case hg => exact Has.new _ _ _); (case hW => exact hw7); clear hw7))
    have hx1W := fun W (hW : Below w7.heap.size w7 W) => (hX1.later hW).cell 1
    have hr1W := fun W (hW : Below w7.heap.size w7 W) => (hr.later hW).cell 1
    have hr0W := fun W (hW : Below w7.heap.size w7 W) => (hr.later hW).cell 0
    replace hx1W : ∀ W, Below w7.heap.size w7 W → W.cell? ⟨w6.heap.size, 1, none⟩ = some (.string (mkS x.data)) := hx1W
    replace hr1W : ∀ W, Below w7.heap.size w7 W → W.cell? ⟨gr, 1, none⟩ = some (.string (mkS U)) := hr1W
    replace hr0W : ∀ W, Below w7.heap.size w7 W → W.cell? ⟨gr, 0, none⟩ = some (.int .u8 0) := hr0W
    refine wp_region_plan (fun W => Below w7.heap.size w7 W) (Plan.of [(0, true), (1, true), (2, true), (3, true), (4, true), (5, true), (6, true), (7, true), (8, true), (9, true), (10, true), (11, true), (12, true), (13, true), (14, true), (15, true), (16, true), (17, true), (18, true), (19, true), (20, true), (21, true), (22, true)] .done) (by kernel_rfl) (by kernel_rfl) (by kernel_rfl) (by kernel_rfl) (Below.refl _ _).drew ?_
    iterate 1
      first
        | (refine plan_pass _ rfl (by rfl) ?_)
        | (refine plan_take _ _ rfl (.inl ⟨by rfl, fun W hS => by clear hS; go_simp; try with_reducible rfl⟩) ?_)
      try simp only [Act.put, List.setIfInBounds_toArray, List.set_cons_zero, List.set_cons_succ]
    iterate 1
      first
        | (refine plan_pass _ rfl (by rfl) ?_)
        | (refine plan_take _ _ rfl (.inl ⟨by rfl, fun W hS => by have z1 := hr0W W hS; go_simp; try with_reducible rfl⟩) ?_)
      try simp only [Act.put, List.setIfInBounds_toArray, List.set_cons_zero, List.set_cons_succ]
    refine plan_take _ (.bool false) rfl (.inl ⟨by rfl, fun W hS => by clear hS; go_simp; try with_reducible rfl⟩) ?_
    try simp only [Act.put, List.setIfInBounds_toArray, List.set_cons_zero, List.set_cons_succ]
    iterate 2
      first
        | (refine plan_pass _ rfl (by rfl) ?_)
        | (refine plan_take _ _ rfl (.inl ⟨by rfl, fun W hS => by clear hS; go_simp; try with_reducible rfl⟩) ?_)
      try simp only [Act.put, List.setIfInBounds_toArray, List.set_cons_zero, List.set_cons_succ]
    iterate 1
      first
        | (refine plan_pass _ rfl (by rfl) ?_)
        | (refine plan_take _ _ rfl (.inl ⟨by rfl, fun W hS => by have z1 := hr1W W hS; go_simp; try with_reducible rfl⟩) ?_)
      try simp only [Act.put, List.setIfInBounds_toArray, List.set_cons_zero, List.set_cons_succ]
    iterate 2
      first
        | (refine plan_pass _ rfl (by rfl) ?_)
        | (refine plan_take _ _ rfl (.inl ⟨by rfl, fun W hS => by clear hS; go_simp; try with_reducible rfl⟩) ?_)
      try simp only [Act.put, List.setIfInBounds_toArray, List.set_cons_zero, List.set_cons_succ]
    iterate 1
      first
        | (refine plan_pass _ rfl (by rfl) ?_)
        | (refine plan_take _ _ rfl (.inl ⟨by rfl, fun W hS => by have z1 := hx1W W hS; go_simp; try with_reducible rfl⟩) ?_)
      try simp only [Act.put, List.setIfInBounds_toArray, List.set_cons_zero, List.set_cons_succ]
    iterate 1
      first
        | (refine plan_pass _ rfl (by rfl) ?_)
        | (refine plan_take _ _ rfl (.inl ⟨by rfl, fun W hS => by clear hS; go_simp; try with_reducible rfl⟩) ?_)
      try simp only [Act.put, List.setIfInBounds_toArray, List.set_cons_zero, List.set_cons_succ]
    refine plan_take _ (.bool false) rfl (.inl ⟨by rfl, fun W hS => by clear hS; go_simp; try with_reducible rfl⟩) ?_
    try simp only [Act.put, List.setIfInBounds_toArray, List.set_cons_zero, List.set_cons_succ]
    iterate 3
      first
        | (refine plan_pass _ rfl (by rfl) ?_)
        | (refine plan_take _ _ rfl (.inl ⟨by rfl, fun W hS => by clear hS; go_simp; try with_reducible rfl⟩) ?_)
      try simp only [Act.put, List.setIfInBounds_toArray, List.set_cons_zero, List.set_cons_succ]
    iterate 1
      first
        | (refine plan_pass _ rfl (by rfl) ?_)
        | (refine plan_take _ _ rfl (.inl ⟨by rfl, fun W hS => by have z1 := hr1W W hS; go_simp; try with_reducible rfl⟩) ?_)
      try simp only [Act.put, List.setIfInBounds_toArray, List.set_cons_zero, List.set_cons_succ]
    iterate 1
      first
        | (refine plan_pass _ rfl (by rfl) ?_)
        | (refine plan_take _ _ rfl (.inl ⟨by rfl, fun W hS => by clear hS; go_simp; try with_reducible rfl⟩) ?_)
      try simp only [Act.put, List.setIfInBounds_toArray, List.set_cons_zero, List.set_cons_succ]
    iterate 1
      first
        | (refine plan_pass _ rfl (by rfl) ?_)
        | (refine plan_take _ _ rfl (.inl ⟨by rfl, fun W hS => by have z1 := hx1W W hS; go_simp; try with_reducible rfl⟩) ?_)
      try simp only [Act.put, List.setIfInBounds_toArray, List.set_cons_zero, List.set_cons_succ]
    iterate 1
      first
        | (refine plan_pass _ rfl (by rfl) ?_)
        | (refine plan_take _ _ rfl (.inl ⟨by rfl, fun W hS => by clear hS; go_simp; try with_reducible rfl⟩) ?_)
      try simp only [Act.put, List.setIfInBounds_toArray, List.set_cons_zero, List.set_cons_succ]
    refine plan_take _ (.string (mkS x.data)) rfl (.inl ⟨by rfl, fun W hS => by clear hS; go_simp; try with_reducible rfl⟩) ?_
    try simp only [Act.put, List.setIfInBounds_toArray, List.set_cons_zero, List.set_cons_succ]
    iterate 1
      first
        | (refine plan_pass _ rfl (by rfl) ?_)
        | (refine plan_take _ _ rfl (.inl ⟨by rfl, fun W hS => by clear hS; go_simp; try with_reducible rfl⟩) ?_)
      try simp only [Act.put, List.setIfInBounds_toArray, List.set_cons_zero, List.set_cons_succ]
    iterate 1
      first
        | (refine plan_pass _ rfl (by rfl) ?_)
        | (refine plan_take _ _ rfl (.inl ⟨by rfl, fun W hS => by have z1 := hx1W W hS; go_simp; try with_reducible rfl⟩) ?_)
      try simp only [Act.put, List.setIfInBounds_toArray, List.set_cons_zero, List.set_cons_succ]
    refine plan_take _ (.bool false) rfl (.inl ⟨by rfl, fun W hS => by clear hS; go_simp; try with_reducible rfl⟩) ?_
    try simp only [Act.put, List.setIfInBounds_toArray, List.set_cons_zero, List.set_cons_succ]
    iterate 1
      first
        | (refine plan_pass _ rfl (by rfl) ?_)
        | (refine plan_take _ _ rfl (.inl ⟨by rfl, fun W hS => by clear hS; go_simp; try with_reducible rfl⟩) ?_)
      try simp only [Act.put, List.setIfInBounds_toArray, List.set_cons_zero, List.set_cons_succ]
    refine plan_done ?_
    have hat8 : ∀ j : Nat, j < 3 → w7.drew.cell? ⟨w6.heap.size, 2 + j, none⟩ = some (.string (mkS (x.attr j))) := hat
    have y1 : w7.drew.cell? ⟨w6.heap.size, 1, none⟩ = some (.string (mkS x.data)) := x1
    have z1 : w7.drew.cell? ⟨gr, 1, none⟩ = some (.string (mkS U)) := r1
    have hb8 : Below w.heap.size w w7.drew := hb.drew
    clear hat x1 r1 r0 x0 hb hrow hB e1 hx1W hr1W hr0W hX1 hr
    generalize w7.drew = w8 at *
    go_wp2_with fail
    go_loopw [10, 11] (fun s i wr => ∃ j : Nat, j ≤ 3 ∧ i = .int .i64 j ∧ s = .int .i64 (lenTo x j : Nat) ∧ lenTo x j ≤ 1000 + j * 1003 ∧ wr = w8) (fun _ i _ => 3 - (intOf i).toNat)
    case atStart => exact ⟨0, Nat.zero_le _, rfl, rfl, by simpa [lenTo] using hxd, rfl⟩
    case round =>
      obtain ⟨j, hj, rfl, rfl, hlen, hwr⟩ := hrel
      replace hwr := hwr.symm
      subst hwr
      by_cases hlt : j < 3
      · have hjI : (j : Int) < 3 := by omega
        have hcj := hat8 j hlt
        have hVl := hxa j
        have hst : Hid (lenTo x (j + 1) = lenTo x j + attrN (x.attr j)) := rfl
        have hlen2 : Hid (lenTo x (j + 1) ≤ 1000 + (j + 1) * 1003) := by
          show _ ≤ _
          rw [hst.out]
          have := attrN_le (x.attr j)
          omega
        clear hat8 hxa
        generalize x.attr j = V at *
        generalize lenTo x j = n at *
        have hem := mkS_isEmpty V
        have sV := mkS_size V
        by_cases hv : V.length = 0
        · have hV0 : attrN V = 0 := by unfold attrN; rw [if_pos (List.length_eq_zero_iff.1 hv)]
          have hst2 : Hid (lenTo x (j + 1) = n) := by show _ = _; rw [hst.out, hV0, Nat.add_zero]
          rw [decide_eq_true hv] at hem
          clear hV0 hv
          go_wp2_with fail
          go_roundw
          case rel => exact ⟨j + 1, by omega, by go_num, by rw [hst2.out], hlen2.out, by first | rfl | trivial⟩
          case measure => simp [intOf]; omega
        · have hV1 : attrN V = 3 + V.length := by unfold attrN; rw [if_neg (fun h => hv (by rw [h]; rfl))]
          have hst2 : Hid (lenTo x (j + 1) = n + (3 + V.length)) := by show _ = _; rw [hst.out, hV1]
          rw [decide_eq_false hv] at hem
          clear hV1
          go_wp2_with fail
          go_roundw
          case rel => exact ⟨j + 1, by omega, by go_num, by rw [hst2.out]; go_num, hlen2.out, by first | rfl | trivial⟩
          case measure => simp [intOf]; omega
      · have e3 : j = 3 := by omega
        subst e3
        have hUe := hUl.out
        rw [hUe] at s1
        generalize lenTo x 3 = n at *
        go_wp2_with fail
        go_ret
        exact ⟨retB (by simp), hb8⟩
end Go.Proofs.YtjajfeplgilejabDoor
