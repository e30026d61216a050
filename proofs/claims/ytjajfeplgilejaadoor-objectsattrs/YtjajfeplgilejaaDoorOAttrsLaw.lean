/- ObjectsAttrs, walked. -/
import Derived.Test.YtjajfeplgilejaaDoorSliceTwo
import Derived.Test.YtjajfeplgilejaaDoorAttrsFacts
import Derived.Test.YtjajfeplgilejaaDoorPlanMem
import Derived.Test.YtjajfeplgilejaaDoorReadMath
import Derived.Laws.BytesArg
namespace Go.Proofs.YtjajfeplgilejaaDoor
set_option linter.unusedSimpArgs false
set_option linter.unusedVariables false
set_option maxRecDepth 100000
open Go.RowKit

theorem opR3_built : Tryd.prog.built 35 [(0, .int .u8 2), (1, .int .u32 1), (2, .int .u8 5), (3, .int .u8 3)] = some (opC opR3) := by kernel_rfl
theorem op3_built (n k p : Nat) (d : List UInt8) : Tryd.prog.built 35 [(0, .int .u8 1), (1, .int .u32 (n : Int)), (2, .int .u8 (k : Int)), (3, .int .u8 3), (4, .int .u8 (p : Int)), (5, .string (mkS d))] = some (opC (op3 n k p d)) := by kernel_rfl
theorem wpList_build_op3 {P : Program} {ops : Array Oper} {rest : List Oper} {o : Oper} {a : Act} {w : World} {Q : Exit → Act → World → Prop} (hw : Region.wanted o (yielded ops a.tmps) = true) (t : TypeId) (x y z u : Operand) (ho : o.op = .build t #[(0, .const (.int .u8 1)), (1, x), (2, y), (3, .const (.int .u8 3)), (4, z), (5, u)]) (p q r s : Value) (hx : a.eval x = p) (hy : a.eval y = q) (hz : a.eval z = r) (hu : a.eval u = s) (c : Array Value) (hf : P.built t [(0, .int .u8 1), (1, p), (2, q), (3, .int .u8 3), (4, r), (5, s)] = some c)
    (h : wpList P ops Q rest (a.put o.dst (.agg c)) w) : wpList P ops Q (o :: rest) a w :=
  wpList_build_has hw t _ ho c (by
    have e0 : a.eval (.const (.int .u8 1)) = .int .u8 1 := rfl
    have e1 : a.eval (.const (.int .u8 3)) = .int .u8 3 := rfl
    simpa [hx, hy, hz, hu, e0, e1] using hf) h

theorem mk_any (n k p : Nat) (d : List UInt8) (w : World) : Calls Tryd.prog 18 #[.int .u32 (n : Int), .int .u8 (k : Int), .int .u8 (p : Int), .string (mkS d)] w fun e w' => e = .returned (.agg (opC (op3 n k p d))) ∧ Below w.heap.size w w' := by
  have hR := Has.new w 35 (opC op0)
  have hb := (Below.refl w.heap.size w).alloc (Nat.le_refl _) (.cells (opC op0) 35)
  have hbl := op3_built n k p d
  go_enter Tryd.func18, Tryd.ntmps18
  go_wp2_with (first
    | (refine wpList_alloc_has (by rfl) 35 rfl (opC op0) zop_zero ?_)
    | (refine wpList_build_op3 (by rfl) 35 _ _ _ _ rfl (.int .u32 (n : Int)) (.int .u8 (k : Int)) (.int .u8 (p : Int)) (.string (mkS d)) rfl rfl rfl rfl (opC (op3 n k p d)) hbl ?_)
    | (refine wpList_store_has (by rfl) 35 _ _ rfl w.heap.size rfl (opC (op3 n k p d)) rfl 35 (opC op0) (op_size _) rfl (op_one _) ?hg ?_; (case hg => exact hR)))
  exact ret_has rfl w.heap.size rfl 35 (opC (op3 n k p d)) _ Tryd.underlying35 rfl (op_size _) (hR.row _) rfl ⟨rfl, below_setRow hb (Nat.le_refl _) _⟩

theorem attrs_built : Tryd.prog.built 22 [] = some #[strV [], strV [], strV []] := by kernel_rfl
theorem attrs_eq (w : World) : (binOp .eql 22 (.agg #[strV [], strV [], strV []]) (.agg #[strV [], strV [], strV []])).run Tryd.prog w = .ok (.bool true) w := by kernel_rfl
theorem guard_attrs : Tryd.prog.eqGuardType Tryd.prog.depth 22 = false := by kernel_rfl
theorem attrs_size0 : (Tryd.prog.info? 22).map (·.size) = some #[strV [], strV [], strV []].size := by show _ = some 3; kernel_rfl

theorem addr_zero (d : Addr) : d.add 0 = d := by cases d; simp [Addr.add]
theorem add_four (d : Addr) : d.add 4 = ⟨d.block, d.off + 4, none⟩ := by
  unfold Addr.add
  simp
theorem opR3_ok : OpOk opR3 := ⟨by decide, by decide, by decide, by decide, by decide, by decide⟩

theorem plan_slice_two {P : Program} {ops : Array Oper} {Q : Exit → Act → World → Prop} {S : World → Prop} {i : Nat} {pl : Plan} {a : Act} {w : World} (o : Oper) (ho : nth ops.toList i = some o) (hw : Region.wanted o (yielded ops a.tmps) = true) (t : TypeId) (x y : Operand) (hop : o.op = .buildSlice t 2 #[(0, x), (1, y)]) (p q : Value) (hx : a.eval x = p) (hy : a.eval y = q) (v : Value) (W : World) (hr : (Instr.buildSlice t 2 #[(0, p), (1, q)]).run P w = .ok v W)
    (hS : S W) (h : wpPlan P ops Q S pl (a.put o.dst v) W) : wpPlan P ops Q S (Plan.run i pl) a w := by
  refine plan_run o ho fun K hK => ?_
  rw [if_pos hw]
  have e : (execOp a.eval o).run P w = .ok (.value v) W := by
    unfold execOp
    simp only [hop]
    have hp : (#[(0, x), (1, y)].map fun (z : Nat × Operand) => (z.1, a.eval z.2)) = #[(0, p), (1, q)] := by simp [hx, hy]
    simp only [hp, Sem.run_bind, hr, Result.andThen_ok, Sem.run_pure]
  unfold Oper.wp
  rw [e]
  exact hK.out _ _ hS h

theorem sl_row {w : World} {ro : Option Addr} {c sz g : Nat} {rows : List (List Value)} (h : Sl w ro c sz rows) (hn : ∀ d, ro = some d → d.block ≠ g) (cs : Array Value) : Sl (w.setRow g cs) ro c sz rows := by
  refine ⟨h.le, h.cap, h.nil, h.each, fun ad had i hi j hj => ?_⟩
  have hbl : (ad.add (i * sz + j)).block = ad.block := by unfold Addr.add; split <;> rfl
  rw [World.cell?_of_block (w := w) (by rw [hbl]; exact setRow_other w g ad.block cs (hn ad had))]
  exact h.at' ad had i hi j hj

theorem sl_lt {w : World} {d : Addr} {c : Nat} {r : ResV} {rs : List ResV} (h : Sl w (some d) c 2 (resR (r :: rs))) : d.block < w.heap.size := by
  have hc := res_at h 0 (by simp) 0 (.int .u8 (r.code : Int)) rfl
  rw [addr_zero, addr_zero] at hc
  exact World.block_lt_of_cell? w _ hc

theorem field_res (r : ResV) (W : World) : (Instr.field 28 (.agg (resC r)) 1).run Tryd.prog W = .ok (.string (mkS r.data)) W := by kernel_rfl

def AllFresh : Prop := ∀ (b : BaseV) (ao : Option Addr) (c : Nat) (l : List OpV) (w : World), BaseOk b → Sl w ao c 6 (opR l) → (∀ o ∈ l, OpOk o) → l.length ≤ 1000 →
    Calls Tryd.prog 17 #[.agg (baseC b), .slice ao l.length c] w fun e w' => ∃ ro rc, e = .returned (.tuple #[.agg (baseC (allM b l).1), .slice ro l.length rc]) ∧ Sl w' ro rc 2 (resR (allM b l).2) ∧ Below w.heap.size w w' ∧ ∀ d, ro = some d → w.heap.size ≤ d.block

set_option maxHeartbeats 4000000 in
theorem attrs_walk (S : ObjSpec) (F : AllFresh) (q : Nat) (a b : List UInt8) (w : World) (hq256 : q < 256) (hal : a.length ≤ 9223372036854775807) (hbl : b.length ≤ 9223372036854775807) :
    Calls Tryd.prog 4 #[.int .u8 (q : Int), .string (mkS a), .string (mkS b)] w fun e w' => e = .returned (.bool true) ∧ Below w.heap.size w w' := by
  obtain ⟨i, hi⟩ : ∃ i, i = q % 3 := ⟨_, rfl⟩
  have hi3 : i < 3 := by omega
  have hiT : Int.tmod (q : Int) 3 = (i : Int) := by rw [Int.tmod_eq_emod_of_nonneg (by omega)]; omega
  have hiI : (i : Int) < 3 := by omega
  clear hi
  have sa := mkS_size a
  have sb := mkS_size b
  go_enter Tryd.func4, Tryd.ntmps4
  go_wp2_with fail
  refine (oknown_any S _).mono ?_
  rintro e w1 ⟨rfl, hb⟩
  by_cases ha16 : 16 < a.length
  · have hI : (16 : Int) < (a.length : Int) := by omega
    have hdec : decide ((16 : Int) < (a.length : Int)) = true := decide_eq_true hI
    go_wp2_with fail
    go_ret
    exact ⟨rfl, hb⟩
  have hIa : ¬ ((16 : Int) < (a.length : Int)) := by omega
  have hda : decide ((16 : Int) < (a.length : Int)) = false := decide_eq_false hIa
  by_cases hb16 : 16 < b.length
  · have hI : (16 : Int) < (b.length : Int) := by omega
    have hdec : decide ((16 : Int) < (b.length : Int)) = true := decide_eq_true hI
    go_wp2_with fail
    go_ret
    exact ⟨rfl, hb⟩
  have hIb : ¬ ((16 : Int) < (b.length : Int)) := by omega
  have hdb : decide ((16 : Int) < (b.length : Int)) = false := decide_eq_false hIb
  obtain ⟨w2, hw2, hRd, hq⟩ := op_var w1 opR3
  replace hb := hb.trans (hq.mono hb.size)
  clear hq
  go_wp2_with (first
    | (refine wpList_build_has (by rfl) 35 _ rfl (opC opR3) (by simpa using opR3_built) ?_)
    | (refine wpList_alloc_has (by rfl) 35 rfl (opC op0) zop_zero ?_)
    | (refine wpList_store_to (by rfl) 35 _ _ rfl w1.heap.size rfl (opC opR3) rfl 35 (opC op0) (op_size _) rfl (op_one _) ?hg w2 ?hW ?_; (case hg => exact Has.new _ _ _); (case hW => exact hw2); clear hw2; generalize w1.heap.size = gr at *)
    | (refine wpList_build_has (by rfl) 33 #[] rfl (baseC base0) (by simpa using base_built) ?_))
  refine (mk_any 1 3 i a _).mono ?_
  rintro e w3 ⟨rfl, hq⟩
  replace hRd := hRd.later hq
  replace hb := hb.trans (hq.mono hb.size)
  clear hq
  go_wp2_with fail
  refine (mk_any 2 1 0 [113] _).mono ?_
  rintro e w4 ⟨rfl, hq⟩
  replace hRd := hRd.later hq
  replace hb := hb.trans (hq.mono hb.size)
  clear hq
  go_wp2_with fail
  refine (mk_any 3 3 i a _).mono ?_
  rintro e w5 ⟨rfl, hq⟩
  replace hRd := hRd.later hq
  replace hb := hb.trans (hq.mono hb.size)
  clear hq
  go_wp2_with fail
  refine (mk_any 4 3 i b _).mono ?_
  rintro e w6 ⟨rfl, hq⟩
  replace hRd := hRd.later hq
  replace hb := hb.trans (hq.mono hb.size)
  clear hq
  obtain ⟨X, r1, r3, hall, hX3⟩ := attrs_first (i := i) (a := a) (b := b) hi3 (by omega) (by omega)
  have hok : ∀ x ∈ [op3 1 3 i a, op3 2 1 0 [113], op3 3 3 i a, op3 4 3 i b], OpOk x := by
    have hg : ∀ (n k p : Nat) (d : List UInt8), n < 10 → k < 10 → p < 10 → d.length ≤ 16 → OpOk (op3 n k p d) := fun n k p d h1 h2 h3 h4 => ⟨by show 1 < 256; decide, by show n < _; omega, by show k < _; omega, by show 3 < 256; decide, by show p < _; omega, by show d.length ≤ _; omega⟩
    intro x hx
    simp only [List.mem_cons, List.not_mem_nil, or_false] at hx
    rcases hx with rfl | rfl | rfl | rfl
    · exact hg _ _ _ _ (by omega) (by omega) (by omega) (by omega)
    · exact hg _ _ _ _ (by omega) (by omega) (by omega) (by decide)
    · exact hg _ _ _ _ (by omega) (by omega) (by omega) (by omega)
    · exact hg _ _ _ _ (by omega) (by omega) (by omega) (by omega)
  have hXo := all_ok base0_ok _ hok
  have hsv := slice_four (op3 1 3 i a) (op3 2 1 0 [113]) (op3 3 3 i a) (op3 4 3 i b) w6
  have hsl := slice_sl [op3 1 3 i a, op3 2 1 0 [113], op3 3 3 i a, op3 4 3 i b] (by show 4 ≤ 1000; decide) w6
  have hbs : Below w6.heap.size w6 (w6.alloc (.cells (opsC [op3 1 3 i a, op3 2 1 0 [113], op3 3 3 i a, op3 4 3 i b]) 35)) := (Below.refl _ _).alloc (Nat.le_refl _) _
  obtain ⟨w7, hw7⟩ : ∃ W, w6.alloc (.cells (opsC [op3 1 3 i a, op3 2 1 0 [113], op3 3 3 i a, op3 4 3 i b]) 35) = W := ⟨_, rfl⟩
  rw [hw7] at hsv hsl hbs
  have hcall : Calls Tryd.prog 17 #[.agg (baseC base0), .slice (some ⟨w6.heap.size, 0, none⟩) 4 4] w7 fun e w' => ∃ ro rc, e = .returned (.tuple #[.agg (baseC (allM base0 [op3 1 3 i a, op3 2 1 0 [113], op3 3 3 i a, op3 4 3 i b]).1), .slice ro 4 rc]) ∧ Sl w' ro rc 2 (resR (allM base0 [op3 1 3 i a, op3 2 1 0 [113], op3 3 3 i a, op3 4 3 i b]).2) ∧ Below w7.heap.size w7 w' :=
    S.all base0 _ 4 [op3 1 3 i a, op3 2 1 0 [113], op3 3 3 i a, op3 4 3 i b] _ base0_ok hsl hok (by show 4 ≤ 1000; decide)
  rw [hall] at hcall hXo
  clear hall hok hw7 hsl
  replace hRd := hRd.later hbs
  replace hb := hb.trans (hbs.mono hb.size)
  clear hbs
  generalize op3 1 3 i a = o1 at *
  generalize op3 2 1 0 [113] = o2 at *
  generalize op3 3 3 i a = o3 at *
  generalize op3 4 3 i b = o4 at *
  go_wp2_with (first
    | (refine wpList_slice_four (by rfl) 49 _ _ _ _ rfl (.agg (opC o1)) (.agg (opC o2)) (.agg (opC o3)) (.agg (opC o4)) rfl rfl rfl rfl (.slice (some ⟨w6.heap.size, 0, none⟩) 4 4) w7 ?hg ?_; (case hg => exact hsv)))
  refine hcall.mono ?_
  rintro e w8 ⟨ro, rc, rfl, hRs, hq⟩
  replace hRd := hRd.later hq
  replace hb := hb.trans (hq.mono hb.size)
  clear hq hcall hsv
  obtain ⟨w9, hw9, hX, hq⟩ := base_var w8 X
  replace hRd := hRd.later hq
  replace hRs := hRs.later hq
  replace hb := hb.trans (hq.mono hb.size)
  clear hq
  cases ro with
  | none =>
    have h1 := hRs.le
    have h2 := hRs.nil rfl
    rw [h2] at h1
    cases h1
  | some d =>
  have hat : ∀ j : Nat, j < 3 → (objC (objQ.setAttr i b))[2 + j]? = some (.string (mkS ((objQ.setAttr i b).attr j))) := fun j hj => attr_cell _ j hj
  have hc3 : w9.cell? ⟨w8.heap.size, 17 + i, none⟩ = some (.string (mkS b)) := by
    have h1 := (hX.cell (3 * 5 + (2 + i))).trans (baseC_obj X 3 (2 + i) (.string (mkS b)) (by
      rw [hX3.obj]
      have := attr_cell (objQ.setAttr i b) i hi3
      unfold objC at this
      rw [List.getElem?_toArray, setAttr_at] at this
      exact this))
    rw [show 3 * 5 + (2 + i) = 17 + i by omega] at h1
    exact h1
  have hrc := hRs.cap
  have hrl := hRs.le
  replace hrl : 4 ≤ rc := hrl
  have p0 := res_at hRs 0 (by show 0 < 4; decide) 0 (.int .u8 1) rfl
  have p2 := res_at hRs 2 (by show 2 < 4; decide) 0 (.int .u8 0) rfl
  rw [addr_zero, addr_zero] at p0
  rw [addr_zero] at p2
  replace p2 : w9.cell? (d.add 4) = some (.int .u8 0) := p2
  rw [add_four] at p2
  obtain ⟨Y, s1, hall2, hY6⟩ := attrs_then hX3 (by rw [setAttr_there]; rfl)
  have hok2 : ∀ x ∈ [op3 5 4 0 [], op3 6 1 0 [122]], OpOk x := by
    intro x hx
    simp only [List.mem_cons, List.not_mem_nil, or_false] at hx
    rcases hx with rfl | rfl
    · exact ⟨by decide, by decide, by decide, by decide, by decide, by decide⟩
    · exact ⟨by decide, by decide, by decide, by decide, by decide, by decide⟩
  have hYo := all_ok hXo _ hok2
  have hallc : ∀ (W : World) (g : Nat), Sl W (some ⟨g, 0, none⟩) 2 6 (opR [op3 5 4 0 [], op3 6 1 0 [122]]) → Calls Tryd.prog 17 #[.agg (baseC X), .slice (some ⟨g, 0, none⟩) 2 2] W fun e w' => ∃ ro rc, e = .returned (.tuple #[.agg (baseC (allM X [op3 5 4 0 [], op3 6 1 0 [122]]).1), .slice ro 2 rc]) ∧ Sl w' ro rc 2 (resR (allM X [op3 5 4 0 [], op3 6 1 0 [122]]).2) ∧ Below W.heap.size W w' ∧ ∀ d, ro = some d → W.heap.size ≤ d.block :=
    fun W g hs => F X _ 2 [op3 5 4 0 [], op3 6 1 0 [122]] W hXo hs hok2 (by show 2 ≤ 1000; decide)
  rw [hall2] at hallc hYo
  have hm5 := fun W => mk_any 5 4 0 [] W
  have hm6 := fun W => mk_any 6 1 0 [122] W
  have hrX := attrs_read hi3 hX3
  have hrY : readM Y opR3 = ⟨0, [122]⟩ := read_at3 hY6 rfl
  clear hall2 hok2 hat
  generalize op3 5 4 0 [] = p5 at *
  generalize op3 6 1 0 [122] = p6 at *
  have hem := mkS_isEmpty b
  by_cases hbe : b.length = 0
  · have hV0 : attrS i b = [] := by unfold attrS; rw [if_pos (List.length_eq_zero_iff.1 hbe)]
    rw [hV0] at hrX
    rw [decide_eq_true hbe] at hem
    go_wp2_with (first
      | (refine wpList_alloc_has (by rfl) 33 rfl (baseC base0) base_zero ?_)
      | (refine wpList_store_to (by rfl) 33 _ _ rfl w8.heap.size rfl (baseC X) rfl 33 (baseC base0) (base_size _) rfl (base_one _) ?hg w9 ?hW ?_; (case hg => exact Has.new _ _ _); (case hW => exact hw9); clear hw9; generalize w8.heap.size = gx at *))
    obtain ⟨Wt, hWt⟩ : ∃ L : List UInt8, L = [113] ++ [] := ⟨_, rfl⟩
    rw [← hWt] at hrX
    have hq113 : (ByteArray.mk #[113]) = mkS Wt := by rw [hWt]; rfl
    rw [hq113]
    have hfld := fun (W : World) => field_res ⟨0, Wt⟩ W
    have hfld2 : ∀ W : World, (Instr.field 28 (.agg (resC ⟨0, [122]⟩)) 1).run Tryd.prog W = .ok (.string (ByteArray.mk #[122])) W := fun W => field_res ⟨0, [122]⟩ W
    clear hWt hq113 hem hV0 hbe
    generalize w9 = wA at *
    have hbA : Below wA.heap.size wA wA.drew := (Below.refl _ _).drew
    refine wp_region_plan (fun W => Below wA.heap.size wA W) (Plan.of [(0, true)] (.either 1 (.either 2 (.either 3 (.either 4 (Plan.of [(5, true), (6, true), (7, true), (8, false), (9, false), (10, true)] .done) 8 (Plan.of [(4, false), (5, true), (6, true), (7, true), (9, false), (10, true)] .done)) 8 (Plan.of [(3, false), (4, false), (5, true), (6, true), (7, true), (9, false), (10, true)] .done)) 8 (Plan.of [(2, false), (3, false), (4, false), (5, true), (6, true), (7, true), (9, false), (10, true)] .done)) 8 (Plan.of [(1, false), (2, false), (3, false), (4, false), (5, true), (6, true), (7, true), (9, false), (10, true)] .done))) (by kernel_rfl) (by kernel_rfl) (by kernel_rfl) (by kernel_rfl) hbA ?_
    refine plan_take _ _ rfl (yields_load_has (by rfl) 33 _ rfl gx rfl 33 (baseC X) _ Tryd.underlying33 rfl (base_size _) (fun W h => hX.later h)) ?_
    try simp only [Act.put, List.setIfInBounds_toArray, List.set_cons_zero, List.set_cons_succ]
    refine plan_either ?_ ?_
    · refine plan_run _ rfl (fun K hK => ?_)
      go_simp
      refine (hm5 _).mono ?_
      rintro e wB ⟨rfl, hq⟩
      have hbB : Below wA.heap.size wA wB := hbA.trans (hq.mono hbA.size)
      refine hK.out _ _ hbB ?_
      clear hK K
      try simp only [Act.put, List.setIfInBounds_toArray, List.set_cons_zero, List.set_cons_succ]
      clear hq
      refine plan_either ?_ ?_
      · refine plan_run _ rfl (fun K hK => ?_)
        go_simp
        refine (hm6 _).mono ?_
        rintro e wC ⟨rfl, hq⟩
        have hbC : Below wA.heap.size wA wC := hbB.trans (hq.mono hbB.size)
        refine hK.out _ _ hbC ?_
        clear hK K
        try simp only [Act.put, List.setIfInBounds_toArray, List.set_cons_zero, List.set_cons_succ]
        clear hq
        refine plan_either ?_ ?_
        · have hsv := slice_two p5 p6 wC
          have hsl := slice_sl [p5, p6] (by show 2 ≤ 1000; decide) wC
          have hbD : Below wA.heap.size wA (wC.alloc (.cells (opsC [p5, p6]) 35)) := hbC.alloc hbC.size _
          have hgs : wC.heap.size < (wC.alloc (.cells (opsC [p5, p6]) 35)).heap.size := by simp
          refine plan_slice_two _ rfl (by rfl) 49 _ _ rfl (.agg (opC p5)) (.agg (opC p6)) rfl rfl (.slice (some ⟨wC.heap.size, 0, none⟩) 2 2) _ hsv hbD ?_
          try simp only [Act.put, List.setIfInBounds_toArray, List.set_cons_zero, List.set_cons_succ]
          replace hsl : Sl _ (some ⟨wC.heap.size, 0, none⟩) 2 6 (opR [p5, p6]) := hsl
          clear hsv
          generalize wC.alloc (.cells (opsC [p5, p6]) 35) = wD at *
          generalize wC.heap.size = gs at *
          refine plan_either ?_ ?_
          · refine plan_run _ rfl (fun K hK => ?_)
            go_simp
            refine (hallc _ gs hsl).mono ?_
            rintro e wE ⟨ro, rc2, rfl, hRs2, hq, hfr⟩
            have hbE : Below wA.heap.size wA wE := hbD.trans (hq.mono hbD.size)
            refine hK.out _ _ hbE ?_
            clear hK K
            iterate 3
              first
                | (refine plan_pass _ rfl (by rfl) ?_)
                | (refine plan_take _ _ rfl (.inl ⟨by rfl, fun W hS => by clear hS; go_simp; try with_reducible rfl⟩) ?_)
              try simp only [Act.put, List.setIfInBounds_toArray, List.set_cons_zero, List.set_cons_succ]
            clear hq
            refine plan_alloc_has _ rfl (by rfl) 33 rfl (baseC base0) base_zero (hbE.alloc hbE.size _) ?_
            try simp only [Act.put, List.setIfInBounds_toArray, List.set_cons_zero, List.set_cons_succ]
            have hM := Has.new wE 33 (baseC base0)
            have hqa : Below wE.heap.size wE (wE.alloc (.cells (baseC base0) 33)) := (Below.refl _ _).alloc (Nat.le_refl _) _
            have hbF : Below wA.heap.size wA (wE.alloc (.cells (baseC base0) 33)) := hbE.alloc hbE.size _
            have hgm : wA.heap.size ≤ wE.heap.size := hbE.size
            have hltm : wE.heap.size < (wE.alloc (.cells (baseC base0) 33)).heap.size := by simp
            have hne : ∀ d, ro = some d → d.block ≠ wE.heap.size := fun d hd e => by
              subst hd
              have := sl_lt hRs2
              omega
            replace hRs2 := hRs2.later hqa
            clear hqa
            generalize wE.alloc (.cells (baseC base0) 33) = wF at *
            generalize wE.heap.size = gm at *
            have hbX := below_setRow hbF hgm (baseC Y)
            refine plan_store_has _ rfl (by rfl) 33 _ _ rfl gm rfl (baseC Y) rfl 33 (baseC base0) (base_size _) rfl (base_one _) hM hbX ?_
            try simp only [Act.put, List.setIfInBounds_toArray, List.set_cons_zero, List.set_cons_succ]
            have hYv := hM.row (baseC Y)
            have hRs3 := sl_row hRs2 hne (baseC Y)
            generalize wF.setRow gm (baseC Y) = w20 at *
            iterate 1
              first
                | (refine plan_pass _ rfl (by rfl) ?_)
                | (refine plan_take _ _ rfl (.inl ⟨by rfl, fun W hS => by clear hS; go_simp; try with_reducible rfl⟩) ?_)
              try simp only [Act.put, List.setIfInBounds_toArray, List.set_cons_zero, List.set_cons_succ]
            refine plan_done ?_
            clear hM hRs2
            replace hX := hX.later hbX
            replace hRd := hRd.later hbX
            replace hb := hb.trans (hbX.mono hb.size)
            cases ro with
            | none =>
              have h1 := hRs3.le
              have h2 := hRs3.nil rfl
              rw [h2] at h1
              cases h1
            | some d2 =>
            have s0 := res_at hRs3 0 (by show 0 < 2; decide) 0 (.int .u8 0) rfl
            rw [addr_zero, addr_zero] at s0
            have hrc2 := hRs3.cap
            have hrl2 : 2 ≤ rc2 := hRs3.le
            have hYa : w20.rangeAt gm 17 [strV [], strV [], strV []] := hYv.range _ _ (fun j v hj => by
              have hj3 : j < 3 := (List.getElem?_eq_some_iff.1 hj).1
              have := baseC_obj Y 3 (2 + j) v (by rw [hY6.obj]; match j, hj3 with | 0, _ => exact hj | 1, _ => exact hj | 2, _ => exact hj)
              rw [show 17 + j = (3 : Fin 6).val * 5 + (2 + j) by show 17 + j = 3 * 5 + (2 + j); omega]
              exact this)
            go_wp2_with (first
              | (refine wpList_load_has (by rfl) 33 _ rfl (gx) rfl 33 (baseC (X)) _ Tryd.underlying33 rfl (base_size _) ?hg ?_; (case hg => first | exact hX))
              | (refine wpList_load_has (by rfl) 35 _ rfl (gr) rfl 35 (opC (opR3)) _ Tryd.underlying35 rfl (op_size _) ?hg ?_; (case hg => first | exact hRd)))
            refine (S.read X opR3 _ hXo opR3_ok).mono ?_
            rintro e w21 ⟨rfl, hq⟩
            rw [hrX]
            have s0' : w21.cell? d2 = some (.int .u8 0) := by rw [hq.cell (World.block_lt_of_cell? w20 _ s0)]; exact s0
            have hYa' : w21.rangeAt gm 17 [strV [], strV [], strV []] := fun j v hj => by
              have hc := hYa j v hj
              rw [hq.cell (World.block_lt_of_cell? w20 _ hc)]
              exact hc
            replace hYv := hYv.later hq
            replace hRd := hRd.later hq
            replace hb := hb.trans (hq.mono hb.size)
            clear hq s0 hYa
            go_wp2_with (first
              | (refine wpList_load_mid' (by rfl) 22 _ rfl gm 17 rfl [strV [], strV [], strV []] _ ?hg Tryd.underlying22 rfl attrs_size0 ?_; (case hg => exact hYa'))
              | (refine wpList_build_has (by rfl) 22 #[] rfl #[strV [], strV [], strV []] (by simpa using attrs_built) ?_)
              | (refine wpList_bin_agg (by rfl) .eql 22 _ _ _ rfl #[strV [], strV [], strV []] #[strV [], strV [], strV []] rfl rfl (.bool true) guard_attrs ?hg ?_; (case hg => exact attrs_eq _))
              | (refine wpList_load_has (by rfl) 33 _ rfl (gm) rfl 33 (baseC (Y)) _ Tryd.underlying33 rfl (base_size _) ?hg ?_; (case hg => first | exact hYv))
              | (refine wpList_load_has (by rfl) 35 _ rfl (gr) rfl 35 (opC (opR3)) _ Tryd.underlying35 rfl (op_size _) ?hg ?_; (case hg => first | exact hRd)))
            refine (S.read Y opR3 _ hYo opR3_ok).mono ?_
            rintro e w22 ⟨rfl, hq⟩
            rw [hrY]
            replace hb := hb.trans (hq.mono hb.size)
            clear hq
            go_wp2_with fail
            go_ret
            exact ⟨rfl, hb⟩
          · refine plan_alloc_has _ rfl (by rfl) 33 rfl (baseC base0) base_zero (hbD.alloc hbD.size _) ?_
            try simp only [Act.put, List.setIfInBounds_toArray, List.set_cons_zero, List.set_cons_succ]
            have hM := Has.new wD 33 (baseC base0)
            have hqa : Below wD.heap.size wD (wD.alloc (.cells (baseC base0) 33)) := (Below.refl _ _).alloc (Nat.le_refl _) _
            have hbE : Below wA.heap.size wA (wD.alloc (.cells (baseC base0) 33)) := hbD.alloc hbD.size _
            have hgm : wA.heap.size ≤ wD.heap.size := hbD.size
            have hltm : wD.heap.size < (wD.alloc (.cells (baseC base0) 33)).heap.size := by simp
            replace hsl := hsl.later hqa
            clear hqa
            generalize wD.alloc (.cells (baseC base0) 33) = wE at *
            generalize wD.heap.size = gm at *
            refine plan_run _ rfl (fun K hK => ?_)
            go_simp
            refine (hallc _ gs hsl).mono ?_
            rintro e wF ⟨ro, rc2, rfl, hRs2, hq, hfr⟩
            have hbF : Below wA.heap.size wA wF := hbE.trans (hq.mono hbE.size)
            refine hK.out _ _ hbF ?_
            clear hK K
            iterate 3
              first
                | (refine plan_pass _ rfl (by rfl) ?_)
                | (refine plan_take _ _ rfl (.inl ⟨by rfl, fun W hS => by clear hS; go_simp; try with_reducible rfl⟩) ?_)
              try simp only [Act.put, List.setIfInBounds_toArray, List.set_cons_zero, List.set_cons_succ]
            have hne : ∀ d, ro = some d → d.block ≠ gm := fun d hd e => by
              have := hfr d hd
              omega
            replace hM := hM.later hq
            replace hltm := Nat.lt_of_lt_of_le hltm hq.size
            clear hq
            have hbX := below_setRow hbF hgm (baseC Y)
            refine plan_store_has _ rfl (by rfl) 33 _ _ rfl gm rfl (baseC Y) rfl 33 (baseC base0) (base_size _) rfl (base_one _) hM hbX ?_
            try simp only [Act.put, List.setIfInBounds_toArray, List.set_cons_zero, List.set_cons_succ]
            have hYv := hM.row (baseC Y)
            have hRs3 := sl_row hRs2 hne (baseC Y)
            generalize wF.setRow gm (baseC Y) = w20 at *
            iterate 1
              first
                | (refine plan_pass _ rfl (by rfl) ?_)
                | (refine plan_take _ _ rfl (.inl ⟨by rfl, fun W hS => by clear hS; go_simp; try with_reducible rfl⟩) ?_)
              try simp only [Act.put, List.setIfInBounds_toArray, List.set_cons_zero, List.set_cons_succ]
            refine plan_done ?_
            clear hM hRs2
            replace hX := hX.later hbX
            replace hRd := hRd.later hbX
            replace hb := hb.trans (hbX.mono hb.size)
            cases ro with
            | none =>
              have h1 := hRs3.le
              have h2 := hRs3.nil rfl
              rw [h2] at h1
              cases h1
            | some d2 =>
            have s0 := res_at hRs3 0 (by show 0 < 2; decide) 0 (.int .u8 0) rfl
            rw [addr_zero, addr_zero] at s0
            have hrc2 := hRs3.cap
            have hrl2 : 2 ≤ rc2 := hRs3.le
            have hYa : w20.rangeAt gm 17 [strV [], strV [], strV []] := hYv.range _ _ (fun j v hj => by
              have hj3 : j < 3 := (List.getElem?_eq_some_iff.1 hj).1
              have := baseC_obj Y 3 (2 + j) v (by rw [hY6.obj]; match j, hj3 with | 0, _ => exact hj | 1, _ => exact hj | 2, _ => exact hj)
              rw [show 17 + j = (3 : Fin 6).val * 5 + (2 + j) by show 17 + j = 3 * 5 + (2 + j); omega]
              exact this)
            go_wp2_with (first
              | (refine wpList_load_has (by rfl) 33 _ rfl (gx) rfl 33 (baseC (X)) _ Tryd.underlying33 rfl (base_size _) ?hg ?_; (case hg => first | exact hX))
              | (refine wpList_load_has (by rfl) 35 _ rfl (gr) rfl 35 (opC (opR3)) _ Tryd.underlying35 rfl (op_size _) ?hg ?_; (case hg => first | exact hRd)))
            refine (S.read X opR3 _ hXo opR3_ok).mono ?_
            rintro e w21 ⟨rfl, hq⟩
            rw [hrX]
            have s0' : w21.cell? d2 = some (.int .u8 0) := by rw [hq.cell (World.block_lt_of_cell? w20 _ s0)]; exact s0
            have hYa' : w21.rangeAt gm 17 [strV [], strV [], strV []] := fun j v hj => by
              have hc := hYa j v hj
              rw [hq.cell (World.block_lt_of_cell? w20 _ hc)]
              exact hc
            replace hYv := hYv.later hq
            replace hRd := hRd.later hq
            replace hb := hb.trans (hq.mono hb.size)
            clear hq s0 hYa
            go_wp2_with (first
              | (refine wpList_load_mid' (by rfl) 22 _ rfl gm 17 rfl [strV [], strV [], strV []] _ ?hg Tryd.underlying22 rfl attrs_size0 ?_; (case hg => exact hYa'))
              | (refine wpList_build_has (by rfl) 22 #[] rfl #[strV [], strV [], strV []] (by simpa using attrs_built) ?_)
              | (refine wpList_bin_agg (by rfl) .eql 22 _ _ _ rfl #[strV [], strV [], strV []] #[strV [], strV [], strV []] rfl rfl (.bool true) guard_attrs ?hg ?_; (case hg => exact attrs_eq _))
              | (refine wpList_load_has (by rfl) 33 _ rfl (gm) rfl 33 (baseC (Y)) _ Tryd.underlying33 rfl (base_size _) ?hg ?_; (case hg => first | exact hYv))
              | (refine wpList_load_has (by rfl) 35 _ rfl (gr) rfl 35 (opC (opR3)) _ Tryd.underlying35 rfl (op_size _) ?hg ?_; (case hg => first | exact hRd)))
            refine (S.read Y opR3 _ hYo opR3_ok).mono ?_
            rintro e w22 ⟨rfl, hq⟩
            rw [hrY]
            replace hb := hb.trans (hq.mono hb.size)
            clear hq
            go_wp2_with fail
            go_ret
            exact ⟨rfl, hb⟩
        · refine plan_alloc_has _ rfl (by rfl) 33 rfl (baseC base0) base_zero (hbC.alloc hbC.size _) ?_
          try simp only [Act.put, List.setIfInBounds_toArray, List.set_cons_zero, List.set_cons_succ]
          have hM := Has.new wC 33 (baseC base0)
          have hqa : Below wC.heap.size wC (wC.alloc (.cells (baseC base0) 33)) := (Below.refl _ _).alloc (Nat.le_refl _) _
          have hbD : Below wA.heap.size wA (wC.alloc (.cells (baseC base0) 33)) := hbC.alloc hbC.size _
          have hgm : wA.heap.size ≤ wC.heap.size := hbC.size
          have hltm : wC.heap.size < (wC.alloc (.cells (baseC base0) 33)).heap.size := by simp
          clear hqa
          generalize wC.alloc (.cells (baseC base0) 33) = wD at *
          generalize wC.heap.size = gm at *
          have hsv := slice_two p5 p6 wD
          have hsl := slice_sl [p5, p6] (by show 2 ≤ 1000; decide) wD
          have hbE : Below wA.heap.size wA (wD.alloc (.cells (opsC [p5, p6]) 35)) := hbD.alloc hbD.size _
          have hgs : wD.heap.size < (wD.alloc (.cells (opsC [p5, p6]) 35)).heap.size := by simp
          refine plan_slice_two _ rfl (by rfl) 49 _ _ rfl (.agg (opC p5)) (.agg (opC p6)) rfl rfl (.slice (some ⟨wD.heap.size, 0, none⟩) 2 2) _ hsv hbE ?_
          try simp only [Act.put, List.setIfInBounds_toArray, List.set_cons_zero, List.set_cons_succ]
          replace hsl : Sl _ (some ⟨wD.heap.size, 0, none⟩) 2 6 (opR [p5, p6]) := hsl
          clear hsv
          replace hM := hM.alloc (.cells (opsC [p5, p6]) 35)
          replace hltm := Nat.lt_trans hltm hgs
          generalize wD.alloc (.cells (opsC [p5, p6]) 35) = wE at *
          generalize wD.heap.size = gs at *
          refine plan_run _ rfl (fun K hK => ?_)
          go_simp
          refine (hallc _ gs hsl).mono ?_
          rintro e wF ⟨ro, rc2, rfl, hRs2, hq, hfr⟩
          have hbF : Below wA.heap.size wA wF := hbE.trans (hq.mono hbE.size)
          refine hK.out _ _ hbF ?_
          clear hK K
          iterate 3
            first
              | (refine plan_pass _ rfl (by rfl) ?_)
              | (refine plan_take _ _ rfl (.inl ⟨by rfl, fun W hS => by clear hS; go_simp; try with_reducible rfl⟩) ?_)
            try simp only [Act.put, List.setIfInBounds_toArray, List.set_cons_zero, List.set_cons_succ]
          have hne : ∀ d, ro = some d → d.block ≠ gm := fun d hd e => by
            have := hfr d hd
            omega
          replace hM := hM.later hq
          replace hltm := Nat.lt_of_lt_of_le hltm hq.size
          clear hq
          have hbX := below_setRow hbF hgm (baseC Y)
          refine plan_store_has _ rfl (by rfl) 33 _ _ rfl gm rfl (baseC Y) rfl 33 (baseC base0) (base_size _) rfl (base_one _) hM hbX ?_
          try simp only [Act.put, List.setIfInBounds_toArray, List.set_cons_zero, List.set_cons_succ]
          have hYv := hM.row (baseC Y)
          have hRs3 := sl_row hRs2 hne (baseC Y)
          generalize wF.setRow gm (baseC Y) = w20 at *
          iterate 1
            first
              | (refine plan_pass _ rfl (by rfl) ?_)
              | (refine plan_take _ _ rfl (.inl ⟨by rfl, fun W hS => by clear hS; go_simp; try with_reducible rfl⟩) ?_)
            try simp only [Act.put, List.setIfInBounds_toArray, List.set_cons_zero, List.set_cons_succ]
          refine plan_done ?_
          clear hM hRs2
          replace hX := hX.later hbX
          replace hRd := hRd.later hbX
          replace hb := hb.trans (hbX.mono hb.size)
          cases ro with
          | none =>
            have h1 := hRs3.le
            have h2 := hRs3.nil rfl
            rw [h2] at h1
            cases h1
          | some d2 =>
          have s0 := res_at hRs3 0 (by show 0 < 2; decide) 0 (.int .u8 0) rfl
          rw [addr_zero, addr_zero] at s0
          have hrc2 := hRs3.cap
          have hrl2 : 2 ≤ rc2 := hRs3.le
          have hYa : w20.rangeAt gm 17 [strV [], strV [], strV []] := hYv.range _ _ (fun j v hj => by
            have hj3 : j < 3 := (List.getElem?_eq_some_iff.1 hj).1
            have := baseC_obj Y 3 (2 + j) v (by rw [hY6.obj]; match j, hj3 with | 0, _ => exact hj | 1, _ => exact hj | 2, _ => exact hj)
            rw [show 17 + j = (3 : Fin 6).val * 5 + (2 + j) by show 17 + j = 3 * 5 + (2 + j); omega]
            exact this)
          go_wp2_with (first
            | (refine wpList_load_has (by rfl) 33 _ rfl (gx) rfl 33 (baseC (X)) _ Tryd.underlying33 rfl (base_size _) ?hg ?_; (case hg => first | exact hX))
            | (refine wpList_load_has (by rfl) 35 _ rfl (gr) rfl 35 (opC (opR3)) _ Tryd.underlying35 rfl (op_size _) ?hg ?_; (case hg => first | exact hRd)))
          refine (S.read X opR3 _ hXo opR3_ok).mono ?_
          rintro e w21 ⟨rfl, hq⟩
          rw [hrX]
          have s0' : w21.cell? d2 = some (.int .u8 0) := by rw [hq.cell (World.block_lt_of_cell? w20 _ s0)]; exact s0
          have hYa' : w21.rangeAt gm 17 [strV [], strV [], strV []] := fun j v hj => by
            have hc := hYa j v hj
            rw [hq.cell (World.block_lt_of_cell? w20 _ hc)]
            exact hc
          replace hYv := hYv.later hq
          replace hRd := hRd.later hq
          replace hb := hb.trans (hq.mono hb.size)
          clear hq s0 hYa
          go_wp2_with (first
            | (refine wpList_load_mid' (by rfl) 22 _ rfl gm 17 rfl [strV [], strV [], strV []] _ ?hg Tryd.underlying22 rfl attrs_size0 ?_; (case hg => exact hYa'))
            | (refine wpList_build_has (by rfl) 22 #[] rfl #[strV [], strV [], strV []] (by simpa using attrs_built) ?_)
            | (refine wpList_bin_agg (by rfl) .eql 22 _ _ _ rfl #[strV [], strV [], strV []] #[strV [], strV [], strV []] rfl rfl (.bool true) guard_attrs ?hg ?_; (case hg => exact attrs_eq _))
            | (refine wpList_load_has (by rfl) 33 _ rfl (gm) rfl 33 (baseC (Y)) _ Tryd.underlying33 rfl (base_size _) ?hg ?_; (case hg => first | exact hYv))
            | (refine wpList_load_has (by rfl) 35 _ rfl (gr) rfl 35 (opC (opR3)) _ Tryd.underlying35 rfl (op_size _) ?hg ?_; (case hg => first | exact hRd)))
          refine (S.read Y opR3 _ hYo opR3_ok).mono ?_
          rintro e w22 ⟨rfl, hq⟩
          rw [hrY]
          replace hb := hb.trans (hq.mono hb.size)
          clear hq
          go_wp2_with fail
          go_ret
          exact ⟨rfl, hb⟩
      · refine plan_alloc_has _ rfl (by rfl) 33 rfl (baseC base0) base_zero (hbB.alloc hbB.size _) ?_
        try simp only [Act.put, List.setIfInBounds_toArray, List.set_cons_zero, List.set_cons_succ]
        have hM := Has.new wB 33 (baseC base0)
        have hqa : Below wB.heap.size wB (wB.alloc (.cells (baseC base0) 33)) := (Below.refl _ _).alloc (Nat.le_refl _) _
        have hbC : Below wA.heap.size wA (wB.alloc (.cells (baseC base0) 33)) := hbB.alloc hbB.size _
        have hgm : wA.heap.size ≤ wB.heap.size := hbB.size
        have hltm : wB.heap.size < (wB.alloc (.cells (baseC base0) 33)).heap.size := by simp
        clear hqa
        generalize wB.alloc (.cells (baseC base0) 33) = wC at *
        generalize wB.heap.size = gm at *
        refine plan_run _ rfl (fun K hK => ?_)
        go_simp
        refine (hm6 _).mono ?_
        rintro e wD ⟨rfl, hq⟩
        have hbD : Below wA.heap.size wA wD := hbC.trans (hq.mono hbC.size)
        refine hK.out _ _ hbD ?_
        clear hK K
        try simp only [Act.put, List.setIfInBounds_toArray, List.set_cons_zero, List.set_cons_succ]
        replace hM := hM.later hq
        replace hltm := Nat.lt_of_lt_of_le hltm hq.size
        clear hq
        have hsv := slice_two p5 p6 wD
        have hsl := slice_sl [p5, p6] (by show 2 ≤ 1000; decide) wD
        have hbE : Below wA.heap.size wA (wD.alloc (.cells (opsC [p5, p6]) 35)) := hbD.alloc hbD.size _
        have hgs : wD.heap.size < (wD.alloc (.cells (opsC [p5, p6]) 35)).heap.size := by simp
        refine plan_slice_two _ rfl (by rfl) 49 _ _ rfl (.agg (opC p5)) (.agg (opC p6)) rfl rfl (.slice (some ⟨wD.heap.size, 0, none⟩) 2 2) _ hsv hbE ?_
        try simp only [Act.put, List.setIfInBounds_toArray, List.set_cons_zero, List.set_cons_succ]
        replace hsl : Sl _ (some ⟨wD.heap.size, 0, none⟩) 2 6 (opR [p5, p6]) := hsl
        clear hsv
        replace hM := hM.alloc (.cells (opsC [p5, p6]) 35)
        replace hltm := Nat.lt_trans hltm hgs
        generalize wD.alloc (.cells (opsC [p5, p6]) 35) = wE at *
        generalize wD.heap.size = gs at *
        refine plan_run _ rfl (fun K hK => ?_)
        go_simp
        refine (hallc _ gs hsl).mono ?_
        rintro e wF ⟨ro, rc2, rfl, hRs2, hq, hfr⟩
        have hbF : Below wA.heap.size wA wF := hbE.trans (hq.mono hbE.size)
        refine hK.out _ _ hbF ?_
        clear hK K
        iterate 3
          first
            | (refine plan_pass _ rfl (by rfl) ?_)
            | (refine plan_take _ _ rfl (.inl ⟨by rfl, fun W hS => by clear hS; go_simp; try with_reducible rfl⟩) ?_)
          try simp only [Act.put, List.setIfInBounds_toArray, List.set_cons_zero, List.set_cons_succ]
        have hne : ∀ d, ro = some d → d.block ≠ gm := fun d hd e => by
          have := hfr d hd
          omega
        replace hM := hM.later hq
        replace hltm := Nat.lt_of_lt_of_le hltm hq.size
        clear hq
        have hbX := below_setRow hbF hgm (baseC Y)
        refine plan_store_has _ rfl (by rfl) 33 _ _ rfl gm rfl (baseC Y) rfl 33 (baseC base0) (base_size _) rfl (base_one _) hM hbX ?_
        try simp only [Act.put, List.setIfInBounds_toArray, List.set_cons_zero, List.set_cons_succ]
        have hYv := hM.row (baseC Y)
        have hRs3 := sl_row hRs2 hne (baseC Y)
        generalize wF.setRow gm (baseC Y) = w20 at *
        iterate 1
          first
            | (refine plan_pass _ rfl (by rfl) ?_)
            | (refine plan_take _ _ rfl (.inl ⟨by rfl, fun W hS => by clear hS; go_simp; try with_reducible rfl⟩) ?_)
          try simp only [Act.put, List.setIfInBounds_toArray, List.set_cons_zero, List.set_cons_succ]
        refine plan_done ?_
        clear hM hRs2
        replace hX := hX.later hbX
        replace hRd := hRd.later hbX
        replace hb := hb.trans (hbX.mono hb.size)
        cases ro with
        | none =>
          have h1 := hRs3.le
          have h2 := hRs3.nil rfl
          rw [h2] at h1
          cases h1
        | some d2 =>
        have s0 := res_at hRs3 0 (by show 0 < 2; decide) 0 (.int .u8 0) rfl
        rw [addr_zero, addr_zero] at s0
        have hrc2 := hRs3.cap
        have hrl2 : 2 ≤ rc2 := hRs3.le
        have hYa : w20.rangeAt gm 17 [strV [], strV [], strV []] := hYv.range _ _ (fun j v hj => by
          have hj3 : j < 3 := (List.getElem?_eq_some_iff.1 hj).1
          have := baseC_obj Y 3 (2 + j) v (by rw [hY6.obj]; match j, hj3 with | 0, _ => exact hj | 1, _ => exact hj | 2, _ => exact hj)
          rw [show 17 + j = (3 : Fin 6).val * 5 + (2 + j) by show 17 + j = 3 * 5 + (2 + j); omega]
          exact this)
        go_wp2_with (first
          | (refine wpList_load_has (by rfl) 33 _ rfl (gx) rfl 33 (baseC (X)) _ Tryd.underlying33 rfl (base_size _) ?hg ?_; (case hg => first | exact hX))
          | (refine wpList_load_has (by rfl) 35 _ rfl (gr) rfl 35 (opC (opR3)) _ Tryd.underlying35 rfl (op_size _) ?hg ?_; (case hg => first | exact hRd)))
        refine (S.read X opR3 _ hXo opR3_ok).mono ?_
        rintro e w21 ⟨rfl, hq⟩
        rw [hrX]
        have s0' : w21.cell? d2 = some (.int .u8 0) := by rw [hq.cell (World.block_lt_of_cell? w20 _ s0)]; exact s0
        have hYa' : w21.rangeAt gm 17 [strV [], strV [], strV []] := fun j v hj => by
          have hc := hYa j v hj
          rw [hq.cell (World.block_lt_of_cell? w20 _ hc)]
          exact hc
        replace hYv := hYv.later hq
        replace hRd := hRd.later hq
        replace hb := hb.trans (hq.mono hb.size)
        clear hq s0 hYa
        go_wp2_with (first
          | (refine wpList_load_mid' (by rfl) 22 _ rfl gm 17 rfl [strV [], strV [], strV []] _ ?hg Tryd.underlying22 rfl attrs_size0 ?_; (case hg => exact hYa'))
          | (refine wpList_build_has (by rfl) 22 #[] rfl #[strV [], strV [], strV []] (by simpa using attrs_built) ?_)
          | (refine wpList_bin_agg (by rfl) .eql 22 _ _ _ rfl #[strV [], strV [], strV []] #[strV [], strV [], strV []] rfl rfl (.bool true) guard_attrs ?hg ?_; (case hg => exact attrs_eq _))
          | (refine wpList_load_has (by rfl) 33 _ rfl (gm) rfl 33 (baseC (Y)) _ Tryd.underlying33 rfl (base_size _) ?hg ?_; (case hg => first | exact hYv))
          | (refine wpList_load_has (by rfl) 35 _ rfl (gr) rfl 35 (opC (opR3)) _ Tryd.underlying35 rfl (op_size _) ?hg ?_; (case hg => first | exact hRd)))
        refine (S.read Y opR3 _ hYo opR3_ok).mono ?_
        rintro e w22 ⟨rfl, hq⟩
        rw [hrY]
        replace hb := hb.trans (hq.mono hb.size)
        clear hq
        go_wp2_with fail
        go_ret
        exact ⟨rfl, hb⟩
    · refine plan_alloc_has _ rfl (by rfl) 33 rfl (baseC base0) base_zero (hbA.alloc hbA.size _) ?_
      try simp only [Act.put, List.setIfInBounds_toArray, List.set_cons_zero, List.set_cons_succ]
      have hM := Has.new wA.drew 33 (baseC base0)
      have hqa : Below wA.drew.heap.size wA.drew (wA.drew.alloc (.cells (baseC base0) 33)) := (Below.refl _ _).alloc (Nat.le_refl _) _
      have hbB : Below wA.heap.size wA (wA.drew.alloc (.cells (baseC base0) 33)) := hbA.alloc hbA.size _
      have hgm : wA.heap.size ≤ wA.drew.heap.size := hbA.size
      have hltm : wA.drew.heap.size < (wA.drew.alloc (.cells (baseC base0) 33)).heap.size := by simp
      clear hqa
      generalize wA.drew.alloc (.cells (baseC base0) 33) = wB at *
      generalize wA.drew.heap.size = gm at *
      refine plan_run _ rfl (fun K hK => ?_)
      go_simp
      refine (hm5 _).mono ?_
      rintro e wC ⟨rfl, hq⟩
      have hbC : Below wA.heap.size wA wC := hbB.trans (hq.mono hbB.size)
      refine hK.out _ _ hbC ?_
      clear hK K
      try simp only [Act.put, List.setIfInBounds_toArray, List.set_cons_zero, List.set_cons_succ]
      replace hM := hM.later hq
      replace hltm := Nat.lt_of_lt_of_le hltm hq.size
      clear hq
      refine plan_run _ rfl (fun K hK => ?_)
      go_simp
      refine (hm6 _).mono ?_
      rintro e wD ⟨rfl, hq⟩
      have hbD : Below wA.heap.size wA wD := hbC.trans (hq.mono hbC.size)
      refine hK.out _ _ hbD ?_
      clear hK K
      try simp only [Act.put, List.setIfInBounds_toArray, List.set_cons_zero, List.set_cons_succ]
      replace hM := hM.later hq
      replace hltm := Nat.lt_of_lt_of_le hltm hq.size
      clear hq
      have hsv := slice_two p5 p6 wD
      have hsl := slice_sl [p5, p6] (by show 2 ≤ 1000; decide) wD
      have hbE : Below wA.heap.size wA (wD.alloc (.cells (opsC [p5, p6]) 35)) := hbD.alloc hbD.size _
      have hgs : wD.heap.size < (wD.alloc (.cells (opsC [p5, p6]) 35)).heap.size := by simp
      refine plan_slice_two _ rfl (by rfl) 49 _ _ rfl (.agg (opC p5)) (.agg (opC p6)) rfl rfl (.slice (some ⟨wD.heap.size, 0, none⟩) 2 2) _ hsv hbE ?_
      try simp only [Act.put, List.setIfInBounds_toArray, List.set_cons_zero, List.set_cons_succ]
      replace hsl : Sl _ (some ⟨wD.heap.size, 0, none⟩) 2 6 (opR [p5, p6]) := hsl
      clear hsv
      replace hM := hM.alloc (.cells (opsC [p5, p6]) 35)
      replace hltm := Nat.lt_trans hltm hgs
      generalize wD.alloc (.cells (opsC [p5, p6]) 35) = wE at *
      generalize wD.heap.size = gs at *
      refine plan_run _ rfl (fun K hK => ?_)
      go_simp
      refine (hallc _ gs hsl).mono ?_
      rintro e wF ⟨ro, rc2, rfl, hRs2, hq, hfr⟩
      have hbF : Below wA.heap.size wA wF := hbE.trans (hq.mono hbE.size)
      refine hK.out _ _ hbF ?_
      clear hK K
      iterate 3
        first
          | (refine plan_pass _ rfl (by rfl) ?_)
          | (refine plan_take _ _ rfl (.inl ⟨by rfl, fun W hS => by clear hS; go_simp; try with_reducible rfl⟩) ?_)
        try simp only [Act.put, List.setIfInBounds_toArray, List.set_cons_zero, List.set_cons_succ]
      have hne : ∀ d, ro = some d → d.block ≠ gm := fun d hd e => by
        have := hfr d hd
        omega
      replace hM := hM.later hq
      replace hltm := Nat.lt_of_lt_of_le hltm hq.size
      clear hq
      have hbX := below_setRow hbF hgm (baseC Y)
      refine plan_store_has _ rfl (by rfl) 33 _ _ rfl gm rfl (baseC Y) rfl 33 (baseC base0) (base_size _) rfl (base_one _) hM hbX ?_
      try simp only [Act.put, List.setIfInBounds_toArray, List.set_cons_zero, List.set_cons_succ]
      have hYv := hM.row (baseC Y)
      have hRs3 := sl_row hRs2 hne (baseC Y)
      generalize wF.setRow gm (baseC Y) = w20 at *
      iterate 1
        first
          | (refine plan_pass _ rfl (by rfl) ?_)
          | (refine plan_take _ _ rfl (.inl ⟨by rfl, fun W hS => by clear hS; go_simp; try with_reducible rfl⟩) ?_)
        try simp only [Act.put, List.setIfInBounds_toArray, List.set_cons_zero, List.set_cons_succ]
      refine plan_done ?_
      clear hM hRs2
      replace hX := hX.later hbX
      replace hRd := hRd.later hbX
      replace hb := hb.trans (hbX.mono hb.size)
      cases ro with
      | none =>
        have h1 := hRs3.le
        have h2 := hRs3.nil rfl
        rw [h2] at h1
        cases h1
      | some d2 =>
      have s0 := res_at hRs3 0 (by show 0 < 2; decide) 0 (.int .u8 0) rfl
      rw [addr_zero, addr_zero] at s0
      have hrc2 := hRs3.cap
      have hrl2 : 2 ≤ rc2 := hRs3.le
      have hYa : w20.rangeAt gm 17 [strV [], strV [], strV []] := hYv.range _ _ (fun j v hj => by
        have hj3 : j < 3 := (List.getElem?_eq_some_iff.1 hj).1
        have := baseC_obj Y 3 (2 + j) v (by rw [hY6.obj]; match j, hj3 with | 0, _ => exact hj | 1, _ => exact hj | 2, _ => exact hj)
        rw [show 17 + j = (3 : Fin 6).val * 5 + (2 + j) by show 17 + j = 3 * 5 + (2 + j); omega]
        exact this)
      go_wp2_with (first
        | (refine wpList_load_has (by rfl) 33 _ rfl (gx) rfl 33 (baseC (X)) _ Tryd.underlying33 rfl (base_size _) ?hg ?_; (case hg => first | exact hX))
        | (refine wpList_load_has (by rfl) 35 _ rfl (gr) rfl 35 (opC (opR3)) _ Tryd.underlying35 rfl (op_size _) ?hg ?_; (case hg => first | exact hRd)))
      refine (S.read X opR3 _ hXo opR3_ok).mono ?_
      rintro e w21 ⟨rfl, hq⟩
      rw [hrX]
      have s0' : w21.cell? d2 = some (.int .u8 0) := by rw [hq.cell (World.block_lt_of_cell? w20 _ s0)]; exact s0
      have hYa' : w21.rangeAt gm 17 [strV [], strV [], strV []] := fun j v hj => by
        have hc := hYa j v hj
        rw [hq.cell (World.block_lt_of_cell? w20 _ hc)]
        exact hc
      replace hYv := hYv.later hq
      replace hRd := hRd.later hq
      replace hb := hb.trans (hq.mono hb.size)
      clear hq s0 hYa
      go_wp2_with (first
        | (refine wpList_load_mid' (by rfl) 22 _ rfl gm 17 rfl [strV [], strV [], strV []] _ ?hg Tryd.underlying22 rfl attrs_size0 ?_; (case hg => exact hYa'))
        | (refine wpList_build_has (by rfl) 22 #[] rfl #[strV [], strV [], strV []] (by simpa using attrs_built) ?_)
        | (refine wpList_bin_agg (by rfl) .eql 22 _ _ _ rfl #[strV [], strV [], strV []] #[strV [], strV [], strV []] rfl rfl (.bool true) guard_attrs ?hg ?_; (case hg => exact attrs_eq _))
        | (refine wpList_load_has (by rfl) 33 _ rfl (gm) rfl 33 (baseC (Y)) _ Tryd.underlying33 rfl (base_size _) ?hg ?_; (case hg => first | exact hYv))
        | (refine wpList_load_has (by rfl) 35 _ rfl (gr) rfl 35 (opC (opR3)) _ Tryd.underlying35 rfl (op_size _) ?hg ?_; (case hg => first | exact hRd)))
      refine (S.read Y opR3 _ hYo opR3_ok).mono ?_
      rintro e w22 ⟨rfl, hq⟩
      rw [hrY]
      replace hb := hb.trans (hq.mono hb.size)
      clear hq
      go_wp2_with fail
      go_ret
      exact ⟨rfl, hb⟩
  · have hV1 : attrS i b = 59 :: UInt8.ofNat (48 + i) :: 61 :: b := by unfold attrS; rw [if_neg (fun h => hbe (by rw [h]; rfl))]
    rw [hV1] at hrX
    rw [decide_eq_false hbe] at hem
    obtain ⟨C, hC⟩ : ∃ L, L = [UInt8.ofNat (48 + i)] := ⟨_, rfl⟩
    obtain ⟨S1, hS1⟩ : ∃ L : List UInt8, L = [113] ++ [59] := ⟨_, rfl⟩
    obtain ⟨S2, hS2⟩ : ∃ L, L = S1 ++ C := ⟨_, rfl⟩
    obtain ⟨S3, hS3⟩ : ∃ L, L = S2 ++ [61] := ⟨_, rfl⟩
    obtain ⟨Wt, hWt⟩ : ∃ L, L = S3 ++ b := ⟨_, rfl⟩
    have hrX' : readM X opR3 = ⟨0, Wt⟩ := by rw [hrX, hWt, hS3, hS2, hS1, hC]; simp
    clear hrX
    have hrX := hrX'
    clear hrX'
    have l1 : S1.length = 2 := by rw [hS1]; rfl
    have l2 : S2.length = 3 := by rw [hS2, List.length_append, l1, hC]; rfl
    have l3 : S3.length = 4 := by rw [hS3, List.length_append, l2]; rfl
    have e1 : ∀ W : World, (Op.stringOp .add (ByteArray.mk #[113]) (ByteArray.mk #[59])).run Tryd.prog W = .ok (.string (mkS S1)) W := fun W => by rw [hS1]; exact addS W [113] [59] (by decide)
    have e2 : ∀ W : World, (Op.stringOp .add (mkS S1) (mkS C)).run Tryd.prog W = .ok (.string (mkS S2)) W := fun W => by rw [hS2]; exact addS W S1 C (by rw [l1, hC]; show 2 + 1 ≤ _; decide)
    have e3 : ∀ W : World, (Op.stringOp .add (mkS S2) (ByteArray.mk #[61])).run Tryd.prog W = .ok (.string (mkS S3)) W := fun W => by rw [hS3]; exact addS W S2 [61] (by rw [l2]; decide)
    have e4 : ∀ W : World, (Op.stringOp .add (mkS S3) (mkS b)).run Tryd.prog W = .ok (.string (mkS Wt)) W := fun W => by rw [hWt]; exact addS W S3 b (by omega)
    have hcv : (convert 50 9 (.slice (some ⟨w9.heap.size, 0, none⟩) 1 1)).run Tryd.prog (w9.alloc (.cells #[.int .u8 (48 + (i : Int))] 5)) = .ok (.string (mkS C)) (w9.alloc (.cells #[.int .u8 (48 + (i : Int))] 5)) := by
      have := run_convert_bytes_arg (P := Tryd.prog) (w9.alloc (.cells #[.int .u8 (48 + (i : Int))] 5)) 50 5 Tryd.underlying50 Tryd.underlying5 w9.heap.size 0 1 1 [48 + (i : Int)] rfl (fun j hj => by
        obtain rfl : j = 0 := by omega
        exact (Has.new w9 5 #[.int .u8 (48 + (i : Int))]).cell 0) 9 Tryd.underlying9
      rw [this, hC]
      match i, hi3 with
      | 0, _ => rfl
      | 1, _ => rfl
      | 2, _ => rfl
    have hwi : IntKind.u8.wrap (48 + (i : Int)) = 48 + (i : Int) := by
      simp [IntKind.wrap, IntKind.bits, IntKind.signed]
      omega
    have hbn : Below w9.heap.size w9 (w9.alloc (.cells #[.int .u8 (48 + (i : Int))] 5)) := (Below.refl _ _).alloc (Nat.le_refl _) _
    clear hS1 hS2 hS3 hWt l1 l2 l3 hV1 hC
    go_wp2_with (first
      | (refine wpList_alloc_has (by rfl) 33 rfl (baseC base0) base_zero ?_)
      | (refine wpList_store_to (by rfl) 33 _ _ rfl w8.heap.size rfl (baseC X) rfl 33 (baseC base0) (base_size _) rfl (base_one _) ?hg w9 ?hW ?_; (case hg => exact Has.new _ _ _); (case hW => exact hw9); clear hw9; generalize w8.heap.size = gx at *))
    replace hX := hX.later hbn
    replace hRd := hRd.later hbn
    replace hb := hb.trans (hbn.mono hb.size)
    have hfld := fun (W : World) => field_res ⟨0, Wt⟩ W
    have hfld2 : ∀ W : World, (Instr.field 28 (.agg (resC ⟨0, [122]⟩)) 1).run Tryd.prog W = .ok (.string (ByteArray.mk #[122])) W := fun W => field_res ⟨0, [122]⟩ W
    clear hbn hcv e1 e2 e3 e4 hem hwi hRs p0 p2 hc3
    generalize w9.alloc (.cells #[.int .u8 (48 + (i : Int))] 5) = wA at *
    have hbA : Below wA.heap.size wA wA.drew := (Below.refl _ _).drew
    refine wp_region_plan (fun W => Below wA.heap.size wA W) (Plan.of [(0, true)] (.either 1 (.either 2 (.either 3 (.either 4 (Plan.of [(5, true), (6, true), (7, true), (8, false), (9, false), (10, true)] .done) 8 (Plan.of [(4, false), (5, true), (6, true), (7, true), (9, false), (10, true)] .done)) 8 (Plan.of [(3, false), (4, false), (5, true), (6, true), (7, true), (9, false), (10, true)] .done)) 8 (Plan.of [(2, false), (3, false), (4, false), (5, true), (6, true), (7, true), (9, false), (10, true)] .done)) 8 (Plan.of [(1, false), (2, false), (3, false), (4, false), (5, true), (6, true), (7, true), (9, false), (10, true)] .done))) (by kernel_rfl) (by kernel_rfl) (by kernel_rfl) (by kernel_rfl) hbA ?_
    refine plan_take _ _ rfl (yields_load_has (by rfl) 33 _ rfl gx rfl 33 (baseC X) _ Tryd.underlying33 rfl (base_size _) (fun W h => hX.later h)) ?_
    try simp only [Act.put, List.setIfInBounds_toArray, List.set_cons_zero, List.set_cons_succ]
    refine plan_either ?_ ?_
    · refine plan_run _ rfl (fun K hK => ?_)
      go_simp
      refine (hm5 _).mono ?_
      rintro e wB ⟨rfl, hq⟩
      have hbB : Below wA.heap.size wA wB := hbA.trans (hq.mono hbA.size)
      refine hK.out _ _ hbB ?_
      clear hK K
      try simp only [Act.put, List.setIfInBounds_toArray, List.set_cons_zero, List.set_cons_succ]
      clear hq
      refine plan_either ?_ ?_
      · refine plan_run _ rfl (fun K hK => ?_)
        go_simp
        refine (hm6 _).mono ?_
        rintro e wC ⟨rfl, hq⟩
        have hbC : Below wA.heap.size wA wC := hbB.trans (hq.mono hbB.size)
        refine hK.out _ _ hbC ?_
        clear hK K
        try simp only [Act.put, List.setIfInBounds_toArray, List.set_cons_zero, List.set_cons_succ]
        clear hq
        refine plan_either ?_ ?_
        · have hsv := slice_two p5 p6 wC
          have hsl := slice_sl [p5, p6] (by show 2 ≤ 1000; decide) wC
          have hbD : Below wA.heap.size wA (wC.alloc (.cells (opsC [p5, p6]) 35)) := hbC.alloc hbC.size _
          have hgs : wC.heap.size < (wC.alloc (.cells (opsC [p5, p6]) 35)).heap.size := by simp
          refine plan_slice_two _ rfl (by rfl) 49 _ _ rfl (.agg (opC p5)) (.agg (opC p6)) rfl rfl (.slice (some ⟨wC.heap.size, 0, none⟩) 2 2) _ hsv hbD ?_
          try simp only [Act.put, List.setIfInBounds_toArray, List.set_cons_zero, List.set_cons_succ]
          replace hsl : Sl _ (some ⟨wC.heap.size, 0, none⟩) 2 6 (opR [p5, p6]) := hsl
          clear hsv
          generalize wC.alloc (.cells (opsC [p5, p6]) 35) = wD at *
          generalize wC.heap.size = gs at *
          refine plan_either ?_ ?_
          · refine plan_run _ rfl (fun K hK => ?_)
            go_simp
            refine (hallc _ gs hsl).mono ?_
            rintro e wE ⟨ro, rc2, rfl, hRs2, hq, hfr⟩
            have hbE : Below wA.heap.size wA wE := hbD.trans (hq.mono hbD.size)
            refine hK.out _ _ hbE ?_
            clear hK K
            iterate 3
              first
                | (refine plan_pass _ rfl (by rfl) ?_)
                | (refine plan_take _ _ rfl (.inl ⟨by rfl, fun W hS => by clear hS; go_simp; try with_reducible rfl⟩) ?_)
              try simp only [Act.put, List.setIfInBounds_toArray, List.set_cons_zero, List.set_cons_succ]
            clear hq
            refine plan_alloc_has _ rfl (by rfl) 33 rfl (baseC base0) base_zero (hbE.alloc hbE.size _) ?_
            try simp only [Act.put, List.setIfInBounds_toArray, List.set_cons_zero, List.set_cons_succ]
            have hM := Has.new wE 33 (baseC base0)
            have hqa : Below wE.heap.size wE (wE.alloc (.cells (baseC base0) 33)) := (Below.refl _ _).alloc (Nat.le_refl _) _
            have hbF : Below wA.heap.size wA (wE.alloc (.cells (baseC base0) 33)) := hbE.alloc hbE.size _
            have hgm : wA.heap.size ≤ wE.heap.size := hbE.size
            have hltm : wE.heap.size < (wE.alloc (.cells (baseC base0) 33)).heap.size := by simp
            have hne : ∀ d, ro = some d → d.block ≠ wE.heap.size := fun d hd e => by
              subst hd
              have := sl_lt hRs2
              omega
            replace hRs2 := hRs2.later hqa
            clear hqa
            generalize wE.alloc (.cells (baseC base0) 33) = wF at *
            generalize wE.heap.size = gm at *
            have hbX := below_setRow hbF hgm (baseC Y)
            refine plan_store_has _ rfl (by rfl) 33 _ _ rfl gm rfl (baseC Y) rfl 33 (baseC base0) (base_size _) rfl (base_one _) hM hbX ?_
            try simp only [Act.put, List.setIfInBounds_toArray, List.set_cons_zero, List.set_cons_succ]
            have hYv := hM.row (baseC Y)
            have hRs3 := sl_row hRs2 hne (baseC Y)
            generalize wF.setRow gm (baseC Y) = w20 at *
            iterate 1
              first
                | (refine plan_pass _ rfl (by rfl) ?_)
                | (refine plan_take _ _ rfl (.inl ⟨by rfl, fun W hS => by clear hS; go_simp; try with_reducible rfl⟩) ?_)
              try simp only [Act.put, List.setIfInBounds_toArray, List.set_cons_zero, List.set_cons_succ]
            refine plan_done ?_
            clear hM hRs2
            replace hX := hX.later hbX
            replace hRd := hRd.later hbX
            replace hb := hb.trans (hbX.mono hb.size)
            cases ro with
            | none =>
              have h1 := hRs3.le
              have h2 := hRs3.nil rfl
              rw [h2] at h1
              cases h1
            | some d2 =>
            have s0 := res_at hRs3 0 (by show 0 < 2; decide) 0 (.int .u8 0) rfl
            rw [addr_zero, addr_zero] at s0
            have hrc2 := hRs3.cap
            have hrl2 : 2 ≤ rc2 := hRs3.le
            have hYa : w20.rangeAt gm 17 [strV [], strV [], strV []] := hYv.range _ _ (fun j v hj => by
              have hj3 : j < 3 := (List.getElem?_eq_some_iff.1 hj).1
              have := baseC_obj Y 3 (2 + j) v (by rw [hY6.obj]; match j, hj3 with | 0, _ => exact hj | 1, _ => exact hj | 2, _ => exact hj)
              rw [show 17 + j = (3 : Fin 6).val * 5 + (2 + j) by show 17 + j = 3 * 5 + (2 + j); omega]
              exact this)
            go_wp2_with (first
              | (refine wpList_load_has (by rfl) 33 _ rfl (gx) rfl 33 (baseC (X)) _ Tryd.underlying33 rfl (base_size _) ?hg ?_; (case hg => first | exact hX))
              | (refine wpList_load_has (by rfl) 35 _ rfl (gr) rfl 35 (opC (opR3)) _ Tryd.underlying35 rfl (op_size _) ?hg ?_; (case hg => first | exact hRd)))
            refine (S.read X opR3 _ hXo opR3_ok).mono ?_
            rintro e w21 ⟨rfl, hq⟩
            rw [hrX]
            have s0' : w21.cell? d2 = some (.int .u8 0) := by rw [hq.cell (World.block_lt_of_cell? w20 _ s0)]; exact s0
            have hYa' : w21.rangeAt gm 17 [strV [], strV [], strV []] := fun j v hj => by
              have hc := hYa j v hj
              rw [hq.cell (World.block_lt_of_cell? w20 _ hc)]
              exact hc
            replace hYv := hYv.later hq
            replace hRd := hRd.later hq
            replace hb := hb.trans (hq.mono hb.size)
            clear hq s0 hYa
            go_wp2_with (first
              | (refine wpList_load_mid' (by rfl) 22 _ rfl gm 17 rfl [strV [], strV [], strV []] _ ?hg Tryd.underlying22 rfl attrs_size0 ?_; (case hg => exact hYa'))
              | (refine wpList_build_has (by rfl) 22 #[] rfl #[strV [], strV [], strV []] (by simpa using attrs_built) ?_)
              | (refine wpList_bin_agg (by rfl) .eql 22 _ _ _ rfl #[strV [], strV [], strV []] #[strV [], strV [], strV []] rfl rfl (.bool true) guard_attrs ?hg ?_; (case hg => exact attrs_eq _))
              | (refine wpList_load_has (by rfl) 33 _ rfl (gm) rfl 33 (baseC (Y)) _ Tryd.underlying33 rfl (base_size _) ?hg ?_; (case hg => first | exact hYv))
              | (refine wpList_load_has (by rfl) 35 _ rfl (gr) rfl 35 (opC (opR3)) _ Tryd.underlying35 rfl (op_size _) ?hg ?_; (case hg => first | exact hRd)))
            refine (S.read Y opR3 _ hYo opR3_ok).mono ?_
            rintro e w22 ⟨rfl, hq⟩
            rw [hrY]
            replace hb := hb.trans (hq.mono hb.size)
            clear hq
            go_wp2_with fail
            go_ret
            exact ⟨rfl, hb⟩
          · refine plan_alloc_has _ rfl (by rfl) 33 rfl (baseC base0) base_zero (hbD.alloc hbD.size _) ?_
            try simp only [Act.put, List.setIfInBounds_toArray, List.set_cons_zero, List.set_cons_succ]
            have hM := Has.new wD 33 (baseC base0)
            have hqa : Below wD.heap.size wD (wD.alloc (.cells (baseC base0) 33)) := (Below.refl _ _).alloc (Nat.le_refl _) _
            have hbE : Below wA.heap.size wA (wD.alloc (.cells (baseC base0) 33)) := hbD.alloc hbD.size _
            have hgm : wA.heap.size ≤ wD.heap.size := hbD.size
            have hltm : wD.heap.size < (wD.alloc (.cells (baseC base0) 33)).heap.size := by simp
            replace hsl := hsl.later hqa
            clear hqa
            generalize wD.alloc (.cells (baseC base0) 33) = wE at *
            generalize wD.heap.size = gm at *
            refine plan_run _ rfl (fun K hK => ?_)
            go_simp
            refine (hallc _ gs hsl).mono ?_
            rintro e wF ⟨ro, rc2, rfl, hRs2, hq, hfr⟩
            have hbF : Below wA.heap.size wA wF := hbE.trans (hq.mono hbE.size)
            refine hK.out _ _ hbF ?_
            clear hK K
            iterate 3
              first
                | (refine plan_pass _ rfl (by rfl) ?_)
                | (refine plan_take _ _ rfl (.inl ⟨by rfl, fun W hS => by clear hS; go_simp; try with_reducible rfl⟩) ?_)
              try simp only [Act.put, List.setIfInBounds_toArray, List.set_cons_zero, List.set_cons_succ]
            have hne : ∀ d, ro = some d → d.block ≠ gm := fun d hd e => by
              have := hfr d hd
              omega
            replace hM := hM.later hq
            replace hltm := Nat.lt_of_lt_of_le hltm hq.size
            clear hq
            have hbX := below_setRow hbF hgm (baseC Y)
            refine plan_store_has _ rfl (by rfl) 33 _ _ rfl gm rfl (baseC Y) rfl 33 (baseC base0) (base_size _) rfl (base_one _) hM hbX ?_
            try simp only [Act.put, List.setIfInBounds_toArray, List.set_cons_zero, List.set_cons_succ]
            have hYv := hM.row (baseC Y)
            have hRs3 := sl_row hRs2 hne (baseC Y)
            generalize wF.setRow gm (baseC Y) = w20 at *
            iterate 1
              first
                | (refine plan_pass _ rfl (by rfl) ?_)
                | (refine plan_take _ _ rfl (.inl ⟨by rfl, fun W hS => by clear hS; go_simp; try with_reducible rfl⟩) ?_)
              try simp only [Act.put, List.setIfInBounds_toArray, List.set_cons_zero, List.set_cons_succ]
            refine plan_done ?_
            clear hM hRs2
            replace hX := hX.later hbX
            replace hRd := hRd.later hbX
            replace hb := hb.trans (hbX.mono hb.size)
            cases ro with
            | none =>
              have h1 := hRs3.le
              have h2 := hRs3.nil rfl
              rw [h2] at h1
              cases h1
            | some d2 =>
            have s0 := res_at hRs3 0 (by show 0 < 2; decide) 0 (.int .u8 0) rfl
            rw [addr_zero, addr_zero] at s0
            have hrc2 := hRs3.cap
            have hrl2 : 2 ≤ rc2 := hRs3.le
            have hYa : w20.rangeAt gm 17 [strV [], strV [], strV []] := hYv.range _ _ (fun j v hj => by
              have hj3 : j < 3 := (List.getElem?_eq_some_iff.1 hj).1
              have := baseC_obj Y 3 (2 + j) v (by rw [hY6.obj]; match j, hj3 with | 0, _ => exact hj | 1, _ => exact hj | 2, _ => exact hj)
              rw [show 17 + j = (3 : Fin 6).val * 5 + (2 + j) by show 17 + j = 3 * 5 + (2 + j); omega]
              exact this)
            go_wp2_with (first
              | (refine wpList_load_has (by rfl) 33 _ rfl (gx) rfl 33 (baseC (X)) _ Tryd.underlying33 rfl (base_size _) ?hg ?_; (case hg => first | exact hX))
              | (refine wpList_load_has (by rfl) 35 _ rfl (gr) rfl 35 (opC (opR3)) _ Tryd.underlying35 rfl (op_size _) ?hg ?_; (case hg => first | exact hRd)))
            refine (S.read X opR3 _ hXo opR3_ok).mono ?_
            rintro e w21 ⟨rfl, hq⟩
            rw [hrX]
            have s0' : w21.cell? d2 = some (.int .u8 0) := by rw [hq.cell (World.block_lt_of_cell? w20 _ s0)]; exact s0
            have hYa' : w21.rangeAt gm 17 [strV [], strV [], strV []] := fun j v hj => by
              have hc := hYa j v hj
              rw [hq.cell (World.block_lt_of_cell? w20 _ hc)]
              exact hc
            replace hYv := hYv.later hq
            replace hRd := hRd.later hq
            replace hb := hb.trans (hq.mono hb.size)
            clear hq s0 hYa
            go_wp2_with (first
              | (refine wpList_load_mid' (by rfl) 22 _ rfl gm 17 rfl [strV [], strV [], strV []] _ ?hg Tryd.underlying22 rfl attrs_size0 ?_; (case hg => exact hYa'))
              | (refine wpList_build_has (by rfl) 22 #[] rfl #[strV [], strV [], strV []] (by simpa using attrs_built) ?_)
              | (refine wpList_bin_agg (by rfl) .eql 22 _ _ _ rfl #[strV [], strV [], strV []] #[strV [], strV [], strV []] rfl rfl (.bool true) guard_attrs ?hg ?_; (case hg => exact attrs_eq _))
              | (refine wpList_load_has (by rfl) 33 _ rfl (gm) rfl 33 (baseC (Y)) _ Tryd.underlying33 rfl (base_size _) ?hg ?_; (case hg => first | exact hYv))
              | (refine wpList_load_has (by rfl) 35 _ rfl (gr) rfl 35 (opC (opR3)) _ Tryd.underlying35 rfl (op_size _) ?hg ?_; (case hg => first | exact hRd)))
            refine (S.read Y opR3 _ hYo opR3_ok).mono ?_
            rintro e w22 ⟨rfl, hq⟩
            rw [hrY]
            replace hb := hb.trans (hq.mono hb.size)
            clear hq
            go_wp2_with fail
            go_ret
            exact ⟨rfl, hb⟩
        · refine plan_alloc_has _ rfl (by rfl) 33 rfl (baseC base0) base_zero (hbC.alloc hbC.size _) ?_
          try simp only [Act.put, List.setIfInBounds_toArray, List.set_cons_zero, List.set_cons_succ]
          have hM := Has.new wC 33 (baseC base0)
          have hqa : Below wC.heap.size wC (wC.alloc (.cells (baseC base0) 33)) := (Below.refl _ _).alloc (Nat.le_refl _) _
          have hbD : Below wA.heap.size wA (wC.alloc (.cells (baseC base0) 33)) := hbC.alloc hbC.size _
          have hgm : wA.heap.size ≤ wC.heap.size := hbC.size
          have hltm : wC.heap.size < (wC.alloc (.cells (baseC base0) 33)).heap.size := by simp
          clear hqa
          generalize wC.alloc (.cells (baseC base0) 33) = wD at *
          generalize wC.heap.size = gm at *
          have hsv := slice_two p5 p6 wD
          have hsl := slice_sl [p5, p6] (by show 2 ≤ 1000; decide) wD
          have hbE : Below wA.heap.size wA (wD.alloc (.cells (opsC [p5, p6]) 35)) := hbD.alloc hbD.size _
          have hgs : wD.heap.size < (wD.alloc (.cells (opsC [p5, p6]) 35)).heap.size := by simp
          refine plan_slice_two _ rfl (by rfl) 49 _ _ rfl (.agg (opC p5)) (.agg (opC p6)) rfl rfl (.slice (some ⟨wD.heap.size, 0, none⟩) 2 2) _ hsv hbE ?_
          try simp only [Act.put, List.setIfInBounds_toArray, List.set_cons_zero, List.set_cons_succ]
          replace hsl : Sl _ (some ⟨wD.heap.size, 0, none⟩) 2 6 (opR [p5, p6]) := hsl
          clear hsv
          replace hM := hM.alloc (.cells (opsC [p5, p6]) 35)
          replace hltm := Nat.lt_trans hltm hgs
          generalize wD.alloc (.cells (opsC [p5, p6]) 35) = wE at *
          generalize wD.heap.size = gs at *
          refine plan_run _ rfl (fun K hK => ?_)
          go_simp
          refine (hallc _ gs hsl).mono ?_
          rintro e wF ⟨ro, rc2, rfl, hRs2, hq, hfr⟩
          have hbF : Below wA.heap.size wA wF := hbE.trans (hq.mono hbE.size)
          refine hK.out _ _ hbF ?_
          clear hK K
          iterate 3
            first
              | (refine plan_pass _ rfl (by rfl) ?_)
              | (refine plan_take _ _ rfl (.inl ⟨by rfl, fun W hS => by clear hS; go_simp; try with_reducible rfl⟩) ?_)
            try simp only [Act.put, List.setIfInBounds_toArray, List.set_cons_zero, List.set_cons_succ]
          have hne : ∀ d, ro = some d → d.block ≠ gm := fun d hd e => by
            have := hfr d hd
            omega
          replace hM := hM.later hq
          replace hltm := Nat.lt_of_lt_of_le hltm hq.size
          clear hq
          have hbX := below_setRow hbF hgm (baseC Y)
          refine plan_store_has _ rfl (by rfl) 33 _ _ rfl gm rfl (baseC Y) rfl 33 (baseC base0) (base_size _) rfl (base_one _) hM hbX ?_
          try simp only [Act.put, List.setIfInBounds_toArray, List.set_cons_zero, List.set_cons_succ]
          have hYv := hM.row (baseC Y)
          have hRs3 := sl_row hRs2 hne (baseC Y)
          generalize wF.setRow gm (baseC Y) = w20 at *
          iterate 1
            first
              | (refine plan_pass _ rfl (by rfl) ?_)
              | (refine plan_take _ _ rfl (.inl ⟨by rfl, fun W hS => by clear hS; go_simp; try with_reducible rfl⟩) ?_)
            try simp only [Act.put, List.setIfInBounds_toArray, List.set_cons_zero, List.set_cons_succ]
          refine plan_done ?_
          clear hM hRs2
          replace hX := hX.later hbX
          replace hRd := hRd.later hbX
          replace hb := hb.trans (hbX.mono hb.size)
          cases ro with
          | none =>
            have h1 := hRs3.le
            have h2 := hRs3.nil rfl
            rw [h2] at h1
            cases h1
          | some d2 =>
          have s0 := res_at hRs3 0 (by show 0 < 2; decide) 0 (.int .u8 0) rfl
          rw [addr_zero, addr_zero] at s0
          have hrc2 := hRs3.cap
          have hrl2 : 2 ≤ rc2 := hRs3.le
          have hYa : w20.rangeAt gm 17 [strV [], strV [], strV []] := hYv.range _ _ (fun j v hj => by
            have hj3 : j < 3 := (List.getElem?_eq_some_iff.1 hj).1
            have := baseC_obj Y 3 (2 + j) v (by rw [hY6.obj]; match j, hj3 with | 0, _ => exact hj | 1, _ => exact hj | 2, _ => exact hj)
            rw [show 17 + j = (3 : Fin 6).val * 5 + (2 + j) by show 17 + j = 3 * 5 + (2 + j); omega]
            exact this)
          go_wp2_with (first
            | (refine wpList_load_has (by rfl) 33 _ rfl (gx) rfl 33 (baseC (X)) _ Tryd.underlying33 rfl (base_size _) ?hg ?_; (case hg => first | exact hX))
            | (refine wpList_load_has (by rfl) 35 _ rfl (gr) rfl 35 (opC (opR3)) _ Tryd.underlying35 rfl (op_size _) ?hg ?_; (case hg => first | exact hRd)))
          refine (S.read X opR3 _ hXo opR3_ok).mono ?_
          rintro e w21 ⟨rfl, hq⟩
          rw [hrX]
          have s0' : w21.cell? d2 = some (.int .u8 0) := by rw [hq.cell (World.block_lt_of_cell? w20 _ s0)]; exact s0
          have hYa' : w21.rangeAt gm 17 [strV [], strV [], strV []] := fun j v hj => by
            have hc := hYa j v hj
            rw [hq.cell (World.block_lt_of_cell? w20 _ hc)]
            exact hc
          replace hYv := hYv.later hq
          replace hRd := hRd.later hq
          replace hb := hb.trans (hq.mono hb.size)
          clear hq s0 hYa
          go_wp2_with (first
            | (refine wpList_load_mid' (by rfl) 22 _ rfl gm 17 rfl [strV [], strV [], strV []] _ ?hg Tryd.underlying22 rfl attrs_size0 ?_; (case hg => exact hYa'))
            | (refine wpList_build_has (by rfl) 22 #[] rfl #[strV [], strV [], strV []] (by simpa using attrs_built) ?_)
            | (refine wpList_bin_agg (by rfl) .eql 22 _ _ _ rfl #[strV [], strV [], strV []] #[strV [], strV [], strV []] rfl rfl (.bool true) guard_attrs ?hg ?_; (case hg => exact attrs_eq _))
            | (refine wpList_load_has (by rfl) 33 _ rfl (gm) rfl 33 (baseC (Y)) _ Tryd.underlying33 rfl (base_size _) ?hg ?_; (case hg => first | exact hYv))
            | (refine wpList_load_has (by rfl) 35 _ rfl (gr) rfl 35 (opC (opR3)) _ Tryd.underlying35 rfl (op_size _) ?hg ?_; (case hg => first | exact hRd)))
          refine (S.read Y opR3 _ hYo opR3_ok).mono ?_
          rintro e w22 ⟨rfl, hq⟩
          rw [hrY]
          replace hb := hb.trans (hq.mono hb.size)
          clear hq
          go_wp2_with fail
          go_ret
          exact ⟨rfl, hb⟩
      · refine plan_alloc_has _ rfl (by rfl) 33 rfl (baseC base0) base_zero (hbB.alloc hbB.size _) ?_
        try simp only [Act.put, List.setIfInBounds_toArray, List.set_cons_zero, List.set_cons_succ]
        have hM := Has.new wB 33 (baseC base0)
        have hqa : Below wB.heap.size wB (wB.alloc (.cells (baseC base0) 33)) := (Below.refl _ _).alloc (Nat.le_refl _) _
        have hbC : Below wA.heap.size wA (wB.alloc (.cells (baseC base0) 33)) := hbB.alloc hbB.size _
        have hgm : wA.heap.size ≤ wB.heap.size := hbB.size
        have hltm : wB.heap.size < (wB.alloc (.cells (baseC base0) 33)).heap.size := by simp
        clear hqa
        generalize wB.alloc (.cells (baseC base0) 33) = wC at *
        generalize wB.heap.size = gm at *
        refine plan_run _ rfl (fun K hK => ?_)
        go_simp
        refine (hm6 _).mono ?_
        rintro e wD ⟨rfl, hq⟩
        have hbD : Below wA.heap.size wA wD := hbC.trans (hq.mono hbC.size)
        refine hK.out _ _ hbD ?_
        clear hK K
        try simp only [Act.put, List.setIfInBounds_toArray, List.set_cons_zero, List.set_cons_succ]
        replace hM := hM.later hq
        replace hltm := Nat.lt_of_lt_of_le hltm hq.size
        clear hq
        have hsv := slice_two p5 p6 wD
        have hsl := slice_sl [p5, p6] (by show 2 ≤ 1000; decide) wD
        have hbE : Below wA.heap.size wA (wD.alloc (.cells (opsC [p5, p6]) 35)) := hbD.alloc hbD.size _
        have hgs : wD.heap.size < (wD.alloc (.cells (opsC [p5, p6]) 35)).heap.size := by simp
        refine plan_slice_two _ rfl (by rfl) 49 _ _ rfl (.agg (opC p5)) (.agg (opC p6)) rfl rfl (.slice (some ⟨wD.heap.size, 0, none⟩) 2 2) _ hsv hbE ?_
        try simp only [Act.put, List.setIfInBounds_toArray, List.set_cons_zero, List.set_cons_succ]
        replace hsl : Sl _ (some ⟨wD.heap.size, 0, none⟩) 2 6 (opR [p5, p6]) := hsl
        clear hsv
        replace hM := hM.alloc (.cells (opsC [p5, p6]) 35)
        replace hltm := Nat.lt_trans hltm hgs
        generalize wD.alloc (.cells (opsC [p5, p6]) 35) = wE at *
        generalize wD.heap.size = gs at *
        refine plan_run _ rfl (fun K hK => ?_)
        go_simp
        refine (hallc _ gs hsl).mono ?_
        rintro e wF ⟨ro, rc2, rfl, hRs2, hq, hfr⟩
        have hbF : Below wA.heap.size wA wF := hbE.trans (hq.mono hbE.size)
        refine hK.out _ _ hbF ?_
        clear hK K
        iterate 3
          first
            | (refine plan_pass _ rfl (by rfl) ?_)
            | (refine plan_take _ _ rfl (.inl ⟨by rfl, fun W hS => by clear hS; go_simp; try with_reducible rfl⟩) ?_)
          try simp only [Act.put, List.setIfInBounds_toArray, List.set_cons_zero, List.set_cons_succ]
        have hne : ∀ d, ro = some d → d.block ≠ gm := fun d hd e => by
          have := hfr d hd
          omega
        replace hM := hM.later hq
        replace hltm := Nat.lt_of_lt_of_le hltm hq.size
        clear hq
        have hbX := below_setRow hbF hgm (baseC Y)
        refine plan_store_has _ rfl (by rfl) 33 _ _ rfl gm rfl (baseC Y) rfl 33 (baseC base0) (base_size _) rfl (base_one _) hM hbX ?_
        try simp only [Act.put, List.setIfInBounds_toArray, List.set_cons_zero, List.set_cons_succ]
        have hYv := hM.row (baseC Y)
        have hRs3 := sl_row hRs2 hne (baseC Y)
        generalize wF.setRow gm (baseC Y) = w20 at *
        iterate 1
          first
            | (refine plan_pass _ rfl (by rfl) ?_)
            | (refine plan_take _ _ rfl (.inl ⟨by rfl, fun W hS => by clear hS; go_simp; try with_reducible rfl⟩) ?_)
          try simp only [Act.put, List.setIfInBounds_toArray, List.set_cons_zero, List.set_cons_succ]
        refine plan_done ?_
        clear hM hRs2
        replace hX := hX.later hbX
        replace hRd := hRd.later hbX
        replace hb := hb.trans (hbX.mono hb.size)
        cases ro with
        | none =>
          have h1 := hRs3.le
          have h2 := hRs3.nil rfl
          rw [h2] at h1
          cases h1
        | some d2 =>
        have s0 := res_at hRs3 0 (by show 0 < 2; decide) 0 (.int .u8 0) rfl
        rw [addr_zero, addr_zero] at s0
        have hrc2 := hRs3.cap
        have hrl2 : 2 ≤ rc2 := hRs3.le
        have hYa : w20.rangeAt gm 17 [strV [], strV [], strV []] := hYv.range _ _ (fun j v hj => by
          have hj3 : j < 3 := (List.getElem?_eq_some_iff.1 hj).1
          have := baseC_obj Y 3 (2 + j) v (by rw [hY6.obj]; match j, hj3 with | 0, _ => exact hj | 1, _ => exact hj | 2, _ => exact hj)
          rw [show 17 + j = (3 : Fin 6).val * 5 + (2 + j) by show 17 + j = 3 * 5 + (2 + j); omega]
          exact this)
        go_wp2_with (first
          | (refine wpList_load_has (by rfl) 33 _ rfl (gx) rfl 33 (baseC (X)) _ Tryd.underlying33 rfl (base_size _) ?hg ?_; (case hg => first | exact hX))
          | (refine wpList_load_has (by rfl) 35 _ rfl (gr) rfl 35 (opC (opR3)) _ Tryd.underlying35 rfl (op_size _) ?hg ?_; (case hg => first | exact hRd)))
        refine (S.read X opR3 _ hXo opR3_ok).mono ?_
        rintro e w21 ⟨rfl, hq⟩
        rw [hrX]
        have s0' : w21.cell? d2 = some (.int .u8 0) := by rw [hq.cell (World.block_lt_of_cell? w20 _ s0)]; exact s0
        have hYa' : w21.rangeAt gm 17 [strV [], strV [], strV []] := fun j v hj => by
          have hc := hYa j v hj
          rw [hq.cell (World.block_lt_of_cell? w20 _ hc)]
          exact hc
        replace hYv := hYv.later hq
        replace hRd := hRd.later hq
        replace hb := hb.trans (hq.mono hb.size)
        clear hq s0 hYa
        go_wp2_with (first
          | (refine wpList_load_mid' (by rfl) 22 _ rfl gm 17 rfl [strV [], strV [], strV []] _ ?hg Tryd.underlying22 rfl attrs_size0 ?_; (case hg => exact hYa'))
          | (refine wpList_build_has (by rfl) 22 #[] rfl #[strV [], strV [], strV []] (by simpa using attrs_built) ?_)
          | (refine wpList_bin_agg (by rfl) .eql 22 _ _ _ rfl #[strV [], strV [], strV []] #[strV [], strV [], strV []] rfl rfl (.bool true) guard_attrs ?hg ?_; (case hg => exact attrs_eq _))
          | (refine wpList_load_has (by rfl) 33 _ rfl (gm) rfl 33 (baseC (Y)) _ Tryd.underlying33 rfl (base_size _) ?hg ?_; (case hg => first | exact hYv))
          | (refine wpList_load_has (by rfl) 35 _ rfl (gr) rfl 35 (opC (opR3)) _ Tryd.underlying35 rfl (op_size _) ?hg ?_; (case hg => first | exact hRd)))
        refine (S.read Y opR3 _ hYo opR3_ok).mono ?_
        rintro e w22 ⟨rfl, hq⟩
        rw [hrY]
        replace hb := hb.trans (hq.mono hb.size)
        clear hq
        go_wp2_with fail
        go_ret
        exact ⟨rfl, hb⟩
    · refine plan_alloc_has _ rfl (by rfl) 33 rfl (baseC base0) base_zero (hbA.alloc hbA.size _) ?_
      try simp only [Act.put, List.setIfInBounds_toArray, List.set_cons_zero, List.set_cons_succ]
      have hM := Has.new wA.drew 33 (baseC base0)
      have hqa : Below wA.drew.heap.size wA.drew (wA.drew.alloc (.cells (baseC base0) 33)) := (Below.refl _ _).alloc (Nat.le_refl _) _
      have hbB : Below wA.heap.size wA (wA.drew.alloc (.cells (baseC base0) 33)) := hbA.alloc hbA.size _
      have hgm : wA.heap.size ≤ wA.drew.heap.size := hbA.size
      have hltm : wA.drew.heap.size < (wA.drew.alloc (.cells (baseC base0) 33)).heap.size := by simp
      clear hqa
      generalize wA.drew.alloc (.cells (baseC base0) 33) = wB at *
      generalize wA.drew.heap.size = gm at *
      refine plan_run _ rfl (fun K hK => ?_)
      go_simp
      refine (hm5 _).mono ?_
      rintro e wC ⟨rfl, hq⟩
      have hbC : Below wA.heap.size wA wC := hbB.trans (hq.mono hbB.size)
      refine hK.out _ _ hbC ?_
      clear hK K
      try simp only [Act.put, List.setIfInBounds_toArray, List.set_cons_zero, List.set_cons_succ]
      replace hM := hM.later hq
      replace hltm := Nat.lt_of_lt_of_le hltm hq.size
      clear hq
      refine plan_run _ rfl (fun K hK => ?_)
      go_simp
      refine (hm6 _).mono ?_
      rintro e wD ⟨rfl, hq⟩
      have hbD : Below wA.heap.size wA wD := hbC.trans (hq.mono hbC.size)
      refine hK.out _ _ hbD ?_
      clear hK K
      try simp only [Act.put, List.setIfInBounds_toArray, List.set_cons_zero, List.set_cons_succ]
      replace hM := hM.later hq
      replace hltm := Nat.lt_of_lt_of_le hltm hq.size
      clear hq
      have hsv := slice_two p5 p6 wD
      have hsl := slice_sl [p5, p6] (by show 2 ≤ 1000; decide) wD
      have hbE : Below wA.heap.size wA (wD.alloc (.cells (opsC [p5, p6]) 35)) := hbD.alloc hbD.size _
      have hgs : wD.heap.size < (wD.alloc (.cells (opsC [p5, p6]) 35)).heap.size := by simp
      refine plan_slice_two _ rfl (by rfl) 49 _ _ rfl (.agg (opC p5)) (.agg (opC p6)) rfl rfl (.slice (some ⟨wD.heap.size, 0, none⟩) 2 2) _ hsv hbE ?_
      try simp only [Act.put, List.setIfInBounds_toArray, List.set_cons_zero, List.set_cons_succ]
      replace hsl : Sl _ (some ⟨wD.heap.size, 0, none⟩) 2 6 (opR [p5, p6]) := hsl
      clear hsv
      replace hM := hM.alloc (.cells (opsC [p5, p6]) 35)
      replace hltm := Nat.lt_trans hltm hgs
      generalize wD.alloc (.cells (opsC [p5, p6]) 35) = wE at *
      generalize wD.heap.size = gs at *
      refine plan_run _ rfl (fun K hK => ?_)
      go_simp
      refine (hallc _ gs hsl).mono ?_
      rintro e wF ⟨ro, rc2, rfl, hRs2, hq, hfr⟩
      have hbF : Below wA.heap.size wA wF := hbE.trans (hq.mono hbE.size)
      refine hK.out _ _ hbF ?_
      clear hK K
      iterate 3
        first
          | (refine plan_pass _ rfl (by rfl) ?_)
          | (refine plan_take _ _ rfl (.inl ⟨by rfl, fun W hS => by clear hS; go_simp; try with_reducible rfl⟩) ?_)
        try simp only [Act.put, List.setIfInBounds_toArray, List.set_cons_zero, List.set_cons_succ]
      have hne : ∀ d, ro = some d → d.block ≠ gm := fun d hd e => by
        have := hfr d hd
        omega
      replace hM := hM.later hq
      replace hltm := Nat.lt_of_lt_of_le hltm hq.size
      clear hq
      have hbX := below_setRow hbF hgm (baseC Y)
      refine plan_store_has _ rfl (by rfl) 33 _ _ rfl gm rfl (baseC Y) rfl 33 (baseC base0) (base_size _) rfl (base_one _) hM hbX ?_
      try simp only [Act.put, List.setIfInBounds_toArray, List.set_cons_zero, List.set_cons_succ]
      have hYv := hM.row (baseC Y)
      have hRs3 := sl_row hRs2 hne (baseC Y)
      generalize wF.setRow gm (baseC Y) = w20 at *
      iterate 1
        first
          | (refine plan_pass _ rfl (by rfl) ?_)
          | (refine plan_take _ _ rfl (.inl ⟨by rfl, fun W hS => by clear hS; go_simp; try with_reducible rfl⟩) ?_)
        try simp only [Act.put, List.setIfInBounds_toArray, List.set_cons_zero, List.set_cons_succ]
      refine plan_done ?_
      clear hM hRs2
      replace hX := hX.later hbX
      replace hRd := hRd.later hbX
      replace hb := hb.trans (hbX.mono hb.size)
      cases ro with
      | none =>
        have h1 := hRs3.le
        have h2 := hRs3.nil rfl
        rw [h2] at h1
        cases h1
      | some d2 =>
      have s0 := res_at hRs3 0 (by show 0 < 2; decide) 0 (.int .u8 0) rfl
      rw [addr_zero, addr_zero] at s0
      have hrc2 := hRs3.cap
      have hrl2 : 2 ≤ rc2 := hRs3.le
      have hYa : w20.rangeAt gm 17 [strV [], strV [], strV []] := hYv.range _ _ (fun j v hj => by
        have hj3 : j < 3 := (List.getElem?_eq_some_iff.1 hj).1
        have := baseC_obj Y 3 (2 + j) v (by rw [hY6.obj]; match j, hj3 with | 0, _ => exact hj | 1, _ => exact hj | 2, _ => exact hj)
        rw [show 17 + j = (3 : Fin 6).val * 5 + (2 + j) by show 17 + j = 3 * 5 + (2 + j); omega]
        exact this)
      go_wp2_with (first
        | (refine wpList_load_has (by rfl) 33 _ rfl (gx) rfl 33 (baseC (X)) _ Tryd.underlying33 rfl (base_size _) ?hg ?_; (case hg => first | exact hX))
        | (refine wpList_load_has (by rfl) 35 _ rfl (gr) rfl 35 (opC (opR3)) _ Tryd.underlying35 rfl (op_size _) ?hg ?_; (case hg => first | exact hRd)))
      refine (S.read X opR3 _ hXo opR3_ok).mono ?_
      rintro e w21 ⟨rfl, hq⟩
      rw [hrX]
      have s0' : w21.cell? d2 = some (.int .u8 0) := by rw [hq.cell (World.block_lt_of_cell? w20 _ s0)]; exact s0
      have hYa' : w21.rangeAt gm 17 [strV [], strV [], strV []] := fun j v hj => by
        have hc := hYa j v hj
        rw [hq.cell (World.block_lt_of_cell? w20 _ hc)]
        exact hc
      replace hYv := hYv.later hq
      replace hRd := hRd.later hq
      replace hb := hb.trans (hq.mono hb.size)
      clear hq s0 hYa
      go_wp2_with (first
        | (refine wpList_load_mid' (by rfl) 22 _ rfl gm 17 rfl [strV [], strV [], strV []] _ ?hg Tryd.underlying22 rfl attrs_size0 ?_; (case hg => exact hYa'))
        | (refine wpList_build_has (by rfl) 22 #[] rfl #[strV [], strV [], strV []] (by simpa using attrs_built) ?_)
        | (refine wpList_bin_agg (by rfl) .eql 22 _ _ _ rfl #[strV [], strV [], strV []] #[strV [], strV [], strV []] rfl rfl (.bool true) guard_attrs ?hg ?_; (case hg => exact attrs_eq _))
        | (refine wpList_load_has (by rfl) 33 _ rfl (gm) rfl 33 (baseC (Y)) _ Tryd.underlying33 rfl (base_size _) ?hg ?_; (case hg => first | exact hYv))
        | (refine wpList_load_has (by rfl) 35 _ rfl (gr) rfl 35 (opC (opR3)) _ Tryd.underlying35 rfl (op_size _) ?hg ?_; (case hg => first | exact hRd)))
      refine (S.read Y opR3 _ hYo opR3_ok).mono ?_
      rintro e w22 ⟨rfl, hq⟩
      rw [hrY]
      replace hb := hb.trans (hq.mono hb.size)
      clear hq
      go_wp2_with fail
      go_ret
      exact ⟨rfl, hb⟩
end Go.Proofs.YtjajfeplgilejaaDoor
