/- The contract of choose's parted. -/
import Derived.Test.YtlbokkbngbpmiaaContains
import Derived.Test.YtlbokkbngbpmiaaPackTools
import Derived.Laws.Slices
namespace Go.Proofs.Ytlbokkbngbpmiaa
set_option linter.unusedSimpArgs false
set_option linter.unusedVariables false
set_option maxRecDepth 100000
open Go.RowKit

theorem IvS.front {w : World} {ao : Option Addr} {c : Nat} {vs : List IvE} {v : IvE} (h : IvS w ao c (vs ++ [v])) : IvS w ao c vs := by
  have hr : rowsI (vs ++ [v]) = rowsI vs ++ [cellsI v] := by unfold rowsI; rw [List.map_append]; rfl
  refine ⟨⟨?_, h.sl.cap, h.sl.nil, rowsI_each _, fun ad had i hi j hj => ?_⟩, fun x hx => h.ix x (List.mem_append_left _ hx)⟩
  · have := h.sl.le
    rw [hr, List.length_append] at this
    omega
  · have := h.sl.at' ad had i (by rw [hr, List.length_append]; omega) j hj
    rw [this]
    simp only [hr]
    rw [List.getElem_append_left hi]
theorem IvS.nothing (w : World) : IvS w none 0 [] := ⟨Sl.nothing _ _, fun _ h => by cases h⟩

theorem ivs_elem : Try.prog.elem 34 = 38 := by kernel_rfl
theorem ivs_under : Try.prog.underlying 34 = some (.slice (Try.prog.elem 34)) := by rw [ivs_elem]; exact Try.underlying34
theorem iv_sizeOf (w : World) : (sizeOf 38).run Try.prog w = .ok 2 w := by
  have : (Try.prog.info? 38).map (·.size) = some 2 := by kernel_rfl
  cases hq : Try.prog.info? 38 with
  | none => simp [hq] at this
  | some i =>
    simp [hq] at this
    simp [sizeOf, typeInfo, hq, Sem.run_bind, Sem.run_pure, this]

/-- A function's end that hands back one thing, and a struct or array. -/
theorem ret_tmp_has {P : Program} {a : Act} {w : World} {fn : Func} {R : Ending → World → Prop} {p u : Tmp} {ty : TypeId} (h : fn.results = #[.tmp u, .cell p ty]) (g : Nat) (hp : a.tmps.getD p undef = .pointer (some ⟨g, 0, none⟩))
    (t : TypeId) (c : Array Value) (d : TypeDesc) (hu : P.underlying ty = some d) (hd : (match d with | .struct _ | .array _ _ => true | _ => false) = true) (hi : (P.info? ty).map (·.size) = some c.size)
    (hg : Has w g t c) (hdf : a.defers = []) (hR : R (.returned (.tuple #[a.tmps.getD u undef, .agg c])) w) : bodyPost P fn R .ret a w := by
  refine bodyPost_ret ?_ hdf hR
  have e : (results fn a.tmps).run P w = ((asAddr (a.tmps.getD p undef)).run P w).andThen fun x w₁ => ((loadVar ty x).run P w₁).andThen fun v w₂ => .ok (.tuple #[a.tmps.getD u undef, v]) w₂ := by
    simp only [results, h]
    simp [Sem.run_bind, Result.andThen]
  rw [e, hp]
  simp [asAddr, run_loadVar_row w g t ty c (0, 0) d hg hu hd hi, Result.andThen]

/-- A whole row from wherever it lies, in every world of S. -/
theorem yields_load_any {P : Program} {ops : Array Oper} {S : World → Prop} {o : Oper} {a : Act} (hw : Region.wanted o (yielded ops a.tmps) = true) (ty : TypeId) (x : Operand) (ho : o.op = .load ty x) (A : Addr) (hx : a.eval x = .pointer (some A)) (cs : List Value) (d : TypeDesc) (hc : ∀ w, S w → ∀ j v, cs[j]? = some v → w.cell? (A.add j) = some v)
    (hu : P.underlying ty = some d) (hd : d.isRow = true) (hi : (P.info? ty).map (·.size) = some cs.length) : YieldsIf P ops S o (.agg cs.toArray) a :=
  .inl ⟨hw, fun w hS => run_load_any ty x ho A hx cs d (hc w hS) hu hd hi⟩
theorem ivA_one (v : IvE) : (ivA v).all (·.oneCell') = true := by simp [ivA, Value.oneCell']

set_option maxHeartbeats 2000000 in
theorem parted_nil (c : Nat) (ao : Option Addr) (w : World) (hc : c ≤ 9223372036854775807) :
    Calls Try.prog 36 #[.slice ao 0 c] w fun en w' => en = .returned (.tuple #[.slice none 0 0, .agg (ivA ⟨0, none, 0, []⟩)]) ∧ Below w.heap.size w w' := by
  obtain ⟨w1, hw1⟩ : ∃ W, w.alloc (.cells (ivA ⟨0, none, 0, []⟩) 38) = W := ⟨_, rfl⟩
  have hR1 : Has w1 w.heap.size 38 (ivA ⟨0, none, 0, []⟩) := hw1 ▸ Has.new _ _ _
  have hb1 : Below w.heap.size w w1 := hw1 ▸ (Below.refl _ _).alloc (Nat.le_refl _) _
  have hbu : Try.prog.built 38 [] = some (ivA ⟨0, none, 0, []⟩) := by kernel_rfl
  go_enter Try.func36, Try.ntmps36
  go_wp2_with (first
    | (refine wpList_alloc_has (by rfl) 38 rfl (ivA ⟨0, none, 0, []⟩) ivA_zero ?_; rw [hw1])
    | (refine wpList_build_has (by rfl) 38 _ rfl (ivA ⟨0, none, 0, []⟩) hbu ?_)
    | (refine wpList_store_has (by rfl) 38 _ _ rfl w.heap.size rfl (ivA ⟨0, none, 0, []⟩) rfl 38 (ivA ⟨0, none, 0, []⟩) (ivA_size _) rfl (ivA_one _) ?hg ?_; (case hg => exact hR1)))
  refine ret_tmp_has rfl w.heap.size rfl 38 (ivA ⟨0, none, 0, []⟩) _ Try.underlying38 rfl (ivA_size _) (hR1.row _) rfl ⟨rfl, below_setRow hb1 (Nat.le_refl _) _⟩

set_option maxHeartbeats 2000000 in
theorem parted_any (ao : Option Addr) (c : Nat) (vs : List IvE) (v : IvE) (w : World) (h : IvS w ao c (vs ++ [v])) (hl : vs.length ≤ 1000000) :
    Calls Try.prog 36 #[.slice ao (vs.length + 1) c] w fun en w' => en = .returned (.tuple #[.slice ao vs.length c, .agg (ivA v)]) ∧ Below w.heap.size w w' := by
  have hcap := h.sl.cap
  have hle := h.len
  rw [List.length_append, List.length_singleton] at hle
  cases ao with
  | none => have := h.sl.nil rfl; omega
  | some ad =>
    obtain ⟨w1, hw1⟩ : ∃ W, w.alloc (.cells (ivA ⟨0, none, 0, []⟩) 38) = W := ⟨_, rfl⟩
    have hR1 : Has w1 w.heap.size 38 (ivA ⟨0, none, 0, []⟩) := hw1 ▸ Has.new _ _ _
    have hb1 : Below w.heap.size w w1 := hw1 ▸ (Below.refl _ _).alloc (Nat.le_refl _) _
    have hcx : ∀ W, Below w.heap.size w W → ∀ j u, (cellsI ((vs ++ [v])[vs.length]'(by simp)))[j]? = some u → W.cell? ((ad.add (vs.length * 2)).add j) = some u := fun W hW => (h.later hW).row vs.length (by simp)
    have e1 : (vs ++ [v])[vs.length]'(by simp) = v := by simp
    rw [e1] at hcx
    have hlI : (vs.length : Int) ≤ 1000000 := by omega
    have hsl : ∀ W, (Instr.slice 34 (.slice (some ad) (vs.length + 1) c) none (some (.int .i64 (vs.length : Int))) none).run Try.prog W = .ok (.slice (some ad) vs.length c) W := fun W => by
      rw [run_slice_h W 34 (some ad) (vs.length + 1) c ivs_under .i64 (vs.length : Int) (by omega) (by omega), ivs_elem, iv_sizeOf]
      have e : ad.add 0 = ad := by unfold Addr.add; split <;> simp_all
      simp [sliced, Result.andThen, e]
    clear e1 hle
    generalize vs.length = m at *
    go_enter Try.func36, Try.ntmps36
    go_wp2_with (first
      | (refine wpList_alloc_has (by rfl) 38 rfl (ivA ⟨0, none, 0, []⟩) ivA_zero ?_; rw [hw1]))
    have hrow : ∀ W, Below w.heap.size w W → ∀ j u, (cellsI v)[j]? = some u → W.cell? ((ad.add (m * 2)).add j) = some u := hcx
    have hwr : IntKind.i64.wrap (m : Int) = (m : Int) := by rw [IntKind.wrap_i64]; omega
    have hm1 : (m : Int) < (m : Int) + 1 := by omega
    have hb2 := below_setRow hb1.drew (Nat.le_refl w.heap.size) (ivA v)
    clear hcx
    refine wp_region_plan (fun W => Below w.heap.size w W) (Plan.of [(0, true), (1, true), (5, true), (6, true)] (.either 2 (Plan.of [(3, true), (4, true), (11, true), (7, false), (8, true), (9, true), (10, true), (12, false)] .done) 7 (Plan.of [(8, true), (9, true), (10, true), (2, false), (3, true), (4, true), (11, true), (12, false)] .done))) (by kernel_rfl) (by kernel_rfl) (by kernel_rfl) (by kernel_rfl) hb1.drew ?_
    iterate 4
      first
        | (refine plan_pass _ rfl (by rfl) ?_)
        | (refine plan_take _ _ rfl (.inl ⟨by rfl, fun W hS => by clear hS; go_simp; try with_reducible rfl⟩) ?_)
      try simp only [Act.put, List.setIfInBounds_toArray, List.set_cons_zero, List.set_cons_succ]
    refine plan_either ?_ ?_
    · refine plan_run _ rfl (fun K hK => ?_)
      go_simp
      refine hK.out _ _ hb1.drew ?_
      clear hK K
      iterate 1
        first
          | (refine plan_pass _ rfl (by rfl) ?_)
          | (refine plan_take _ _ rfl (.inl ⟨by rfl, fun W hS => by clear hS; go_simp; try with_reducible rfl⟩) ?_)
        try simp only [Act.put, List.setIfInBounds_toArray, List.set_cons_zero, List.set_cons_succ]
      try rw [hwr]
      iterate 1
        first
          | (refine plan_pass _ rfl (by rfl) ?_)
          | (refine plan_take _ _ rfl (.inl ⟨by rfl, fun W hS => by have z := hsl W; go_simp; try with_reducible rfl⟩) ?_)
        try simp only [Act.put, List.setIfInBounds_toArray, List.set_cons_zero, List.set_cons_succ]
      iterate 1
        first
          | (refine plan_pass _ rfl (by rfl) ?_)
          | (refine plan_take _ _ rfl (.inl ⟨by rfl, fun W hS => by clear hS; go_simp; try with_reducible rfl⟩) ?_)
        try simp only [Act.put, List.setIfInBounds_toArray, List.set_cons_zero, List.set_cons_succ]
      refine plan_run _ rfl (fun K hK => ?_)
      go_simp
      refine hK.out _ _ hb1.drew ?_
      clear hK K
      iterate 1
        first
          | (refine plan_pass _ rfl (by rfl) ?_)
          | (refine plan_take _ _ rfl (.inl ⟨by rfl, fun W hS => by clear hS; go_simp; try with_reducible rfl⟩) ?_)
        try simp only [Act.put, List.setIfInBounds_toArray, List.set_cons_zero, List.set_cons_succ]
      try rw [hwr]
      iterate 1
        first
          | (refine plan_pass _ rfl (by rfl) ?_)
          | (refine plan_take _ _ rfl (.inl ⟨by rfl, fun W hS => by clear hS; go_simp; try with_reducible rfl⟩) ?_)
        try simp only [Act.put, List.setIfInBounds_toArray, List.set_cons_zero, List.set_cons_succ]
      refine plan_take _ _ rfl (yields_load_any (by rfl) 38 _ rfl (ad.add (m * 2)) rfl (cellsI v) _ hrow Try.underlying38 rfl (ivA_size v)) ?_
      try simp only [Act.put, List.setIfInBounds_toArray, List.set_cons_zero, List.set_cons_succ]
      refine plan_store_has _ rfl (by rfl) 38 _ _ rfl w.heap.size rfl (ivA v) rfl 38 (ivA ⟨0, none, 0, []⟩) (ivA_size v) rfl (ivA_one v) hR1 hb2 ?_
      refine plan_done ?_
      go_wp2
      refine ret_tmp_has rfl w.heap.size rfl 38 (ivA v) _ Try.underlying38 rfl (ivA_size _) (hR1.drew.row _) rfl ⟨rfl, hb2⟩
    · refine plan_run _ rfl (fun K hK => ?_)
      go_simp
      refine hK.out _ _ hb1.drew ?_
      clear hK K
      iterate 1
        first
          | (refine plan_pass _ rfl (by rfl) ?_)
          | (refine plan_take _ _ rfl (.inl ⟨by rfl, fun W hS => by clear hS; go_simp; try with_reducible rfl⟩) ?_)
        try simp only [Act.put, List.setIfInBounds_toArray, List.set_cons_zero, List.set_cons_succ]
      try rw [hwr]
      iterate 1
        first
          | (refine plan_pass _ rfl (by rfl) ?_)
          | (refine plan_take _ _ rfl (.inl ⟨by rfl, fun W hS => by clear hS; go_simp; try with_reducible rfl⟩) ?_)
        try simp only [Act.put, List.setIfInBounds_toArray, List.set_cons_zero, List.set_cons_succ]
      refine plan_take _ _ rfl (yields_load_any (by rfl) 38 _ rfl (ad.add (m * 2)) rfl (cellsI v) _ hrow Try.underlying38 rfl (ivA_size v)) ?_
      try simp only [Act.put, List.setIfInBounds_toArray, List.set_cons_zero, List.set_cons_succ]
      refine plan_run _ rfl (fun K hK => ?_)
      go_simp
      refine hK.out _ _ hb1.drew ?_
      clear hK K
      iterate 1
        first
          | (refine plan_pass _ rfl (by rfl) ?_)
          | (refine plan_take _ _ rfl (.inl ⟨by rfl, fun W hS => by clear hS; go_simp; try with_reducible rfl⟩) ?_)
        try simp only [Act.put, List.setIfInBounds_toArray, List.set_cons_zero, List.set_cons_succ]
      try rw [hwr]
      iterate 1
        first
          | (refine plan_pass _ rfl (by rfl) ?_)
          | (refine plan_take _ _ rfl (.inl ⟨by rfl, fun W hS => by have z := hsl W; go_simp; try with_reducible rfl⟩) ?_)
        try simp only [Act.put, List.setIfInBounds_toArray, List.set_cons_zero, List.set_cons_succ]
      iterate 1
        first
          | (refine plan_pass _ rfl (by rfl) ?_)
          | (refine plan_take _ _ rfl (.inl ⟨by rfl, fun W hS => by clear hS; go_simp; try with_reducible rfl⟩) ?_)
        try simp only [Act.put, List.setIfInBounds_toArray, List.set_cons_zero, List.set_cons_succ]
      refine plan_store_has _ rfl (by rfl) 38 _ _ rfl w.heap.size rfl (ivA v) rfl 38 (ivA ⟨0, none, 0, []⟩) (ivA_size v) rfl (ivA_one v) hR1 hb2 ?_
      refine plan_done ?_
      go_wp2
      refine ret_tmp_has rfl w.heap.size rfl 38 (ivA v) _ Try.underlying38 rfl (ivA_size _) (hR1.drew.row _) rfl ⟨rfl, hb2⟩
end Go.Proofs.Ytlbokkbngbpmiaa
