/- Logs of one's own by append: of whatever log; one entry more. -/
import Derived.Test.YtkkjdihmjcaibabLogPut
import Derived.Maps.AppendAt
namespace Go.Proofs.Ytkkjdihmjcaibab
set_option linter.unusedSimpArgs false
set_option linter.unusedVariables false
set_option maxRecDepth 100000
open Go.RowKit

theorem Sl.cell_far {w : World} {ao : Option Addr} {c sz : Nat} {rows : List (List Value)} (h : Sl w ao c sz rows) {a : Addr} (hk : 0 < rows.length → ∀ d, ao = some d → d.block ≠ a.block) (v : Value) : Sl (w.setCell a v) ao c sz rows := by
  by_cases h0 : 0 < rows.length
  · exact h.cell_other (hk h0) v
  · exact ⟨h.le, h.cap, h.nil, h.each, fun ad had i hi => absurd (Nat.lt_of_le_of_lt (Nat.zero_le i) hi) h0⟩
theorem run_append_log (w : World) (ty : TypeId) (base : Nat) (v : Value) (m l : List EntV) (hown : w.ownsRow base 39 8 v m.length (entF m)) (ao : Option Addr) (c : Nat) (h : Sl w ao c 8 (entR l)) (hl : m.length + l.length ≤ 1000) (hbase : base ≤ w.heap.size) :
    ∃ v' w', (Builtin.append_ #[40, 40] ty #[v, .slice ao l.length c]).run Try.prog w = .ok v' w' ∧ w'.ownsRow base 39 8 v' (m ++ l).length (entF (m ++ l)) ∧ w.grownBy w' v.ownBlock ∧ (v'.ownBlock = v.ownBlock ∨ v'.ownBlock = some w.heap.size) := by
  obtain ⟨i0, hi, hz0, hz1, hz2⟩ := ent_info40
  cases ao with
  | none =>
    have h0 : l = [] := by have := h.nil rfl; have := h.ent_le; exact List.eq_nil_of_length_eq_zero (by omega)
    have hc := h.nil rfl
    subst h0 hc
    exact ⟨v, w, run_append_owned_none (P := Try.prog) (w := w) base 40 ty 39 i0 8 Try.underlying40 hi v m.length (entF m) hown, by rw [List.append_nil]; exact hown, World.grownBy.refl _ _, .inl rfl⟩
  | some ad =>
    obtain ⟨v', w', hr, h2, h3, h4, h5⟩ := run_append_own_at (P := Try.prog) w base 40 ty 39 i0 (.agg (entC ent0)) 8 40 Try.underlying40 hi hz0 hz1 hz2 rfl (by decide) v m.length (entF m) hown ad l.length c (entF l) (entF_len l) h.cells (entF_one l) (by unfold maxLen; omega) (by omega) hbase
    refine ⟨v', w', hr, ?_, h3, h5⟩
    rw [List.length_append, entF_app]
    exact h2
theorem own_nil (w : World) (base : Nat) : w.ownsRow base 39 8 (.slice none 0 0) ([] : List EntV).length (entF []) := World.ownsRow_nil _ _ _ _

section
variable {ops : Array Oper} {Q : Exit → Act → World → Prop} {S : World → Prop}
theorem plan_append_run {i : Nat} {p : Plan} {a : Act} {w : World} (o : Oper) (ho : nth ops.toList i = some o) (hw : Region.wanted o (yielded ops a.tmps) = true) (s x : Operand) (t u : TypeId) (hop : o.op = .call { callee := .builtin .append, args := #[s, x], argTypes := #[t, u] }) (v xv : Value) (hs : a.eval s = v) (hx : a.eval x = xv) (v' : Value) (W : World) (hr : (Builtin.append_ #[t, u] o.type #[v, xv]).run Try.prog w = .ok v' W)
    (hS : S W) (h : wpPlan Try.prog ops Q S p (a.put o.dst v') W) : wpPlan Try.prog ops Q S (Plan.run i p) a w := by
  refine plan_run o ho fun K hK => ?_
  rw [if_pos hw]
  have e : (execOp a.eval o).run Try.prog w = .ok (.value v') W := by
    unfold execOp
    simp only [hop, resolve, invoke, builtin, Sem.run_bind, Sem.run_pure, Result.andThen_ok, List.map_toArray, List.map_cons, List.map_nil, hs, hx, hr]
  unfold Oper.wp
  rw [e]
  exact hK.out _ _ hS h
theorem plan_slice_one {i : Nat} {p : Plan} {a : Act} {w : World} (o : Oper) (ho : nth ops.toList i = some o) (hw : Region.wanted o (yielded ops a.tmps) = true) (t : TypeId) (x : Operand) (hop : o.op = .buildSlice t 1 #[(0, x)]) (q : Value) (hx : a.eval x = q) (v : Value) (W : World) (hr : (Instr.buildSlice t 1 #[(0, q)]).run Try.prog w = .ok v W)
    (hS : S W) (h : wpPlan Try.prog ops Q S p (a.put o.dst v) W) : wpPlan Try.prog ops Q S (Plan.run i p) a w := by
  refine plan_run o ho fun K hK => ?_
  rw [if_pos hw]
  have e : (execOp a.eval o).run Try.prog w = .ok (.value v) W := by
    unfold execOp
    simp only [hop]
    simp [hx, Sem.run_bind, hr, Result.andThen_ok, Sem.run_pure]
  unfold Oper.wp
  rw [e]
  exact hK.out _ _ hS h
theorem yields_build_two {o : Oper} {a : Act} (hw : Region.wanted o (yielded ops a.tmps) = true) (t : TypeId) (i j : Nat) (x y : Operand) (ho : o.op = .build t #[(i, x), (j, y)]) (p q : Value) (hx : a.eval x = p) (hy : a.eval y = q) (c : Array Value) (hf : Try.prog.built t [(i, p), (j, q)] = some c) : YieldsIf Try.prog ops S o (.agg c) a := by
  refine .inl ⟨hw, fun W _ => ?_⟩
  have hc : Try.prog.built t ((#[(i, x), (j, y)] : Array (Nat × Operand)).map fun (i, x) => (i, a.eval x)).toList = some c := by simpa [hx, hy] using hf
  unfold execOp
  simp only [ho, Sem.run_bind, run_build W t _ c hc, Result.andThen_ok]
  rfl
end
/-- The sum of two numbers of 32 bits, whatever it is. -/
theorem run_add_u32w {P : Program} {o : Oper} {ev : Operand → Value} (ty ty' : TypeId) (x y : Operand) (ho : o.op = .binOp .add ty x y ty') (n m k : Nat) (hx : ev x = .int .u32 (n : Int)) (hy : ev y = .int .u32 (m : Int)) (hk : (n + m) % 4294967296 = k) (w : World) :
    (execOp ev o).run P w = .ok (.value (.int .u32 (k : Int))) w := by
  subst hk
  have h4 : IntKind.u32.wrap ((n : Int) + (m : Int)) = (((n + m) % 4294967296 : Nat) : Int) := by
    simp [IntKind.wrap, IntKind.bits, IntKind.signed]
  unfold execOp
  simp only [ho, hx, hy]
  simp [Sem.run_bind, go_sem, h4]
theorem e1_built (o : OpV) : Try.prog.built 39 [(1, .int .u32 1), (2, .agg (opC o))] = some (entC ⟨0, 1, o⟩) := by kernel_rfl
end Go.Proofs.Ytkkjdihmjcaibab
