/- Slices of operations, cut; what a row of operations comes to; steps of the laws' walks. -/
import Derived.Test.YtkkjdihmjcaibabLogRow
import Derived.Test.YtkkjdihmjcaibabLogKnown
import Derived.Test.YtkkjdihmjcaibabOpenObj
namespace Go.Proofs.Ytkkjdihmjcaibab
set_option linter.unusedSimpArgs false
set_option linter.unusedVariables false
set_option maxRecDepth 100000
open Go.RowKit

theorem Sl.op_le {w : World} {ao : Option Addr} {c : Nat} {l : List OpV} (h : Sl w ao c 6 (opR l)) : l.length ≤ c := by have := h.le; rw [opR_len] at this; exact this
theorem Sl.op_take {w : World} {ao : Option Addr} {c : Nat} {l : List OpV} (h : Sl w ao c 6 (opR l)) (k : Nat) : Sl w ao c 6 (opR (l.take k)) := by
  have hle := h.op_le
  refine ⟨by rw [opR_len, List.length_take]; omega, h.cap, h.nil, opR_each _, fun ad had i hi j hj => ?_⟩
  rw [opR_len, List.length_take] at hi
  have := h.at' ad had i (by rw [opR_len]; omega) j hj
  rw [this]
  unfold opR
  simp
theorem ops_elem : Try.prog.elem 22 = 25 := by kernel_rfl
theorem ops_under : Try.prog.underlying 22 = some (.slice (Try.prog.elem 22)) := by rw [ops_elem]; exact Try.underlying22
theorem op_sizeOf (w : World) : (sizeOf 25).run Try.prog w = .ok 6 w := by
  have h : (Try.prog.info? 25).map (·.size) = some 6 := by kernel_rfl
  cases hq : Try.prog.info? 25 with
  | none => simp [hq] at h
  | some i =>
    have hs : i.size = 6 := by simpa [hq] using h
    simp [sizeOf, typeInfo, hq, hs, Sem.run_bind]
theorem run_head_ops (w : World) (ao : Option Addr) (n c k : Nat) (h : k ≤ c) (kd : IntKind) : (Instr.slice 22 (.slice ao n c) none (some (.int kd (k : Int))) none).run Try.prog w = .ok (.slice ao k c) w := by
  rw [run_slice_h w 22 ao n c ops_under kd (k : Int) (by omega) (by omega), ops_elem, op_sizeOf]
  have e : (ao.map (fun x : Addr => x.add 0)) = ao := by
    cases ao with
    | none => rfl
    | some a => exact congrArg some (by unfold Addr.add; split <;> simp_all)
  simp [sliced, Result.andThen, e]

section
variable {P : Program} {ops : Array Oper} {Q : Exit → Act → World → Prop} {S : World → Prop}
/-- The lesser of two, told by a number of the prover's, along a plan. -/
theorem plan_min {i : Nat} {p : Plan} {a : Act} {w : World} (o : Oper) (ho : nth ops.toList i = some o) (hw : Region.wanted o (yielded ops a.tmps) = true) (x y : Operand) (ts : Array TypeId) (hop : o.op = .call { callee := .builtin .min, args := #[x, y], argTypes := ts }) (k k' : IntKind) (X Y Z : Int) (hx : a.eval x = .int k X) (hy : a.eval y = .int k' Y)
    (hZ : (if Y < X then Y else X) = Z) (hS : S w) (h : wpPlan P ops Q S p (a.put o.dst (.int k Z)) w) : wpPlan P ops Q S (Plan.run i p) a w := by
  refine plan_run o ho fun K hK => ?_
  rw [if_pos hw]
  have r : (execOp a.eval o).run P w = .ok (.value (.int k Z)) w := by
    generalize a.eval = ev at hx hy
    unfold execOp
    simp [hop, hx, hy, Sem.run_bind, go_sem]
    rw [← hZ]
    split <;> omega
  unfold Oper.wp
  rw [r]
  exact hK.out _ _ hS h
end

theorem i64_small (n : Nat) (h : n < 4294967296) : IntKind.i64.wrap (n : Int) = (n : Int) := by
  simp [IntKind.wrap, IntKind.bits, IntKind.signed]
  omega
/-- A row's state, by what is asked of it. -/
structure RowState (q : Nat) (D : List OpV) (S : StV) : Prop where
  ok : StOk S
  is' : isM S = true
  fold : foldM S = (allM base0 D).1
  head : headM S = ((posQ q D.length).since, D.length)
  len : S.log.length = min D.length 6
  tail : S.tail.n = D.length - 6
  base : S.base = (allM base0 (D.take (D.length - 6))).1
  eq : S = sK q D (D.length - 6)
theorem rowState {q : Nat} {D : List OpV} (hq : q ≤ 60) (hD : ∀ o ∈ D, writesM o = true) (ho : ∀ o ∈ D, OpOk o) (hl : D.length ≤ 60) : RowState q D (stOf q D) where
  ok := sK_ok hq ho (by omega) (by omega)
  is' := sK_is hq hD (by omega)
  fold := sK_fold hq hD (by omega)
  head := sK_headM hq hD (by omega) (by omega)
  len := by show (sK _ _ _).log.length = _; rw [sK_len]; omega
  tail := sK_tail_n
  base := rfl
  eq := rfl
end Go.Proofs.Ytkkjdihmjcaibab
