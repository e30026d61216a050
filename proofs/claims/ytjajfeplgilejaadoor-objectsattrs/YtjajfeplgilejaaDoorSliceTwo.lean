/- A slice literal of two or four operations. -/
import Derived.Test.YtjajfeplgilejaaDoorObjSteps
import Derived.Test.YtjajfeplgilejaaDoorSliceOf
namespace Go.Proofs.YtjajfeplgilejaaDoor
set_option linter.unusedSimpArgs false
set_option linter.unusedVariables false
set_option maxRecDepth 100000
open Go.RowKit

def opsC (l : List OpV) : Array Value := (opR l).flatten.toArray

section
variable {P : Program} {ops : Array Oper} {rest : List Oper} {o : Oper} {a : Act} {w : World} {Q : Exit → Act → World → Prop}
theorem wpList_slice_vs (hw : Region.wanted o (yielded ops a.tmps) = true) (t : TypeId) (n : Nat) (parts : Array (Nat × Operand)) (ho : o.op = .buildSlice t n parts) (vs : Array (Nat × Value)) (hp : (parts.map fun (i, x) => (i, a.eval x)) = vs) (v : Value) (W : World) (hr : (Instr.buildSlice t n vs).run P w = .ok v W)
    (h : wpList P ops Q rest (a.put o.dst v) W) : wpList P ops Q (o :: rest) a w := by
  refine BigFrame.wpList_want hw fun K hK => ?_
  have e : (execOp a.eval o).run P w = .ok (.value v) W := by
    unfold execOp
    simp only [ho]
    simp only [hp, Sem.run_bind, hr, Result.andThen_ok, Sem.run_pure]
  unfold Oper.wp
  rw [e]
  exact hK _ _ h
theorem wpList_slice_two (hw : Region.wanted o (yielded ops a.tmps) = true) (t : TypeId) (x y : Operand) (ho : o.op = .buildSlice t 2 #[(0, x), (1, y)]) (p q : Value) (hx : a.eval x = p) (hy : a.eval y = q) (v : Value) (W : World) (hr : (Instr.buildSlice t 2 #[(0, p), (1, q)]).run P w = .ok v W)
    (h : wpList P ops Q rest (a.put o.dst v) W) : wpList P ops Q (o :: rest) a w :=
  wpList_slice_vs hw t 2 _ ho #[(0, p), (1, q)] (by simp [hx, hy]) v W hr h
theorem wpList_slice_four (hw : Region.wanted o (yielded ops a.tmps) = true) (t : TypeId) (x y z u : Operand) (ho : o.op = .buildSlice t 4 #[(0, x), (1, y), (2, z), (3, u)]) (p q r s : Value) (hx : a.eval x = p) (hy : a.eval y = q) (hz : a.eval z = r) (hu : a.eval u = s) (v : Value) (W : World) (hr : (Instr.buildSlice t 4 #[(0, p), (1, q), (2, r), (3, s)]).run P w = .ok v W)
    (h : wpList P ops Q rest (a.put o.dst v) W) : wpList P ops Q (o :: rest) a w :=
  wpList_slice_vs hw t 4 _ ho #[(0, p), (1, q), (2, r), (3, s)] (by simp [hx, hy, hz, hu]) v W hr h
end

theorem slice_two (p q : OpV) (w : World) : (Instr.buildSlice 49 2 #[(0, .agg (opC p)), (1, .agg (opC q))]).run Tryd.prog w = .ok (.slice (some ⟨w.heap.size, 0, none⟩) 2 2) (w.alloc (.cells (opsC [p, q]) 35)) := by
  have h : (Instr.buildSlice 49 2 #[(0, .agg (opC p)), (1, .agg (opC q))]).run Tryd.prog w = ((newRow 35 (opsC [p, q])).run Tryd.prog w).andThen (fun a w => .ok (.slice (some a) 2 2) w) := by kernel_rfl
  rw [h]
  simp [newRow, run_newObj_alloc, Sem.run_bind, Sem.run_pure, Result.andThen]
theorem slice_four (p q r s : OpV) (w : World) : (Instr.buildSlice 49 4 #[(0, .agg (opC p)), (1, .agg (opC q)), (2, .agg (opC r)), (3, .agg (opC s))]).run Tryd.prog w = .ok (.slice (some ⟨w.heap.size, 0, none⟩) 4 4) (w.alloc (.cells (opsC [p, q, r, s]) 35)) := by
  have h : (Instr.buildSlice 49 4 #[(0, .agg (opC p)), (1, .agg (opC q)), (2, .agg (opC r)), (3, .agg (opC s))]).run Tryd.prog w = ((newRow 35 (opsC [p, q, r, s])).run Tryd.prog w).andThen (fun a w => .ok (.slice (some a) 4 4) w) := by kernel_rfl
  rw [h]
  simp [newRow, run_newObj_alloc, Sem.run_bind, Sem.run_pure, Result.andThen]

theorem slice_sl (l : List OpV) (hl : l.length ≤ 1000) (w : World) : Sl (w.alloc (.cells (opsC l) 35)) (some ⟨w.heap.size, 0, none⟩) l.length 6 (opR l) := by
  have h := Sl.of_block (sz := 6) (rows := opR l) (Has.new w 35 (opsC l)) (fun r hr => by obtain ⟨x, _, rfl⟩ := List.mem_map.1 hr; rfl) (by unfold opR; rw [List.length_map]; omega)
  rw [show (opR l).length = l.length by unfold opR; rw [List.length_map]] at h
  exact h
end Go.Proofs.YtjajfeplgilejaaDoor
