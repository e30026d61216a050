/- New variables and whole stores, along a plan. Nothing of the program is in it. -/
import Derived.Test.YtphlfepgaghhhaaPlan
namespace Go.Proofs.Ytphlfepgaghhhaa
set_option linter.unusedSimpArgs false
set_option linter.unusedVariables false
open Go.RowKit

section
variable {P : Program} {ops : Array Oper} {Q : Exit → Act → World → Prop} {S : World → Prop}

theorem plan_alloc_has {i : Nat} {p : Plan} {a : Act} {w : World} (o : Oper) (ho : nth ops.toList i = some o) (hw : Region.wanted o (yielded ops a.tmps) = true) (t : TypeId) (hop : o.op = .alloc t) (c : Array Value) (hz : (P.info? t).map (·.zero) = some (some (.agg c)))
    (hS : S (w.alloc (.cells c t))) (h : wpPlan P ops Q S p (a.put o.dst (.pointer (some ⟨w.heap.size, 0, none⟩))) (w.alloc (.cells c t))) : wpPlan P ops Q S (Plan.run i p) a w := by
  refine plan_run o ho fun K hK => ?_
  rw [if_pos hw]
  cases hq : P.info? t with
  | none => simp [hq] at hz
  | some i =>
    have hz' : i.zero = some (.agg c) := by simpa [hq] using hz
    unfold Oper.wp execOp
    simp [hop, Sem.run_bind, Instr.alloc, zeroValue, typeInfo, hq, hz', newVar, newRow, run_newObj_alloc, Sem.run_pure, Result.andThen_ok, Value.cells]
    exact hK.out _ _ hS h

theorem plan_store_has {i : Nat} {p : Plan} {a : Act} {w : World} (o : Oper) (ho : nth ops.toList i = some o) (hw : Region.wanted o (yielded ops a.tmps) = true) (ty : TypeId) (x y : Operand) (hop : o.op = .store ty x y) (g : Nat) (hx : a.eval x = .pointer (some ⟨g, 0, none⟩))
    (c : Array Value) (hy : a.eval y = .agg c) (t : TypeId) (old : Array Value) (hi : (P.info? ty).map (·.size) = some c.size) (hs : old.size = c.size) (h1 : c.all (·.oneCell') = true)
    (hg : Has w g t old) (hS : S (w.setRow g c)) (h : wpPlan P ops Q S p (a.put o.dst undef) (w.setRow g c)) : wpPlan P ops Q S (Plan.run i p) a w := by
  refine plan_run o ho fun K hK => ?_
  rw [if_pos hw]
  exact wp_store_row ty x y hop g c hx hy t old hg hi hs h1 (hK.out _ _ hS h)
end
end Go.Proofs.Ytphlfepgaghhhaa
