/- Steps of the laws' walks: variables for what a call answers. -/
import Derived.Test.YtjajfeplgilejaaDoorObjKnown
import Derived.Test.YtjajfeplgilejaaDoorObjFacts
import Derived.Test.YtjajfeplgilejaaDoorEqObj
import Derived.Test.YtjajfeplgilejaaDoorResRow
import Derived.Test.YtjajfeplgilejaaDoorPlan
namespace Go.Proofs.YtjajfeplgilejaaDoor
set_option linter.unusedSimpArgs false
set_option linter.unusedVariables false
set_option maxRecDepth 100000
open Go.RowKit

theorem zop_zero : (Tryd.prog.info? 35).map (·.zero) = some (some (.agg (opC op0))) := by kernel_rfl

theorem do_vars (w : World) (B : BaseV) (R : ResV) : ∃ W, (((w.alloc (.cells (baseC base0) 33)).alloc (.cells (resC res0) 28)).setRow w.heap.size (baseC B)).setRow (w.heap.size + 1) (resC R) = W ∧
    Has (((w.alloc (.cells (baseC base0) 33)).alloc (.cells (resC res0) 28)).setRow w.heap.size (baseC B)) (w.heap.size + 1) 28 (resC res0) ∧
    Has W w.heap.size 33 (baseC B) ∧ Has W (w.heap.size + 1) 28 (resC R) ∧ Below w.heap.size w W := by
  have hn : Has (((w.alloc (.cells (baseC base0) 33)).alloc (.cells (resC res0) 28)).setRow w.heap.size (baseC B)) (w.heap.size + 1) 28 (resC res0) := by
    have := (Has.new (w.alloc (.cells (baseC base0) 33)) 28 (resC res0)).row_other (k := w.heap.size) (by simp) (baseC B)
    simpa using this
  exact ⟨_, rfl, hn, (((Has.new w 33 (baseC base0)).alloc _).row _).row_other (by omega) _, hn.row _, below_setRow (below_setRow (((Below.refl _ _).alloc (Nat.le_refl _) _).alloc (by simp) _) (Nat.le_refl _) _) (by omega) _⟩

theorem base_var (w : World) (B : BaseV) : ∃ W, (w.alloc (.cells (baseC base0) 33)).setRow w.heap.size (baseC B) = W ∧ Has W w.heap.size 33 (baseC B) ∧ Below w.heap.size w W :=
  ⟨_, rfl, (Has.new w 33 (baseC base0)).row _, below_setRow ((Below.refl _ _).alloc (Nat.le_refl _) _) (Nat.le_refl _) _⟩
theorem res_var (w : World) (R : ResV) : ∃ W, (w.alloc (.cells (resC res0) 28)).setRow w.heap.size (resC R) = W ∧ Has W w.heap.size 28 (resC R) ∧ Below w.heap.size w W :=
  ⟨_, rfl, (Has.new w 28 (resC res0)).row _, below_setRow ((Below.refl _ _).alloc (Nat.le_refl _) _) (Nat.le_refl _) _⟩
theorem op_var (w : World) (o : OpV) : ∃ W, (w.alloc (.cells (opC op0) 35)).setRow w.heap.size (opC o) = W ∧ Has W w.heap.size 35 (opC o) ∧ Below w.heap.size w W :=
  ⟨_, rfl, (Has.new w 35 (opC op0)).row _, below_setRow ((Below.refl _ _).alloc (Nat.le_refl _) _) (Nat.le_refl _) _⟩
end Go.Proofs.YtjajfeplgilejaaDoor
