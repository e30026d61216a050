/- Steps of the laws' walks: variables for what a call answers. -/
import Derived.Test.YtjajfeplgilejaaObjKnown
import Derived.Test.YtjajfeplgilejaaObjFacts
import Derived.Test.YtjajfeplgilejaaEqObj
import Derived.Test.YtjajfeplgilejaaResRow
import Derived.Test.YtjajfeplgilejaaPlan
namespace Go.Proofs.Ytjajfeplgilejaa
set_option linter.unusedSimpArgs false
set_option linter.unusedVariables false
set_option maxRecDepth 100000
open Go.RowKit

theorem zop_zero : (Try.prog.info? 42).map (·.zero) = some (some (.agg (opC op0))) := by kernel_rfl

theorem do_vars (w : World) (B : BaseV) (R : ResV) : ∃ W, (((w.alloc (.cells (baseC base0) 35)).alloc (.cells (resC res0) 30)).setRow w.heap.size (baseC B)).setRow (w.heap.size + 1) (resC R) = W ∧
    Has (((w.alloc (.cells (baseC base0) 35)).alloc (.cells (resC res0) 30)).setRow w.heap.size (baseC B)) (w.heap.size + 1) 30 (resC res0) ∧
    Has W w.heap.size 35 (baseC B) ∧ Has W (w.heap.size + 1) 30 (resC R) ∧ Below w.heap.size w W := by
  have hn : Has (((w.alloc (.cells (baseC base0) 35)).alloc (.cells (resC res0) 30)).setRow w.heap.size (baseC B)) (w.heap.size + 1) 30 (resC res0) := by
    have := (Has.new (w.alloc (.cells (baseC base0) 35)) 30 (resC res0)).row_other (k := w.heap.size) (by simp) (baseC B)
    simpa using this
  exact ⟨_, rfl, hn, (((Has.new w 35 (baseC base0)).alloc _).row _).row_other (by omega) _, hn.row _, below_setRow (below_setRow (((Below.refl _ _).alloc (Nat.le_refl _) _).alloc (by simp) _) (Nat.le_refl _) _) (by omega) _⟩

theorem base_var (w : World) (B : BaseV) : ∃ W, (w.alloc (.cells (baseC base0) 35)).setRow w.heap.size (baseC B) = W ∧ Has W w.heap.size 35 (baseC B) ∧ Below w.heap.size w W :=
  ⟨_, rfl, (Has.new w 35 (baseC base0)).row _, below_setRow ((Below.refl _ _).alloc (Nat.le_refl _) _) (Nat.le_refl _) _⟩
theorem res_var (w : World) (R : ResV) : ∃ W, (w.alloc (.cells (resC res0) 30)).setRow w.heap.size (resC R) = W ∧ Has W w.heap.size 30 (resC R) ∧ Below w.heap.size w W :=
  ⟨_, rfl, (Has.new w 30 (resC res0)).row _, below_setRow ((Below.refl _ _).alloc (Nat.le_refl _) _) (Nat.le_refl _) _⟩
theorem op_var (w : World) (o : OpV) : ∃ W, (w.alloc (.cells (opC op0) 42)).setRow w.heap.size (opC o) = W ∧ Has W w.heap.size 42 (opC o) ∧ Below w.heap.size w W :=
  ⟨_, rfl, (Has.new w 42 (opC op0)).row _, below_setRow ((Below.refl _ _).alloc (Nat.le_refl _) _) (Nat.le_refl _) _⟩
end Go.Proofs.Ytjajfeplgilejaa
