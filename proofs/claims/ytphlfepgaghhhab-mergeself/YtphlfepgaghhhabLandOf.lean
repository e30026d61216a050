/- The contract of objects.changeOf. -/
import Derived.Test.YtphlfepgaghhhabObjKnown
import Derived.Laws.EntriesVeiled
namespace Go.Proofs.Ytphlfepgaghhhab
set_option linter.unusedSimpArgs false
set_option linter.unusedVariables false
set_option maxRecDepth 100000
open Go.RowKit

def ofF (k : Nat) : Nat := if k = 1 then 47 else if k = 2 then 48 else if k = 3 then 49 else 50

set_option maxHeartbeats 2000000 in
theorem of_any (k : Nat) (w : World) (h1 : 1 ≤ k) (h4 : k ≤ 4) : Calls Try.prog 46 #[.int .u8 (k : Int)] w fun e w' => e = .returned (.func (.func (ofF k)) #[] #[]) ∧ Below w.heap.size w w' := by
  rcases (show k = 1 ∨ k = 2 ∨ k = 3 ∨ k = 4 by omega) with rfl | rfl | rfl | rfl
  all_goals
    go_enter Try.func46, Try.ntmps46
    go_wp2
    go_ret
    exact ⟨rfl, (Below.refl w.heap.size w).alloc (Nat.le_refl _) _⟩
end Go.Proofs.Ytphlfepgaghhhab
