/- The contract of objects.changeOf. -/
import Derived.Test.YtphlfepgaghhhaaObjKnown
import Derived.Laws.EntriesVeiled
namespace Go.Proofs.Ytphlfepgaghhhaa
set_option linter.unusedSimpArgs false
set_option linter.unusedVariables false
set_option maxRecDepth 100000
open Go.RowKit

def ofF (k : Nat) : Nat := if k = 1 then 79 else if k = 2 then 80 else if k = 3 then 81 else 82

set_option maxHeartbeats 2000000 in
theorem of_any (k : Nat) (w : World) (h1 : 1 ≤ k) (h4 : k ≤ 4) : Calls Try.prog 77 #[.int .u8 (k : Int)] w fun e w' => e = .returned (.func (.func (ofF k)) #[] #[]) ∧ Below w.heap.size w w' := by
  rcases (show k = 1 ∨ k = 2 ∨ k = 3 ∨ k = 4 by omega) with rfl | rfl | rfl | rfl
  all_goals
    go_enter Try.func77, Try.ntmps77
    go_wp2
    go_ret
    exact ⟨rfl, (Below.refl w.heap.size w).alloc (Nat.le_refl _) _⟩
end Go.Proofs.Ytphlfepgaghhhaa
