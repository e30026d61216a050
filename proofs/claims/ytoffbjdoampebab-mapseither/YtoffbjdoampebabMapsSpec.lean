/- What package maps has to answer, as one bundle: the laws' walks lean on it; it is paid by the contracts of the landed code. -/
import Derived.Test.YtoffbjdoampebabMapMem
import Derived.Test.YtoffbjdoampebabFolds
import Derived.Test.YtoffbjdoampebabSlice
import Derived.Test.YtoffbjdoampebabInts
namespace Go.Proofs.Ytoffbjdoampebab
set_option linter.unusedSimpArgs false
set_option linter.unusedVariables false
open Go.RowKit

structure MapsSpec : Prop where
  apply : ∀ (m : MapV) (x : IncV) (w : World), MapOk m → IncOk x →
    Calls Try.prog 7 #[.agg (mapC m), .agg (incC x)] w fun e w' => e = .returned (.tuple #[.agg (mapC (applyM m x)), .int .i64 (errI (okA m x))]) ∧ Below w.heap.size w w'
  is : ∀ (m : MapV) (w : World), MapOk m → Calls Try.prog 9 #[.agg (mapC m)] w fun e w' => e = .returned (.bool (isM m)) ∧ Below w.heap.size w w'
  isinc : ∀ (x : IncV) (w : World), IncOk x → Calls Try.prog 5 #[.agg (incC x)] w fun e w' => e = .returned (.bool (isInc x)) ∧ Below w.heap.size w w'
  first : ∀ w : World, Calls Try.prog 8 #[] w fun e w' => e = .returned (.agg (mapC firstM)) ∧ Below w.heap.size w w'
  fold : ∀ (ao : Option Addr) (c : Nat) (xs : List IncV) (w : World), Sl w ao c 3 (xs.map fun x => (incC x).toList) → (∀ x ∈ xs, IncOk x) → xs.length ≤ 1000000 →
    Calls Try.prog 6 #[.slice ao xs.length c] w fun e w' => e = .returned (.tuple #[.agg (mapC (foldM xs).1), .int .i64 (errI (foldM xs).2)]) ∧ Below w.heap.size w w'
  inn : ∀ (m : MapV) (w : World), MapOk m → Calls Try.prog 10 #[.agg (mapC m)] w fun e w' => ∃ ao c, e = .returned (.slice ao (inL m).length c) ∧ Ix w' ao c (inL m) ∧ Below w.heap.size w w'
  up : ∀ (m : MapV) (w : World), MapOk m → Calls Try.prog 11 #[.agg (mapC m)] w fun e w' => ∃ ao c, e = .returned (.slice ao (upL m).length c) ∧ Ix w' ao c (upL m) ∧ Below w.heap.size w w'
end Go.Proofs.Ytoffbjdoampebab
