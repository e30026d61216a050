/- What package maps has to answer, as one bundle: the laws' walks lean on it; it is paid by the contracts of the landed code. -/
import Derived.Test.YtoffbjdoampebaaMapMem
import Derived.Test.YtoffbjdoampebaaFolds
import Derived.Test.YtoffbjdoampebaaSlice
import Derived.Test.YtoffbjdoampebaaInts
namespace Go.Proofs.Ytoffbjdoampebaa
set_option linter.unusedSimpArgs false
set_option linter.unusedVariables false
open Go.RowKit

structure MapsSpec : Prop where
  apply : ∀ (m : MapV) (x : IncV) (w : World), MapOk m → IncOk x →
    Calls Try.prog 10 #[.agg (mapC m), .agg (incC x)] w fun e w' => e = .returned (.tuple #[.agg (mapC (applyM m x)), .int .i64 (errI (okA m x))]) ∧ Below w.heap.size w w'
  is : ∀ (m : MapV) (w : World), MapOk m → Calls Try.prog 12 #[.agg (mapC m)] w fun e w' => e = .returned (.bool (isM m)) ∧ Below w.heap.size w w'
  isinc : ∀ (x : IncV) (w : World), IncOk x → Calls Try.prog 14 #[.agg (incC x)] w fun e w' => e = .returned (.bool (isInc x)) ∧ Below w.heap.size w w'
  first : ∀ w : World, Calls Try.prog 19 #[] w fun e w' => e = .returned (.agg (mapC firstM)) ∧ Below w.heap.size w w'
  fold : ∀ (ao : Option Addr) (c : Nat) (xs : List IncV) (w : World), Sl w ao c 3 (xs.map fun x => (incC x).toList) → (∀ x ∈ xs, IncOk x) → xs.length ≤ 1000000 →
    Calls Try.prog 21 #[.slice ao xs.length c] w fun e w' => e = .returned (.tuple #[.agg (mapC (foldM xs).1), .int .i64 (errI (foldM xs).2)]) ∧ Below w.heap.size w w'
  inn : ∀ (m : MapV) (w : World), MapOk m → Calls Try.prog 17 #[.agg (mapC m)] w fun e w' => ∃ ao c, e = .returned (.slice ao (inL m).length c) ∧ Ix w' ao c (inL m) ∧ Below w.heap.size w w'
  up : ∀ (m : MapV) (w : World), MapOk m → Calls Try.prog 18 #[.agg (mapC m)] w fun e w' => ∃ ao c, e = .returned (.slice ao (upL m).length c) ∧ Ix w' ao c (upL m) ∧ Below w.heap.size w w'
end Go.Proofs.Ytoffbjdoampebaa
