/- paddocklaw10.BallotMajorities returns true, for whatever number, row of steps, bytes. -/
import Derived.Test.YtlcappkokdgpgaaMajorEq
import Derived.Test.YtlcappkokdgpgaaMajorNe
namespace Go.Proofs.Ytlcappkokdgpgaa
set_option linter.unusedSimpArgs false
set_option linter.unusedVariables false
set_option maxRecDepth 100000
open Go.RowKit

theorem major_walk (n : Nat) (ao : Option Addr) (c : Nat) (l : List StepV) (k0 k1 : Nat) (w : World) (hn : n < 4294967296) (hSl : Sl w ao c 6 (stepR l)) (hl : ∀ s ∈ l, StepOk s) (h0 : k0 < 256) (h1 : k1 < 256) :
    Calls Try.prog 8 #[.int .u32 (n : Int), .slice ao l.length c, .agg (arr2 k0 k1)] w fun e w' => e = .returned (.bool true) ∧ Below w.heap.size w w' := by
  by_cases h : k0 % 3 = k1 % 3
  · exact major_eq n ao c l k0 k1 w hn hSl hl h0 h1 h
  · exact major_ne n ao c l k0 k1 w hn hSl hl h0 h1 h
end Go.Proofs.Ytlcappkokdgpgaa
