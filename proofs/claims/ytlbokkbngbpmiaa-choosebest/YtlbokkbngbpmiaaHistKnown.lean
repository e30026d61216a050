/- paddocklaw9.known returns true, where package history answers as it has to. -/
import Derived.Test.YtlbokkbngbpmiaaHistSpec
import Derived.KernelRfl
namespace Go.Proofs.Ytlbokkbngbpmiaa
set_option linter.unusedSimpArgs false
set_option linter.unusedVariables false
open Go.RowKit

def incN : IncV := ⟨4, 0, 0⟩
theorem incN_ok : IncOk incN := ⟨by decide, by decide, by decide, by decide⟩
theorem none_ok : okA (mapH [] 0) incN = true := by decide
theorem add_3 : addH [] 3 incN = (50, []) := addH_gap (by decide)
theorem add_1 : addH [] 1 incN = (51, []) := addH_old (by decide)
theorem add_2 : addH [] 2 incN = (0, [incN]) := addH_yes rfl none_ok
theorem iv_known : ivals [incN] 0 = [(1, actM firstM 0)] := by kernel_rfl
theorem since_known : sinceH [incN] 0 = 1 := by unfold sinceH; rw [iv_known]; rfl
theorem since_none (xs : List IncV) {g : Nat} (h : ¬ g < 4) : sinceH xs g = 0 := by unfold sinceH ivals; rw [if_neg h]; rfl
theorem map_2 : mapE [incN] 2 = (mapH [incN] 1, true) := mapE_yes ⟨by decide, by decide⟩
theorem map_3 : mapE [incN] 3 = (zeroM, false) := mapE_no (by decide)
theorem epoch_2 : (mapH [incN] 1).epoch = 2 := rfl

/-- What a change of an object leaves of elder memory. -/
theorem off_step {w0 w w' : World} {F F' : Nat → Prop} (hb : Below w0.heap.size w0 w) (hF : ∀ b, F b → w0.heap.size ≤ b) (ho : Off F w w') (hF' : ∀ b, F' b → F b ∨ w.heap.size ≤ b) : Below w0.heap.size w0 w' ∧ ∀ b, F' b → w0.heap.size ≤ b :=
  ⟨hb.trans (ho.below hF hb.size), fun b h => by
    rcases hF' b h with h | h
    · exact hF b h
    · exact Nat.le_trans hb.size h⟩

end Go.Proofs.Ytlbokkbngbpmiaa
