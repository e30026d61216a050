/- The contract of the document's IsInc. -/
import Derived.Test.YtlcappkokdgpgaaPackMaps
namespace Go.Proofs.Ytlcappkokdgpgaa
set_option linter.unusedSimpArgs false
set_option linter.unusedVariables false
open Go.RowKit

set_option maxRecDepth 100000 in
set_option maxHeartbeats 1000000 in
theorem refisinc_any (x : IncV) (w : World) (hx : IncOk x) :
    Calls Try.prog 21 #[.agg (incC x)] w fun e w' => e = .returned (.bool (isInc x)) ∧ Below w.heap.size w w' := by
  obtain ⟨k, o, n⟩ := x
  obtain ⟨h1, h2, h3, h4⟩ := hx
  simp only at h1 h2 h3 h4
  show Calls Try.prog 21 #[.agg #[.int .u8 (k : Int), .int .u8 (o : Int), .int .i64 n]] w _
  go_enter Try.func21, Try.ntmps21
  go_wp2
  all_goals
    go_ret
    refine ⟨ret_bool ?_, (Below.refl _ _).alloc (Nat.le_refl _) _⟩
    rw [isInc_of, Bool.eq_iff_iff]
    simp only [beq_iff_eq, beq_eq_false_iff_ne, ne_eq] at *
    simp
    omega
end Go.Proofs.Ytlcappkokdgpgaa
