/- A slice of int that comes in. -/
import Derived.Test.YtlbokkbngbpmiaaPackMaps
namespace Go.Proofs.Ytlbokkbngbpmiaa
set_option linter.unusedSimpArgs false
set_option linter.unusedVariables false
set_option maxRecDepth 100000
open Go.ChangeShapes Go.WideShapes Go.ChangeAt Go.RowKit

theorem open_intsl {H : Type} {enc : TypeId × Value → H} {W : World} {base : Nat} {v : Value} {d : DataW H} {p : List MemPlace} (ok : Value.okWide Try.prog W .any base 22 v) (h : DataW.Trod enc Try.prog W 0 (fun _ => true) true 22 v d p) :
    ∃ ao c xs, v = .slice ao xs.length c ∧ Ix W ao c xs := by
  obtain ⟨ao, c, xs, hv, hS, _⟩ := open_rows (P := Try.prog) (fun x : Int => [Value.int .i64 x]) (fun _ => True) 1 Try.underlying22 cells_int (fun fuel y cs h => by
    obtain ⟨x, q, _, _⟩ := DataW.trod_int Try.underlying3 h
    exact ⟨x, q, trivial⟩) (fun _ => rfl) ok h
  refine ⟨ao, c, xs, hv, ⟨?_, hS.cap, hS.nil, fun ad had j hj => ?_⟩⟩
  · have := hS.le
    rw [List.length_map] at this
    exact this
  · have := hS.at' ad had j (by rw [List.length_map]; exact hj) 0 (by decide)
    rw [Nat.mul_one, Nat.add_zero] at this
    rw [this]
    simp
end Go.Proofs.Ytlbokkbngbpmiaa
