/- What comes in, opened: an array of integers by value. -/
import Derived.Below
import Derived.Carry
import Derived.OpenShut
import Derived.WalkKit
import Derived.ProofKit
namespace Go.Proofs.Ytlcappkokdgpgaa
set_option linter.unusedSimpArgs false
set_option linter.unusedVariables false
open Go.ChangeShapes Go.WideShapes Go.ChangeAt Go.RowKit

/-- An array of integers that came in by value: its cells are integers of their kind. -/
theorem open_ints_array {H : Type} {enc : TypeId × Value → H} {P : Program} {W : World} {base : Nat} {t e : TypeId} {n : Nat} {k : IntKind} {v : Value} {d : DataW H} {p : List MemPlace}
    (ht : P.underlying t = some (.array n e)) (he : P.underlying e = some (.int k)) (hce : P.cellsOf e = 1) (hct : P.cellsOf t = n)
    (ok : Value.okWide P W .any base t v) (h : DataW.Trod enc P W 0 (fun _ => true) true t v d p) :
    ∃ xs : List Int, v = .agg (xs.map (Value.int k)).toArray ∧ xs.length = n ∧ ∀ x ∈ xs, (Lit.int k x).wf = true := by
  obtain ⟨cs, rfl, hsz, _⟩ : ∃ cs, v = .agg cs ∧ cs.size = P.cellsOf t ∧ Row.okWide P W .any base t cs := by
    simpa [Value.okWide, ht] using ok
  rw [hct] at hsz
  obtain ⟨l⟩ := cs
  have hsz : l.length = n := hsz
  obtain ⟨fuel, hf⟩ := h
  obtain ⟨xs, m, _, _, _, hxl, hx⟩ := DataW.trod_array ht hf
  have hall : ∀ i (hi : i < n), ∃ x : Int, l[i]? = some (.int k x) ∧ (Lit.int k x).wf = true := by
    intro i hi
    have h1 := hx i hi
    rw [hce, Nat.mul_one, List.getElem?_eq_getElem (by omega)] at h1
    obtain ⟨x, ex, _, wx⟩ := DataW.trod_int he h1
    have h2 : ((l.drop i).take 1) = [l[i]'(by omega)] := by
      rw [List.drop_eq_getElem_cons (by omega)]
      rfl
    have ex' : (l.drop i).take 1 = [.int k x] := ex
    rw [h2] at ex'
    refine ⟨x, ?_, wx⟩
    rw [List.getElem?_eq_getElem (by omega)]
    exact congrArg some (List.cons.inj ex').1
  refine ⟨l.map (fun v => match v with | .int _ x => x | _ => 0), ?_, by simp [hsz], ?_⟩
  · congr 2
    apply List.ext_getElem?
    intro i
    by_cases hi : i < n
    · obtain ⟨x, hx, _⟩ := hall i hi
      simp [hx]
    · rw [List.getElem?_eq_none (by omega), List.getElem?_eq_none (by simp; omega)]
  · intro x hx
    obtain ⟨v, hv, rfl⟩ := List.mem_map.1 hx
    obtain ⟨i, hi, rfl⟩ := List.getElem_of_mem hv
    obtain ⟨x, hx, wx⟩ := hall i (by omega)
    rw [List.getElem?_eq_getElem (by omega)] at hx
    rw [Option.some.inj hx]
    exact wx
end Go.Proofs.Ytlcappkokdgpgaa
