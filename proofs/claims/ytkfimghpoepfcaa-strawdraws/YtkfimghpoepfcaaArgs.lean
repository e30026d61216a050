/- What the rows hand to the walks: slices of bytes that came in. -/
import Derived.Test.YtkfimghpoepfcaaMath
import Derived.OpenShut
namespace Go.Proofs.Ytkfimghpoepfcaa
open Go.RowKit

/-- What the walk is told of a slice of integers that came in: it is nil; or it leads to a row of 'cap' cells, the numbers 'zs' (the first 'len' are its elements), each fitting its kind. -/
def IsRow (k : IntKind) (w : World) (a : Option Addr) (len cap : Nat) (zs : List Int) : Prop :=
  (a = none ∧ len = 0 ∧ cap = 0 ∧ zs = []) ∨
  ∃ x, a = some x ∧ len ≤ cap ∧ cap ≤ maxLen ∧ zs.length = cap ∧ (∀ i, i < zs.length → w.cell? (x.add i) = some (.int k (zs.getD i 0))) ∧ ∀ n ∈ zs, (Lit.int k n).wf = true

theorem by_of_row {w : World} {a : Option Addr} {len cap : Nat} {zs : List Int} (h : IsRow .u8 w a len cap zs) : ∃ xs : List UInt8, xs.length = len ∧ By w a cap xs := by
  rcases h with ⟨rfl, rfl, rfl, rfl⟩ | ⟨x, rfl, hl, hm, hz, hc, hw⟩
  · exact ⟨[], rfl, By.nothing w⟩
  · refine ⟨(zs.take len).map fun z => UInt8.ofNat z.toNat, ?_, ⟨?_, hm, (fun h => by cases h), fun ad had j u hu => ?_⟩⟩
    · rw [List.length_map, List.length_take]; omega
    · rw [List.length_map, List.length_take]; omega
    · obtain rfl := Option.some.inj had
      have hj : j < len := by
        have := (List.getElem?_eq_some_iff.1 hu).1
        rw [Bs_length, List.length_map, List.length_take] at this
        omega
      have hj2 : j < zs.length := by omega
      have hb := bounds_u8 (hw zs[j] (List.getElem_mem hj2))
      rw [hc j hj2]
      simp only [Bs, List.map_map, List.getElem?_map, List.getElem?_take, hj, if_true, List.getElem?_eq_getElem hj2, Option.map_some, Function.comp] at hu
      rw [← hu]
      simp only [List.getD, List.getElem?_eq_getElem hj2, Option.getD_some, B]
      have e : ((UInt8.ofNat zs[j].toNat).toNat : Int) = zs[j] := by
        rw [UInt8.toNat_ofNat']
        omega
      rw [e]
end Go.Proofs.Ytkfimghpoepfcaa
