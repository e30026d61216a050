/- What is no state. -/
import Derived.Test.YtkkjdihmjcaibabLogPut
namespace Go.Proofs.Ytkkjdihmjcaibab
set_option linter.unusedSimpArgs false
set_option linter.unusedVariables false
open Go.RowKit

theorem is_not {s : StV} (h : ¬ (s.started ≤ 60 ∧ isTailM s.tail = true ∧ isBaseM s.base = true ∧ s.log.length ≤ 6 ∧ chainM s.tail s.log = true)) : isM s = false := by
  cases hi : isM s with
  | false => rfl
  | true => exact absurd ((is_is s).1 hi) h
/-- Of what is no state nothing comes. -/
theorem not_head {s : StV} (h : isM s = false) : headM s = (0, 0) := head_no h
theorem not_add {s : StV} {e : EntV} (h : isM s = false) : addM s e = (st0, 10) := add_no (can_no_is h)
theorem not_cut {s : StV} {n : Nat} (h : isM s = false) : cutM s n = (st0, 10) := by unfold cutM; rw [reach_form h]; rfl
theorem not_upto {s : StV} {n : Nat} (h : isM s = false) : uptoM s n = (base0, false) := by unfold uptoM; rw [reach_form h]; rfl

/-- A row's log, its last entry apart. -/
theorem row_last {q : Nat} {D : List OpV} (h : 2 ≤ D.length) : ∃ l0 o, (sK q D (D.length - 6)).log = l0 ++ [⟨q, D.length, o⟩] ∧ 0 < l0.length ∧ lastE (sK q D (D.length - 6)).tail l0 = ⟨q, D.length - 1, op0⟩ := by
  have hd : (D.drop (D.length - 6)).length = D.length - (D.length - 6) := List.length_drop
  obtain ⟨E, o, hE⟩ : ∃ E o, D.drop (D.length - 6) = E ++ [o] := by
    have hne : D.drop (D.length - 6) ≠ [] := fun e => by rw [e] at hd; simp at hd; omega
    exact ⟨_, _, (List.dropLast_concat_getLast hne).symm⟩
  have hEl : E.length + 1 = D.length - (D.length - 6) := by rw [← hd, hE, List.length_append]; rfl
  refine ⟨entsOf q (D.length - 6) E, o, ?_, by rw [ents_len]; omega, ?_⟩
  · show entsOf q (D.length - 6) (D.drop (D.length - 6)) = _
    rw [hE, ents_snoc, show D.length - 6 + E.length + 1 = D.length by omega]
  · show lastE (posQ q (D.length - 6)) (entsOf q (D.length - 6) E) = _
    rw [ents_last, show D.length - 6 + E.length = D.length - 1 by omega]
    unfold posQ
    rw [if_neg (by omega)]
theorem not_last {S : StV} {l0 : List EntV} {x : EntV} (h : followsM (lastE S.tail l0) x = false) : isM (withLog S (l0 ++ [x])) = false := by
  refine is_not fun hh => ?_
  have := hh.2.2.2.2
  rw [show (withLog S (l0 ++ [x])).log = l0 ++ [x] from rfl, show (withLog S (l0 ++ [x])).tail = S.tail from rfl, chain_snoc, h, Bool.and_false] at this
  cases this
end Go.Proofs.Ytkkjdihmjcaibab
