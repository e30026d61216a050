/- A slice that is the whole of a block. Nothing of the program is in it. -/
import Derived.Test.YtphlfepgaghhhaaSlice
import Derived.Deep.MidRow
namespace Go.Proofs.Ytphlfepgaghhhaa
set_option linter.unusedSimpArgs false
set_option linter.unusedVariables false
open Go.RowKit

theorem flatten_at {sz : Nat} : ∀ (rows : List (List Value)), (∀ r ∈ rows, r.length = sz) → ∀ (i : Nat) (h : i < rows.length) (j : Nat), j < sz → (rows.flatten)[i * sz + j]? = (rows[i])[j]? := by
  intro rows
  induction rows with
  | nil => intro _ i h; cases h
  | cons r rows ih =>
    intro hr i h j hj
    have hl := hr r (List.mem_cons_self ..)
    rw [List.flatten_cons]
    match i with
    | 0 =>
      rw [List.getElem?_append_left (by rw [hl]; omega)]
      simp
    | i + 1 =>
      rw [List.getElem?_append_right (by rw [hl, Nat.succ_mul]; omega), hl, show (i + 1) * sz + j - sz = i * sz + j by rw [Nat.succ_mul]; omega]
      exact ih (fun r' h' => hr r' (List.mem_cons_of_mem _ h')) i (by simpa using h) j hj

theorem Sl.of_block {w : World} {g sz : Nat} {t : TypeId} {rows : List (List Value)} (h : Has w g t rows.flatten.toArray) (hr : ∀ r ∈ rows, r.length = sz) (hn : rows.length ≤ 1000000) : Sl w (some ⟨g, 0, none⟩) rows.length sz rows := by
  refine ⟨Nat.le_refl _, by omega, (fun h => by cases h), hr, fun ad had i hi j hj => ?_⟩
  obtain rfl := Option.some.inj had
  have hc := h.cell (i * sz + j)
  have e : (⟨g, 0, none⟩ : Addr).add (i * sz + j) = ⟨g, i * sz + j, none⟩ := by rw [Addr.add_mid, Nat.zero_add]
  rw [e, hc, List.getElem?_toArray]
  exact flatten_at rows hr i hi j hj
end Go.Proofs.Ytphlfepgaghhhaa
