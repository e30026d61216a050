/- The picks of the first map, reckoned. -/
import Derived.Test.YtmfgmdglpeadbaaPlaceMath
import Derived.KernelRfl
namespace Go.Proofs.Ytmfgmdglpeadbaa
set_option linter.unusedSimpArgs false
set_option linter.unusedVariables false

theorem first_0 : (pickM firstM 0).length = 3 := by kernel_rfl
theorem first_1 : (pickM firstM 1).length = 3 := by kernel_rfl
theorem first_2 : (pickM firstM 2).length = 3 := by kernel_rfl
theorem first_3 : (pickM firstM 3).length = 3 := by kernel_rfl

theorem first_len {g : Nat} (h : g < 4) : (pickM firstM g).length = 3 := by
  match g, h with
  | 0, _ => exact first_0
  | 1, _ => exact first_1
  | 2, _ => exact first_2
  | 3, _ => exact first_3

theorem first_none : pickM firstM 4 = [] := by unfold pickM; rw [if_neg (by omega)]

theorem zero_none (g : Nat) : pickM zeroM g = [] := by
  have h : isM zeroM = false := by decide
  unfold pickM
  rw [h, if_neg (by simp)]

theorem all_up (l : List Int) (h : ∀ x ∈ l, 0 ≤ x ∧ x < 5) : l.filter (upI firstM) = l := by
  rw [List.filter_eq_self]
  intro x hx
  obtain ⟨n, hn⟩ := Int.eq_ofNat_of_zero_le (h x hx).1
  have h5 := (h x hx).2
  subst hn
  rw [upI_at firstM n (by omega)]
  rfl

theorem first_act (g : Nat) : actM firstM g = pickM firstM g := all_up _ (pickM_mem firstM g).1

theorem moved_same (m : MapV) (k : Nat) : movedTo m m k = 0 := by
  induction k with
  | zero => rfl
  | succ k ih =>
    show movedTo m m k + (if pickM m k = pickM m k then 0 else 1) = 0
    rw [ih, if_pos rfl]
end Go.Proofs.Ytmfgmdglpeadbaa
