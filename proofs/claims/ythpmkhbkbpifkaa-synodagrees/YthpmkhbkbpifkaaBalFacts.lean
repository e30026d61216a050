/- What comes of Prepare and Accept, case by case. -/
import Derived.Test.YthpmkhbkbpifkaaBalMath
namespace Go.Proofs.Ythpmkhbkbpifkaa
set_option linter.unusedSimpArgs false
set_option linter.unusedVariables false
open Go.RowKit

theorem isB_of {n k : Nat} (h1 : 0 < n) (h2 : k < 3) : isB ⟨n, k⟩ = true := (isB_is _).2 ⟨h1, h2⟩
theorem less_yes {a b : BalV} (h : a.n < b.n) : lessB a b = true := (lessB_is _ _).2 (.inl h)
theorem less_no {a b : BalV} (h : b.n < a.n) : lessB a b = false := by
  rw [← Bool.not_eq_true, lessB_is]
  omega
theorem less_same (a : BalV) : lessB a a = false := by
  rw [← Bool.not_eq_true, lessB_is]
  omega
theorem less_0 (a : BalV) : lessB a bal0 = false := by
  rw [← Bool.not_eq_true, lessB_is]
  show ¬ (a.n < 0 ∨ (a.n = 0 ∧ a.who < 0))
  omega
theorem same_self (a : BalV) : sameBal a a = true := (sameBal_is _ _).2 rfl
theorem same_selfI (x : IncV) : (decide (x.kind = x.kind) && (decide (x.osd = x.osd) && decide (x.n = x.n))) = true := by simp

theorem prep_yes (a : AccV) (b : BalV) (h1 : isB b = true) (h2 : lessB b a.pro = false) :
    errP a.pro b = 0 ∧ prepM a b = ⟨b, a.acc, a.inc⟩ ∧ tellB a b = a.acc ∧ tellX a b = a.inc ∧ tellH a b = hasA a := by
  have h : errP a.pro b = 0 := by unfold errP; rw [h1, h2]; rfl
  unfold prepM tellB tellX tellH
  rw [h]
  exact ⟨rfl, rfl, rfl, rfl, rfl⟩
theorem acc_yes (a : AccV) (b : BalV) (x : IncV) (h0 : isInc x = true) (h1 : isB b = true) (h2 : lessB b a.pro = false) : errA a.pro b x = 0 ∧ accM a b x = ⟨b, b, x⟩ := by
  have h : errA a.pro b x = 0 := by unfold errA errP; rw [h0, h1, h2]; rfl
  unfold accM
  rw [h]
  exact ⟨rfl, rfl⟩
theorem acc_nack (a : AccV) (b : BalV) (x : IncV) (h0 : isInc x = true) (h1 : isB b = true) (h2 : lessB b a.pro = true) : errA a.pro b x = 100 ∧ accM a b x = a := by
  have h : errA a.pro b x = 100 := by unfold errA errP; rw [h0, h1, h2]; rfl
  unfold accM
  rw [h]
  exact ⟨rfl, rfl⟩
theorem has_of {p b : BalV} {x : IncV} (h : isB b = true) : hasA ⟨p, b, x⟩ = true := by
  have h1 := ((isB_is _).1 h).1
  unfold hasA
  cases hs : sameBal b bal0 with
  | false => rfl
  | true =>
    rw [sameBal_is] at hs
    rw [hs] at h1
    exact absurd h1 (by decide)
theorem inc3 {o : Nat} (h : o < 5) : isInc ⟨3, o, 3⟩ = true := by rw [isInc_of, decide_eq_true_iff]; omega
theorem inc1 {o : Nat} (h : o < 5) : isInc ⟨1, o, 0⟩ = true := by rw [isInc_of, decide_eq_true_iff]; omega
end Go.Proofs.Ythpmkhbkbpifkaa
