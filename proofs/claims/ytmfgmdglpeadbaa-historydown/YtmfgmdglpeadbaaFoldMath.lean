/- Folds of one increment, again and again. -/
import Derived.Test.YtmfgmdglpeadbaaFolds
namespace Go.Proofs.Ytmfgmdglpeadbaa
set_option linter.unusedSimpArgs false
set_option linter.unusedVariables false

theorem okA_not {m : MapV} {x : IncV} (h : isM m = false ∨ isInc x = false ∨ 60 ≤ m.epoch) : okA m x = false ∧ applyM m x = zeroM := by
  have : okA m x = false := by
    unfold okA
    rcases h with h | h | h
    · rw [h]; rfl
    · rw [h, Bool.and_false]; rfl
    · rw [decide_eq_false (by omega), Bool.and_false]
  exact ⟨this, by unfold applyM; rw [this]; rfl⟩

theorem okA_yes {m : MapV} {x : IncV} (h1 : isM m = true) (h2 : isInc x = true) (h3 : m.epoch < 60) : okA m x = true ∧ applyM m x = nextM m x := by
  have : okA m x = true := by
    unfold okA
    rw [h1, h2, decide_eq_true h3]
    rfl
  exact ⟨this, by unfold applyM; rw [this]; rfl⟩

theorem osdOk_turn {x : IncV} {o : OsdV} (hx : isInc x = true) (h : osdOk o = true) : osdOk (turn x o) = true := by
  obtain ⟨k, p, n⟩ := x
  rw [isInc_of, decide_eq_true_iff] at hx
  rw [osdOk_is] at h ⊢
  unfold turn
  simp only
  split
  · exact h
  · split
    · exact h
    · split
      · exact ⟨by show 0 ≤ n; omega, by show n ≤ 16; omega, h.2.2⟩
      · exact h

theorem isM_is (m : MapV) : isM m = true ↔ (1 ≤ m.epoch ∧ m.epoch ≤ 60) ∧ ∀ i, osdOk (m.osd i) = true := by
  unfold isM
  simp only [Bool.and_eq_true, decide_eq_true_iff]
  constructor
  · rintro ⟨he, ⟨⟨⟨h0, h1⟩, h2⟩, h3⟩, h4⟩
    refine ⟨he, fun i => ?_⟩
    match i with
    | 0 => exact h0
    | 1 => exact h1
    | 2 => exact h2
    | 3 => exact h3
    | 4 => exact h4
  · rintro ⟨he, h⟩
    exact ⟨he, ⟨⟨⟨h 0, h 1⟩, h 2⟩, h 3⟩, h 4⟩

theorem isM_next {m : MapV} {x : IncV} (hm : isM m = true) (hx : isInc x = true) (he : m.epoch < 60) : isM (nextM m x) = true := by
  rw [isM_is] at hm ⊢
  refine ⟨⟨show 1 ≤ m.epoch + 1 by omega, show m.epoch + 1 ≤ 60 by omega⟩, fun i => ?_⟩
  show osdOk (if i.val = x.osd then turn x (m.osd i) else m.osd i) = true
  split
  · exact osdOk_turn hx (hm.2 i)
  · exact hm.2 i

theorem okA_is (m : MapV) (x : IncV) : okA m x = true ↔ isM m = true ∧ isInc x = true ∧ m.epoch < 60 := by
  unfold okA
  simp only [Bool.and_eq_true, decide_eq_true_iff, and_assoc]

theorem fold_rep {x : IncV} (hx : isInc x = true) (hk : IncOk x) (n : Nat) : ∀ m : MapV, isM m = true → MapOk m →
    (m.epoch + n ≤ 60 → (foldFrom m (List.replicate n x)).2 = true ∧ isM (foldFrom m (List.replicate n x)).1 = true ∧ (foldFrom m (List.replicate n x)).1.epoch = m.epoch + n ∧ MapOk (foldFrom m (List.replicate n x)).1) ∧
    (60 < m.epoch + n → (foldFrom m (List.replicate n x)).2 = false) := by
  induction n with
  | zero =>
    intro m hm ho
    refine ⟨fun _ => ⟨rfl, hm, rfl, ho⟩, fun h => ?_⟩
    have := ((isM_is m).1 hm).1
    omega
  | succ n ih =>
    intro m hm ho
    have e : List.replicate (n + 1) x = x :: List.replicate n x := rfl
    rw [e]
    show (m.epoch + (n + 1) ≤ 60 → (if okA m x then foldFrom (nextM m x) (List.replicate n x) else (zeroM, false)).2 = true ∧ isM (if okA m x then foldFrom (nextM m x) (List.replicate n x) else (zeroM, false)).1 = true ∧
      (if okA m x then foldFrom (nextM m x) (List.replicate n x) else (zeroM, false)).1.epoch = m.epoch + (n + 1) ∧ MapOk (if okA m x then foldFrom (nextM m x) (List.replicate n x) else (zeroM, false)).1) ∧
      (60 < m.epoch + (n + 1) → (if okA m x then foldFrom (nextM m x) (List.replicate n x) else (zeroM, false)).2 = false)
    by_cases h : m.epoch < 60
    · rw [if_pos ((okA_is m x).2 ⟨hm, hx, h⟩)]
      have := ih (nextM m x) (isM_next hm hx h) (next_ok ho hk h)
      have e2 : (nextM m x).epoch = m.epoch + 1 := rfl
      rw [e2] at this
      refine ⟨fun hle => ?_, fun hlt => this.2 (by omega)⟩
      obtain ⟨a, b, c, d⟩ := this.1 (by omega)
      exact ⟨a, b, by rw [c]; omega, d⟩
    · have hno : okA m x = false := by
        rw [← Bool.not_eq_true, okA_is]
        exact fun hh => h hh.2.2
      rw [hno]
      exact ⟨fun hle => absurd hle (by omega), fun _ => rfl⟩
end Go.Proofs.Ytmfgmdglpeadbaa
