/- Facts of intervals and of who was heard. -/
import Derived.Test.YtlbokkbngbpmiaaChooseMath
import Derived.Test.YtlbokkbngbpmiaaPlaceFacts
import Derived.Test.YtlbokkbngbpmiaaIncRows
namespace Go.Proofs.Ytlbokkbngbpmiaa
set_option linter.unusedSimpArgs false
set_option linter.unusedVariables false

theorem takeH_le9 (l : List IncV) (i : Nat) : (takeH l i).length ≤ i := by
  induction i with
  | zero => exact Nat.le_refl _
  | succ i ih =>
    by_cases h : i < l.length
    · rw [takeH_succ h]
      rcases add_next (takeH l i) l[i] with ⟨e, _⟩ | ⟨e, _⟩
      · rw [e]; simp; omega
      · rw [e]; show (takeH l i).length ≤ i + 1; omega
    · have : takeH l (i + 1) = takeH l i := by
        unfold takeH
        rw [List.take_of_length_le (by omega), List.take_of_length_le (by omega)]
      rw [this]; omega
theorem ivTo_rise (xs : List IncV) (g n : Nat) : (ivTo xs g n).Pairwise (fun a b => a.1 < b.1) := by
  induction n with
  | zero => exact List.pairwise_singleton _ _
  | succ n ih =>
    by_cases he : actH xs n g = actH xs (n + 1) g
    · rw [ivTo_same he]; exact ih
    · rw [ivTo_new he, List.pairwise_append]
      refine ⟨ih, List.pairwise_singleton _ _, fun a ha b hb => ?_⟩
      obtain rfl := List.mem_singleton.1 hb
      have := (ivTo_ok xs g n a ha).1.2
      show a.1 < n + 2
      omega
/-- A group's intervals: those that are over, the last one. -/
theorem ivals_parts (xs : List IncV) {g : Nat} (hg : g < 4) : ∃ l, ivals xs g = l ++ [(sinceH xs g, nowH xs g)] ∧ ∀ v ∈ l, v.1 < sinceH xs g := by
  obtain ⟨l, s, h, h1, h2⟩ := ivTo_last xs g xs.length
  have hi : ivals xs g = l ++ [(s, actH xs xs.length g)] := by unfold ivals; rw [if_pos hg, h]
  have hs : sinceH xs g = s := by unfold sinceH; rw [hi]; simp
  refine ⟨l, by rw [hi, hs, now_is], fun v hv => ?_⟩
  have hp := ivTo_rise xs g xs.length
  rw [h, List.pairwise_append] at hp
  rw [hs]
  exact hp.2.2 v hv _ (List.mem_singleton.2 rfl)
theorem now_apart (xs : List IncV) (g : Nat) : (nowH xs g).Pairwise (· ≠ ·) := by
  rw [now_is]
  unfold actH actM
  exact ((pickM_apart _ g).1.imp (fun h => h.1)).sublist List.filter_sublist
theorem since_lt (xs : List IncV) (g : Nat) (hl : xs.length ≤ 59) : sinceH xs g < 4294967296 := by
  unfold sinceH
  cases h : (ivals xs g).getLast? with
  | none => show 0 < 4294967296; decide
  | some p =>
    have := (ivals_ok xs g p (List.mem_of_getLast? h)).1.2
    show p.1 < _
    omega

theorem started_lacks (xs : List IncV) {g : Nat} (hg : g < 4) (hs : List Int) : lacksM (ivals xs g) hs (sinceH xs g) = [] := by
  obtain ⟨l, h, hl⟩ := ivals_parts xs hg
  unfold lacksM
  rw [h, over_snoc, List.filter_eq_nil_iff]
  intro v hv
  have := hl v hv
  unfold lackB
  rw [decide_eq_false (show ¬ sinceH xs g ≤ v.1 by omega)]
  simp
theorem started_any (xs : List IncV) {g : Nat} (hg : g < 4) (hs : List Int) : (ivals xs g).dropLast.any (lackB hs (sinceH xs g)) = false := by
  rw [← Bool.not_eq_true, List.any_eq_true]
  rintro ⟨v, hv, hb⟩
  have h0 := started_lacks xs hg hs
  unfold lacksM at h0
  rw [List.filter_eq_nil_iff] at h0
  exact h0 v hv hb
theorem started_enough (xs : List IncV) {g : Nat} (hg : g < 4) : enoughM (ivals xs g) (nowH xs g) (sinceH xs g) = true := by
  unfold enoughM
  rw [started_any xs hg, ivals_now]
  simp [hrd]
theorem started_less (xs : List IncV) {g : Nat} (hg : g < 4) {x : Int} {a : List Int} (ha : nowH xs g = x :: a) : enoughM (ivals xs g) a (sinceH xs g) = false := by
  unfold enoughM
  rw [started_any xs hg, ivals_now, ha]
  have hp := now_apart xs g
  rw [ha, List.pairwise_cons] at hp
  have hx : hrd a x = false := decide_eq_false (fun h => hp.1 x h rfl)
  simp [hx]

theorem filter_less {α : Type} {p q : α → Bool} (h : ∀ x, p x = true → q x = true) (l : List α) : (l.filter p).length ≤ (l.filter q).length := by
  rw [← List.countP_eq_length_filter, ← List.countP_eq_length_filter]
  exact List.countP_mono_left (fun x _ hx => h x hx)
theorem hrd_more {hs : List Int} {y x : Int} (h : hrd hs x = true) : hrd (hs ++ [y]) x = true := by rw [hrd_snoc, h]; rfl
theorem lackB_is (hs : List Int) (s : Nat) (v : Nat × List Int) : lackB hs s v = true ↔ (2 ≤ v.2.length ∧ s ≤ v.1) ∧ ∀ x ∈ v.2, hrd hs x = false := by
  unfold lackB
  rw [Bool.and_eq_true, Bool.and_eq_true, decide_eq_true_iff, decide_eq_true_iff, Bool.not_eq_true', ← Bool.not_eq_true, List.any_eq_true]
  constructor
  · rintro ⟨h, h2⟩
    refine ⟨h, fun x hx => ?_⟩
    cases hh : hrd hs x with
    | false => rfl
    | true => exact absurd ⟨x, hx, hh⟩ h2
  · rintro ⟨h, h2⟩
    refine ⟨h, ?_⟩
    rintro ⟨x, hx, hh⟩
    rw [h2 x hx] at hh
    cases hh
theorem lack_more {hs : List Int} {y : Int} {s : Nat} {v : Nat × List Int} (h : lackB (hs ++ [y]) s v = true) : lackB hs s v = true := by
  rw [lackB_is] at h ⊢
  refine ⟨h.1, fun x hx => ?_⟩
  have := h.2 x hx
  rw [hrd_snoc, Bool.or_eq_false_iff] at this
  exact this.1
theorem lack_later {hs : List Int} {s : Nat} {v : Nat × List Int} (h : lackB hs (s + 1) v = true) : lackB hs s v = true := by
  rw [lackB_is] at h ⊢
  exact ⟨⟨h.1.1, by omega⟩, h.2⟩
theorem any_less {α : Type} {p q : α → Bool} (h : ∀ x, p x = true → q x = true) {l : List α} (hq : l.any q = false) : l.any p = false := by
  rw [← Bool.not_eq_true, List.any_eq_true] at hq ⊢
  rintro ⟨x, hx, hp⟩
  exact hq ⟨x, hx, h x hp⟩
theorem lacks_more (V : List (Nat × List Int)) (hs : List Int) (y : Int) (s : Nat) : (lacksM V (hs ++ [y]) s).length ≤ (lacksM V hs s).length := filter_less (fun v h => lack_more h) _
theorem lacks_later (V : List (Nat × List Int)) (hs : List Int) (s : Nat) : (lacksM V hs (s + 1)).length ≤ (lacksM V hs s).length := filter_less (fun v h => lack_later h) _
theorem enough_is (V : List (Nat × List Int)) (hs : List Int) (s : Nat) : enoughM V hs s = true ↔ V.dropLast.any (lackB hs s) = false ∧ (nowI V).2.any (fun x => !hrd hs x) = false := by
  unfold enoughM
  rw [Bool.and_eq_true, Bool.not_eq_true', Bool.not_eq_true']
theorem enough_more {V : List (Nat × List Int)} {hs : List Int} {y : Int} {s : Nat} (h : enoughM V hs s = true) : enoughM V (hs ++ [y]) s = true := by
  rw [enough_is] at h ⊢
  refine ⟨any_less (fun v h => lack_more h) h.1, any_less (fun x hx => ?_) h.2⟩
  cases hh : hrd hs x with
  | false => rfl
  | true => rw [hrd_more hh] at hx; cases hx
theorem enough_later {V : List (Nat × List Int)} {hs : List Int} {s : Nat} (h : enoughM V hs s = true) : enoughM V hs (s + 1) = true := by
  rw [enough_is] at h ⊢
  exact ⟨any_less (fun v h => lack_later h) h.1, h.2⟩
theorem hrd_all {x : Int} (h : 0 ≤ x ∧ x < 5) : hrd [0, 1, 2, 3, 4] x = true := by
  have : x = 0 ∨ x = 1 ∨ x = 2 ∨ x = 3 ∨ x = 4 := by omega
  rcases this with rfl | rfl | rfl | rfl | rfl <;> rfl
theorem lack_all {v : Nat × List Int} (h : ∀ x ∈ v.2, 0 ≤ x ∧ x < 5) (s : Nat) : lackB [0, 1, 2, 3, 4] s v = false := by
  rw [← Bool.not_eq_true, lackB_is]
  rintro ⟨⟨h2, _⟩, hn⟩
  cases hv : v.2 with
  | nil => rw [hv] at h2; simp at h2
  | cons x l =>
    have hx : x ∈ v.2 := by rw [hv]; exact List.mem_cons_self
    have := hn x hx
    rw [hrd_all (h x hx)] at this
    cases this
theorem lacks_all (xs : List IncV) (g s : Nat) : lacksM (ivals xs g) [0, 1, 2, 3, 4] s = [] := by
  unfold lacksM
  rw [List.filter_eq_nil_iff]
  intro v hv
  rw [lack_all (ivals_ok xs g v (List.dropLast_subset _ hv)).2.2]
  simp
theorem enough_all (xs : List IncV) (g s : Nat) : enoughM (ivals xs g) [0, 1, 2, 3, 4] s = true := by
  rw [enough_is]
  constructor
  · rw [← Bool.not_eq_true, List.any_eq_true]
    rintro ⟨v, hv, hb⟩
    rw [lack_all (ivals_ok xs g v (List.dropLast_subset _ hv)).2.2] at hb
    cases hb
  · rw [← Bool.not_eq_true, List.any_eq_true]
    rintro ⟨x, hx, hb⟩
    rw [ivals_now, now_is] at hx
    rw [hrd_all ((actM_mem _ g).1 x hx)] at hb
    cases hb
end Go.Proofs.Ytlbokkbngbpmiaa
