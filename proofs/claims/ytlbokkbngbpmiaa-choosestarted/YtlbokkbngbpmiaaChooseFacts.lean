/- Facts of intervals and of who was heard. -/
import Derived.Test.YtlbokkbngbpmiaaChooseMath
import Derived.Test.YtlbokkbngbpmiaaPlaceFacts
import Derived.Test.YtlbokkbngbpmiaaIncRows
namespace Go.Proofs.Ytlbokkbngbpmiaa
set_option linter.unusedSimpArgs false
set_option linter.unusedVariables false

theorem takeH_le9 (l : List IncV) (i : Nat) : (takeH l i).length ≤ i := by
  induction i with
  | zero => exact Nat.le_refl _
  | succ i ih =>
    by_cases h : i < l.length
    · rw [takeH_succ h]
      rcases add_next (takeH l i) l[i] with ⟨e, _⟩ | ⟨e, _⟩
      · rw [e]; simp; omega
      · rw [e]; show (takeH l i).length ≤ i + 1; omega
    · have : takeH l (i + 1) = takeH l i := by
        unfold takeH
        rw [List.take_of_length_le (by omega), List.take_of_length_le (by omega)]
      rw [this]; omega
theorem ivTo_rise (xs : List IncV) (g n : Nat) : (ivTo xs g n).Pairwise (fun a b => a.1 < b.1) := by
  induction n with
  | zero => exact List.pairwise_singleton _ _
  | succ n ih =>
    by_cases he : actH xs n g = actH xs (n + 1) g
    · rw [ivTo_same he]; exact ih
    · rw [ivTo_new he, List.pairwise_append]
      refine ⟨ih, List.pairwise_singleton _ _, fun a ha b hb => ?_⟩
      obtain rfl := List.mem_singleton.1 hb
      have := (ivTo_ok xs g n a ha).1.2
      show a.1 < n + 2
      omega
/-- A group's intervals: those that are over, the last one. -/
theorem ivals_parts (xs : List IncV) {g : Nat} (hg : g < 4) : ∃ l, ivals xs g = l ++ [(sinceH xs g, nowH xs g)] ∧ ∀ v ∈ l, v.1 < sinceH xs g := by
  obtain ⟨l, s, h, h1, h2⟩ := ivTo_last xs g xs.length
  have hi : ivals xs g = l ++ [(s, actH xs xs.length g)] := by unfold ivals; rw [if_pos hg, h]
  have hs : sinceH xs g = s := by unfold sinceH; rw [hi]; simp
  refine ⟨l, by rw [hi, hs, now_is], fun v hv => ?_⟩
  have hp := ivTo_rise xs g xs.length
  rw [h, List.pairwise_append] at hp
  rw [hs]
  exact hp.2.2 v hv _ (List.mem_singleton.2 rfl)
theorem now_apart (xs : List IncV) (g : Nat) : (nowH xs g).Pairwise (· ≠ ·) := by
  rw [now_is]
  unfold actH actM
  exact ((pickM_apart _ g).1.imp (fun h => h.1)).sublist List.filter_sublist
theorem since_lt (xs : List IncV) (g : Nat) (hl : xs.length ≤ 59) : sinceH xs g < 4294967296 := by
  unfold sinceH
  cases h : (ivals xs g).getLast? with
  | none => show 0 < 4294967296; decide
  | some p =>
    have := (ivals_ok xs g p (List.mem_of_getLast? h)).1.2
    show p.1 < _
    omega

theorem started_lacks (xs : List IncV) {g : Nat} (hg : g < 4) (hs : List Int) : lacksM (ivals xs g) hs (sinceH xs g) = [] := by
  obtain ⟨l, h, hl⟩ := ivals_parts xs hg
  unfold lacksM
  rw [h, over_snoc, List.filter_eq_nil_iff]
  intro v hv
  have := hl v hv
  unfold lackB
  rw [decide_eq_false (show ¬ sinceH xs g ≤ v.1 by omega)]
  simp
theorem started_any (xs : List IncV) {g : Nat} (hg : g < 4) (hs : List Int) : (ivals xs g).dropLast.any (lackB hs (sinceH xs g)) = false := by
  rw [← Bool.not_eq_true, List.any_eq_true]
  rintro ⟨v, hv, hb⟩
  have h0 := started_lacks xs hg hs
  unfold lacksM at h0
  rw [List.filter_eq_nil_iff] at h0
  exact h0 v hv hb
theorem started_enough (xs : List IncV) {g : Nat} (hg : g < 4) : enoughM (ivals xs g) (nowH xs g) (sinceH xs g) = true := by
  unfold enoughM
  rw [started_any xs hg, ivals_now]
  simp [hrd]
theorem started_less (xs : List IncV) {g : Nat} (hg : g < 4) {x : Int} {a : List Int} (ha : nowH xs g = x :: a) : enoughM (ivals xs g) a (sinceH xs g) = false := by
  unfold enoughM
  rw [started_any xs hg, ivals_now, ha]
  have hp := now_apart xs g
  rw [ha, List.pairwise_cons] at hp
  have hx : hrd a x = false := decide_eq_false (fun h => hp.1 x h rfl)
  simp [hx]
end Go.Proofs.Ytlbokkbngbpmiaa
