/- Choices as mathematics: who was heard, which intervals are lacking, which state counts. -/
import Derived.Test.YtlbokkbngbpmiaaHistMath
import Derived.Test.YtlbokkbngbpmiaaPackLog
namespace Go.Proofs.Ytlbokkbngbpmiaa
set_option linter.unusedSimpArgs false
set_option linter.unusedVariables false

/-- Whether a daemon was heard. -/
def hrd (hs : List Int) (x : Int) : Bool := decide (x ∈ hs)
/-- Whether an interval is lacking (P9.2). -/
def lackB (hs : List Int) (s : Nat) (v : Nat × List Int) : Bool := (decide (2 ≤ v.2.length) && decide (s ≤ v.1)) && !(v.2.any (hrd hs))
/-- The last interval. -/
def nowI (V : List (Nat × List Int)) : Nat × List Int := V.getLast?.getD (0, [])
def lacksM (V : List (Nat × List Int)) (hs : List Int) (s : Nat) : List (Nat × List Int) := V.dropLast.filter (lackB hs s)
def enoughM (V : List (Nat × List Int)) (hs : List Int) (s : Nat) : Bool := !(V.dropLast.any (lackB hs s)) && !((nowI V).2.any fun x => !hrd hs x)
def servesM (V : List (Nat × List Int)) : Bool := decide (2 ≤ (nowI V).2.length)

/-- What a daemon's state is held against others by. -/
structure RankV where
  started : Nat
  since : Nat
  n : Nat
  osd : Int
def rankOf (o : Int) (s : StV) : RankV := ⟨s.started, (headM s).1, (headM s).2, o⟩
def beatsM (a b : RankV) : Bool :=
  if a.started ≠ b.started then decide (b.started < a.started)
  else if a.since ≠ b.since then decide (b.since < a.since)
  else if a.n ≠ b.n then decide (b.n < a.n)
  else decide (a.osd < b.osd)
/-- The best of the first n, and its rank. -/
def bestN (os : List Int) (l : List StV) : Nat → Int × RankV
  | 0 => (-1, ⟨0, 0, 0, 0⟩)
  | n + 1 => if (bestN os l n).1 < 0 ∨ beatsM (rankOf (os.getD n 0) (l.getD n st0)) (bestN os l n).2 = true then ((n : Int), rankOf (os.getD n 0) (l.getD n st0)) else bestN os l n
def allIs (l : List StV) : Bool := l.all isSt
def bestM9 (os : List Int) (l : List StV) : Int := if os.length = l.length ∧ allIs l = true then (bestN os l l.length).1 else -1
def startedTo (l : List StV) : Nat → Nat
  | 0 => 0
  | n + 1 => max (startedTo l n) (l.getD n st0).started
def startedM (l : List StV) : Nat := startedTo l l.length

theorem hrd_nil (x : Int) : hrd [] x = false := rfl
theorem hrd_snoc (hs : List Int) (y x : Int) : hrd (hs ++ [y]) x = (hrd hs x || decide (x = y)) := by
  unfold hrd
  simp
theorem bestN_yes {os : List Int} {l : List StV} {n : Nat} (h : (bestN os l n).1 < 0 ∨ beatsM (rankOf (os.getD n 0) (l.getD n st0)) (bestN os l n).2 = true) : bestN os l (n + 1) = ((n : Int), rankOf (os.getD n 0) (l.getD n st0)) := if_pos h
theorem bestN_no {os : List Int} {l : List StV} {n : Nat} (h : ¬ ((bestN os l n).1 < 0 ∨ beatsM (rankOf (os.getD n 0) (l.getD n st0)) (bestN os l n).2 = true)) : bestN os l (n + 1) = bestN os l n := if_neg h
/-- The best's place, and that the rank is its own. -/
theorem bestN_in (os : List Int) (l : List StV) (n : Nat) : (n = 0 ∧ (bestN os l n).1 = -1) ∨ ∃ k : Nat, k < n ∧ bestN os l n = ((k : Int), rankOf (os.getD k 0) (l.getD k st0)) := by
  induction n with
  | zero => exact .inl ⟨rfl, rfl⟩
  | succ n ih =>
    right
    by_cases h : (bestN os l n).1 < 0 ∨ beatsM (rankOf (os.getD n 0) (l.getD n st0)) (bestN os l n).2 = true
    · exact ⟨n, by omega, bestN_yes h⟩
    · rw [bestN_no h]
      rcases ih with ⟨_, h1⟩ | ⟨k, hk, he⟩
      · exact absurd (.inl (by rw [h1]; decide)) h
      · exact ⟨k, by omega, he⟩

theorem nowI_snoc (V : List (Nat × List Int)) (v : Nat × List Int) : nowI (V ++ [v]) = v := by unfold nowI; simp
theorem over_snoc (V : List (Nat × List Int)) (v : Nat × List Int) : (V ++ [v]).dropLast = V := by simp
theorem nowI_nil : nowI [] = (0, []) := rfl

theorem actM_mem (m : MapV) (g : Nat) : (∀ x ∈ actM m g, 0 ≤ x ∧ x < 5) ∧ (actM m g).length ≤ 3 := by
  obtain ⟨h1, h2⟩ := pickM_mem m g
  refine ⟨fun x hx => h1 x (List.mem_filter.1 hx).1, ?_⟩
  have := List.length_filter_le (upI m) (pickM m g)
  unfold actM
  omega
theorem ivTo_ok (xs : List IncV) (g n : Nat) : ∀ v ∈ ivTo xs g n, (1 ≤ v.1 ∧ v.1 ≤ n + 1) ∧ v.2.length ≤ 3 ∧ ∀ x ∈ v.2, 0 ≤ x ∧ x < 5 := by
  induction n with
  | zero =>
    intro v hv
    obtain rfl : v = (1, actH xs 0 g) := by simpa [ivTo] using hv
    exact ⟨⟨Nat.le_refl _, Nat.le_refl _⟩, (actM_mem _ g).2, (actM_mem _ g).1⟩
  | succ n ih =>
    intro v hv
    by_cases he : actH xs n g = actH xs (n + 1) g
    · rw [ivTo_same he] at hv
      obtain ⟨h1, h2⟩ := ih v hv
      exact ⟨⟨h1.1, by omega⟩, h2⟩
    · rw [ivTo_new he] at hv
      rcases List.mem_append.1 hv with hv | hv
      · obtain ⟨h1, h2⟩ := ih v hv
        exact ⟨⟨h1.1, by omega⟩, h2⟩
      · obtain rfl := List.mem_singleton.1 hv
        exact ⟨⟨by show 1 ≤ n + 2; omega, by show n + 2 ≤ n + 1 + 1; omega⟩, (actM_mem _ g).2, (actM_mem _ g).1⟩
theorem ivals_ok (xs : List IncV) (g : Nat) : ∀ v ∈ ivals xs g, (1 ≤ v.1 ∧ v.1 ≤ xs.length + 1) ∧ v.2.length ≤ 3 ∧ ∀ x ∈ v.2, 0 ≤ x ∧ x < 5 := by
  intro v hv
  unfold ivals at hv
  split at hv
  · exact ivTo_ok xs g _ v hv
  · cases hv
theorem ivals_len (xs : List IncV) (g : Nat) : (ivals xs g).length ≤ xs.length + 1 := by
  unfold ivals
  split
  · exact ivTo_len xs g _
  · simp
theorem ivals_now (xs : List IncV) (g : Nat) : (nowI (ivals xs g)).2 = nowH xs g := by
  unfold ivals nowH
  split
  · obtain ⟨l, s, h, _⟩ := ivTo_last xs g xs.length
    rw [h, nowI_snoc]
  · rfl
end Go.Proofs.Ytlbokkbngbpmiaa
