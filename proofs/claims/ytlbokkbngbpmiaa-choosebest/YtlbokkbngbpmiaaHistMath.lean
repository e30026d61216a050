/- Histories as mathematics: increments that were taken, the maps that they make, who acts, intervals. -/
import Derived.Test.YtlbokkbngbpmiaaPackMaps
import Derived.Test.YtlbokkbngbpmiaaPackPlace
namespace Go.Proofs.Ytlbokkbngbpmiaa
set_option linter.unusedSimpArgs false
set_option linter.unusedVariables false

/-- The map behind the first k increments. -/
def mapH (xs : List IncV) (k : Nat) : MapV := (xs.take k).foldl nextM firstM

theorem mapH_0 (xs : List IncV) : mapH xs 0 = firstM := rfl

theorem mapH_succ {xs : List IncV} {k : Nat} (h : k < xs.length) : mapH xs (k + 1) = nextM (mapH xs k) xs[k] := by
  unfold mapH
  rw [List.take_succ_eq_append_getElem h, List.foldl_append]
  rfl

theorem mapH_app (xs ys : List IncV) {k : Nat} (h : k ≤ xs.length) : mapH (xs ++ ys) k = mapH xs k := by
  unfold mapH
  rw [List.take_append_of_le_length h]

theorem mapH_snoc (xs : List IncV) (x : IncV) : mapH (xs ++ [x]) (xs.length + 1) = nextM (mapH xs xs.length) x := by
  rw [mapH_succ (by simp), mapH_app xs [x] (Nat.le_refl _)]
  simp

/-- Each increment could be taken. -/
def Good (xs : List IncV) : Prop := ∀ k (h : k < xs.length), okA (mapH xs k) xs[k] = true ∧ IncOk xs[k]

theorem Good.nil : Good [] := fun k h => absurd h (by simp)

theorem Good.snoc {xs : List IncV} {x : IncV} (h : Good xs) (hx : okA (mapH xs xs.length) x = true) (ho : IncOk x) : Good (xs ++ [x]) := by
  intro k hk
  rw [List.length_append, List.length_singleton] at hk
  rw [mapH_app xs [x] (by omega)]
  by_cases e : k < xs.length
  · rw [List.getElem_append_left e]
    exact h k e
  · have : k = xs.length := by omega
    subst this
    simp [hx, ho]

theorem epoch_next (m : MapV) (x : IncV) : (nextM m x).epoch = m.epoch + 1 := rfl

theorem epochH (xs : List IncV) (k : Nat) (h : k ≤ xs.length) : (mapH xs k).epoch = k + 1 := by
  induction k with
  | zero => rfl
  | succ k ih => rw [mapH_succ (by omega), epoch_next, ih (by omega)]

theorem isH {xs : List IncV} (hg : Good xs) (k : Nat) (h : k ≤ xs.length) : isM (mapH xs k) = true := by
  induction k with
  | zero => show isM firstM = true; decide
  | succ k ih =>
    rw [mapH_succ (by omega)]
    have := (okA_is _ _).1 (hg k (by omega)).1
    exact isM_next this.1 this.2.1 this.2.2

theorem okH {xs : List IncV} (hg : Good xs) (k : Nat) (h : k ≤ xs.length) : MapOk (mapH xs k) := by
  induction k with
  | zero => exact ⟨by show (1 : Nat) < 4294967296; decide, fun i => ⟨by show _ ≤ (8 : Int); decide, by show (8 : Int) ≤ _; decide⟩, fun i => by show i.val % 4 < 256; omega⟩
  | succ k ih =>
    rw [mapH_succ (by omega)]
    have := hg k (by omega)
    exact next_ok (ih (by omega)) this.2 ((okA_is _ _).1 this.1).2.2

theorem lenH {xs : List IncV} (hg : Good xs) : xs.length ≤ 59 := by
  rcases Nat.lt_or_ge 59 xs.length with h | h
  · have h1 := ((okA_is _ _).1 (hg 59 h).1).2.2
    rw [epochH xs 59 (by omega)] at h1
    omega
  · exact h

theorem foldFrom_good {xs : List IncV} (hg : Good xs) (k : Nat) (h : k ≤ xs.length) : foldFrom (mapH xs k) (xs.drop k) = (mapH xs xs.length, true) := by
  obtain ⟨d, hd⟩ : ∃ d, d = xs.length - k := ⟨_, rfl⟩
  induction d generalizing k with
  | zero =>
    have : k = xs.length := by omega
    subst this
    rw [List.drop_length]
    rfl
  | succ d ih =>
    have hk : k < xs.length := by omega
    rw [List.drop_eq_getElem_cons hk]
    show (if okA (mapH xs k) xs[k] then foldFrom (nextM (mapH xs k) xs[k]) (xs.drop (k + 1)) else (zeroM, false)) = _
    rw [if_pos (hg k hk).1, ← mapH_succ hk]
    exact ih (k + 1) (by omega) (by omega)

theorem foldM_good {xs : List IncV} (hg : Good xs) : foldM xs = (mapH xs xs.length, true) := foldFrom_good hg 0 (Nat.zero_le _)

theorem Good.take {xs : List IncV} (hg : Good xs) (k : Nat) : Good (xs.take k) := by
  intro j hj
  rw [List.length_take] at hj
  have hjx : j < xs.length := by omega
  have e : mapH (xs.take k) j = mapH xs j := by
    unfold mapH
    rw [List.take_take, Nat.min_eq_left (by omega)]
  rw [e, List.getElem_take]
  exact hg j hjx

/-- What Add answers, and what is there then. -/
def addH (xs : List IncV) (e : Nat) (x : IncV) : Int × List IncV :=
  if e ≤ xs.length + 1 then (51, xs) else if xs.length + 2 < e then (50, xs) else if okA (mapH xs xs.length) x = true then (0, xs ++ [x]) else (40, xs)

theorem addH_old {xs : List IncV} {e : Nat} {x : IncV} (h : e ≤ xs.length + 1) : addH xs e x = (51, xs) := if_pos h
theorem addH_gap {xs : List IncV} {e : Nat} {x : IncV} (h : xs.length + 2 < e) : addH xs e x = (50, xs) := by
  unfold addH
  rw [if_neg (by omega), if_pos h]
theorem addH_yes {xs : List IncV} {e : Nat} {x : IncV} (h : e = xs.length + 2) (hx : okA (mapH xs xs.length) x = true) : addH xs e x = (0, xs ++ [x]) := by
  unfold addH
  rw [if_neg (by omega), if_neg (by omega), if_pos hx]
theorem addH_no {xs : List IncV} {e : Nat} {x : IncV} (h : e = xs.length + 2) (hx : okA (mapH xs xs.length) x = false) : addH xs e x = (40, xs) := by
  unfold addH
  rw [if_neg (by omega), if_neg (by omega), if_neg (by rw [hx]; simp)]

theorem addH_good {xs : List IncV} {e : Nat} {x : IncV} (h : Good xs) (hx : IncOk x) : Good (addH xs e x).2 := by
  unfold addH
  split
  · exact h
  · split
    · exact h
    · split
      · rename_i hk; exact h.snoc hk hx
      · exact h

theorem addH_bd (xs : List IncV) (e : Nat) (x : IncV) : 0 ≤ (addH xs e x).1 ∧ (addH xs e x).1 ≤ 51 := by
  unfold addH
  split
  · exact ⟨by show (0 : Int) ≤ 51; decide, by show (51 : Int) ≤ 51; decide⟩
  · split
    · exact ⟨by show (0 : Int) ≤ 50; decide, by show (50 : Int) ≤ 51; decide⟩
    · split
      · exact ⟨by show (0 : Int) ≤ 0; decide, by show (0 : Int) ≤ 51; decide⟩
      · exact ⟨by show (0 : Int) ≤ 40; decide, by show (40 : Int) ≤ 51; decide⟩

/-- Who acts behind the first k increments. -/
def actH (xs : List IncV) (k g : Nat) : List Int := actM (mapH xs k) g

/-- The intervals of the first n + 1 epochs. -/
def ivTo (xs : List IncV) (g : Nat) : Nat → List (Nat × List Int)
  | 0 => [(1, actH xs 0 g)]
  | n + 1 => if actH xs n g = actH xs (n + 1) g then ivTo xs g n else ivTo xs g n ++ [(n + 2, actH xs (n + 1) g)]

def ivals (xs : List IncV) (g : Nat) : List (Nat × List Int) := if g < 4 then ivTo xs g xs.length else []

def sinceH (xs : List IncV) (g : Nat) : Nat := match (ivals xs g).getLast? with | none => 0 | some p => p.1

def nowH (xs : List IncV) (g : Nat) : List Int := if g < 4 then actH xs xs.length g else []

theorem ivTo_same {xs : List IncV} {g n : Nat} (h : actH xs n g = actH xs (n + 1) g) : ivTo xs g (n + 1) = ivTo xs g n := if_pos h
theorem ivTo_new {xs : List IncV} {g n : Nat} (h : ¬ actH xs n g = actH xs (n + 1) g) : ivTo xs g (n + 1) = ivTo xs g n ++ [(n + 2, actH xs (n + 1) g)] := if_neg h

theorem ivTo_last (xs : List IncV) (g n : Nat) : ∃ l s, ivTo xs g n = l ++ [(s, actH xs n g)] ∧ 1 ≤ s ∧ s ≤ n + 1 := by
  induction n with
  | zero => exact ⟨[], 1, rfl, by omega, by omega⟩
  | succ n ih =>
    obtain ⟨l, s, h, h1, h2⟩ := ih
    by_cases he : actH xs n g = actH xs (n + 1) g
    · rw [ivTo_same he]
      exact ⟨l, s, by rw [h, he], h1, by omega⟩
    · rw [ivTo_new he]
      exact ⟨_, n + 2, rfl, by omega, by omega⟩

theorem ivTo_len (xs : List IncV) (g n : Nat) : (ivTo xs g n).length ≤ n + 1 := by
  induction n with
  | zero => exact Nat.le_refl _
  | succ n ih =>
    by_cases he : actH xs n g = actH xs (n + 1) g
    · rw [ivTo_same he]; omega
    · rw [ivTo_new he, List.length_append]; simp; omega

theorem actH_none {xs : List IncV} {k g : Nat} (h : ¬ g < 4) : actH xs k g = [] := by
  unfold actH actM pickM
  rw [if_neg (fun hh => h hh.2)]
  rfl

theorem now_is (xs : List IncV) (g : Nat) : nowH xs g = actH xs xs.length g := by
  unfold nowH
  by_cases h : g < 4
  · rw [if_pos h]
  · rw [if_neg h, actH_none h]
end Go.Proofs.Ytlbokkbngbpmiaa
