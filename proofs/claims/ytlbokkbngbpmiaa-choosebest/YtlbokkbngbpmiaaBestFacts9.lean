/- The best of rows of ranks: the order of the rows plays no part. -/
import Derived.Test.YtlbokkbngbpmiaaChooseBest
namespace Go.Proofs.Ytlbokkbngbpmiaa
set_option linter.unusedSimpArgs false
set_option linter.unusedVariables false

theorem beats_is (a b : RankV) : beatsM a b = true ↔ b.started < a.started ∨ (a.started = b.started ∧ (b.since < a.since ∨ (a.since = b.since ∧ (b.n < a.n ∨ (a.n = b.n ∧ a.osd < b.osd))))) := by
  unfold beatsM
  by_cases h1 : a.started = b.started
  · rw [if_neg (by simpa using h1)]
    by_cases h2 : a.since = b.since
    · rw [if_neg (by simpa using h2)]
      by_cases h3 : a.n = b.n
      · rw [if_neg (by simpa using h3), decide_eq_true_iff]; omega
      · rw [if_pos h3, decide_eq_true_iff]; omega
    · rw [if_pos h2, decide_eq_true_iff]; omega
  · rw [if_pos h1, decide_eq_true_iff]; omega
/-- The rank of a row's place. -/
def rankAt (os : List Int) (l : List StV) (k : Nat) : RankV := rankOf (os.getD k 0) (l.getD k st0)
theorem bestN_top (os : List Int) (l : List StV) (n : Nat) (hn : 0 < n) : ∃ k : Nat, k < n ∧ bestN os l n = ((k : Int), rankAt os l k) ∧ ∀ j, j < n → ¬ beatsM (rankAt os l j) (rankAt os l k) = true := by
  induction n with
  | zero => omega
  | succ n ih =>
    by_cases h0 : n = 0
    · subst h0
      refine ⟨0, by omega, bestN_yes (.inl (by show (-1 : Int) < 0; decide)), fun j hj hb => ?_⟩
      obtain rfl : j = 0 := by omega
      rw [beats_is] at hb
      omega
    · obtain ⟨k, hk, he, hall⟩ := ih (by omega)
      by_cases hb : beatsM (rankAt os l n) (rankAt os l k) = true
      · refine ⟨n, by omega, bestN_yes (.inr (by rw [he]; exact hb)), fun j hj hbj => ?_⟩
        by_cases hjn : j = n
        · subst hjn
          rw [beats_is] at hbj
          omega
        · have h1 := hall j (by omega)
          rw [beats_is] at hb hbj h1
          omega
      · refine ⟨k, by omega, ?_, fun j hj => ?_⟩
        · rw [bestN_no (fun hh => ?_)]
          · exact he
          · rcases hh with hh | hh
            · rw [he] at hh
              have hh : (k : Int) < 0 := hh
              omega
            · rw [he] at hh
              exact hb hh
        · by_cases hjn : j = n
          · subst hjn; exact hb
          · exact hall j (by omega)
/-- The numbers below n; those from t on, round. -/
def upTo (n : Nat) : List Int := (List.range n).map fun (i : Nat) => (i : Int)
def turnL (m t n : Nat) : List Int := (List.range n).map fun (i : Nat) => (((i + t) % m : Nat) : Int)
theorem upTo_succ (n : Nat) : upTo (n + 1) = upTo n ++ [(n : Int)] := by unfold upTo; rw [List.range_succ, List.map_append]; rfl
theorem turnL_succ (m t n : Nat) : turnL m t (n + 1) = turnL m t n ++ [(((n + t) % m : Nat) : Int)] := by unfold turnL; rw [List.range_succ, List.map_append]; rfl
theorem upTo_len (n : Nat) : (upTo n).length = n := by unfold upTo; simp
theorem turnL_len (m t n : Nat) : (turnL m t n).length = n := by unfold turnL; simp
theorem upTo_get {n k : Nat} (h : k < n) : (upTo n).getD k 0 = (k : Int) := by unfold upTo; simp [List.getD, h]
theorem turnL_get {m t n k : Nat} (h : k < n) : (turnL m t n).getD k 0 = (((k + t) % m : Nat) : Int) := by unfold turnL; simp [List.getD, h]
/-- The states from t on, round. -/
def turnS (xs : List StE) (t n : Nat) : List StE := (List.range n).filterMap fun i => xs[(i + t) % xs.length]?
theorem turnS_succ {xs : List StE} {t n : Nat} (h : (n + t) % xs.length < xs.length) : turnS xs t (n + 1) = turnS xs t n ++ [xs[(n + t) % xs.length]] := by
  unfold turnS
  rw [List.range_succ, List.filterMap_append]
  congr 1
  simp [List.filterMap, List.getElem?_eq_getElem h]
theorem turnS_len {xs : List StE} (t : Nat) (h : 0 < xs.length) (n : Nat) : (turnS xs t n).length = n := by
  induction n with
  | zero => rfl
  | succ n ih => rw [turnS_succ (Nat.mod_lt _ h), List.length_append, ih]; rfl
theorem turnS_get {xs : List StE} (t : Nat) (h : 0 < xs.length) {k n : Nat} (hk : k < n) : (stsOf (turnS xs t n)).getD k st0 = (stsOf xs).getD ((k + t) % xs.length) st0 := by
  induction n with
  | zero => omega
  | succ n ih =>
    have hm := Nat.mod_lt (n + t) h
    rw [turnS_succ hm]
    unfold stsOf
    rw [List.map_append]
    by_cases e : k < n
    · have := ih e
      unfold stsOf at this
      rw [← this]
      have hl : k < ((turnS xs t n).map fun x => x.st).length := by rw [List.length_map, turnS_len t h]; exact e
      simp only [List.getD]
      rw [List.getElem?_append_left hl]
    · obtain rfl : k = n := by omega
      have hl : ((turnS xs t k).map fun x => x.st).length = k := by rw [List.length_map, turnS_len t h]
      simp only [List.getD]
      rw [List.getElem?_append_right (by omega), hl, Nat.sub_self]
      simp [hm]
theorem turnS_mem {xs : List StE} {t n : Nat} {x : StE} (h : x ∈ turnS xs t n) : x ∈ xs := by
  unfold turnS at h
  obtain ⟨i, _, hi⟩ := List.mem_filterMap.1 h
  exact List.mem_of_getElem? hi
/-- What the law asks of the best of two orders. -/
theorem best_two {xs : List StE} (t : Nat) (h : 0 < xs.length) (hall : allIs (stsOf xs) = true) (hall' : allIs (stsOf (turnS xs t xs.length)) = true) :
    ∃ b c : Nat, b < xs.length ∧ c < xs.length ∧ bestM9 (upTo xs.length) (stsOf xs) = (b : Int) ∧ bestM9 (turnL xs.length t xs.length) (stsOf (turnS xs t xs.length)) = (c : Int) ∧ (turnL xs.length t xs.length).getD c 0 = (b : Int) ∧
      ∀ j, j < xs.length → ¬ beatsM (rankAt (upTo xs.length) (stsOf xs) j) (rankAt (upTo xs.length) (stsOf xs) b) = true := by
  obtain ⟨b, hb, heb, htb⟩ := bestN_top (upTo xs.length) (stsOf xs) xs.length h
  obtain ⟨c, hc, hec, htc⟩ := bestN_top (turnL xs.length t xs.length) (stsOf (turnS xs t xs.length)) xs.length h
  have hr : ∀ i, i < xs.length → rankAt (turnL xs.length t xs.length) (stsOf (turnS xs t xs.length)) i = rankAt (upTo xs.length) (stsOf xs) ((i + t) % xs.length) := fun i hi => by
    unfold rankAt
    rw [turnL_get hi, turnS_get t h hi, upTo_get (Nat.mod_lt _ h)]
  have hcm := Nat.mod_lt (c + t) h
  obtain ⟨i, hi, hib⟩ : ∃ i, i < xs.length ∧ (i + t) % xs.length = b := by
    refine ⟨(b + (xs.length - t % xs.length)) % xs.length, Nat.mod_lt _ h, ?_⟩
    have h1 := Nat.mod_lt t h
    rw [Nat.mod_add_mod]
    have h2 : t = t % xs.length + xs.length * (t / xs.length) := (Nat.mod_add_div t xs.length).symm
    have h3 : b + (xs.length - t % xs.length) + t = b + xs.length * (t / xs.length + 1) := by
      rw [Nat.mul_add, Nat.mul_one]
      omega
    rw [h3, Nat.add_mul_mod_self_left, Nat.mod_eq_of_lt hb]
  have e1 := htb _ hcm
  have e2 := htc i hi
  rw [hr i hi, hr c hc, hib] at e2
  have hcb : (c + t) % xs.length = b := by
    have o1 : (rankAt (upTo xs.length) (stsOf xs) b).osd = (b : Int) := upTo_get hb
    have o2 : (rankAt (upTo xs.length) (stsOf xs) ((c + t) % xs.length)).osd = (((c + t) % xs.length : Nat) : Int) := upTo_get hcm
    rw [beats_is] at e1 e2
    omega
  refine ⟨b, c, hb, hc, ?_, ?_, ?_, htb⟩
  · unfold bestM9
    rw [if_pos ⟨by rw [upTo_len, stsOf_len], hall⟩, stsOf_len, heb]
  · unfold bestM9
    rw [if_pos ⟨by rw [turnL_len, stsOf_len, turnS_len t h], hall'⟩, stsOf_len, turnS_len t h, hec]
  · rw [turnL_get hc, hcb]
end Go.Proofs.Ytlbokkbngbpmiaa
