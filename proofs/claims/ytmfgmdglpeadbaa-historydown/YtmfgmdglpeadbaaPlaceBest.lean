/- The best of a draw, told by what it is: the greatest of those that weigh anything, the first of several. -/
import Derived.Test.YtmfgmdglpeadbaaPlaceMath
import Derived.Test.YtmfgmdglpeadbaaFolds
import Derived.Test.YtmfgmdglpeadbaaBest
namespace Go.Proofs.Ytmfgmdglpeadbaa
set_option linter.unusedSimpArgs false
set_option linter.unusedVariables false

/-- The weight of a daemon. -/
def wtI (m : MapV) (k : Int) : Int := if h : k.toNat < 5 then (m.osd ⟨k.toNat, h⟩).wt else 0

theorem wtI_at (m : MapV) (n : Nat) (h : n < 5) : wtI m (n : Int) = (m.osd ⟨n, h⟩).wt := by
  unfold wtI
  have : (n : Int).toNat = n := rfl
  rw [dif_pos (by rw [this]; exact h)]
  rfl

/-- b is the best of the first n daemons: -1 where none weighs anything. -/
def TopTo (m : MapV) (g : Nat) (q : Int) (n : Nat) (b : Int) : Prop :=
  ((∀ i : Nat, i < n → wtI m i < 1) ∧ b = -1) ∨
  ∃ i : Nat, i < n ∧ b = i ∧ 1 ≤ wtI m i ∧ ∀ j : Nat, j < n → 1 ≤ wtI m j → drawI g j q (wtI m j) ≤ drawI g i q (wtI m i) ∧ (j < i → drawI g j q (wtI m j) < drawI g i q (wtI m i))

theorem bestTo_top (m : MapV) (g : Nat) (q : Int) (n : Nat) (hn : n ≤ 5) : TopTo m g q n (bestTo m g q n).1 ∧ ∀ i : Nat, (bestTo m g q n).1 = i → (bestTo m g q n).2 = drawI g i q (wtI m i) := by
  induction n with
  | zero => exact ⟨.inl ⟨fun i hi => absurd hi (by omega), rfl⟩, fun i hi => by simp [bestTo] at hi⟩
  | succ n ih =>
    obtain ⟨ht, hs⟩ := ih (by omega)
    have h : n < 5 := by omega
    have hwt := wtI_at m n h
    by_cases hw : (m.osd ⟨n, h⟩).wt < 1
    · rw [bestTo_light h hw]
      refine ⟨?_, hs⟩
      rcases ht with ⟨h0, hb⟩ | ⟨i, hi, hb, h1, hj⟩
      · refine .inl ⟨fun i hi => ?_, hb⟩
        by_cases e : i = n
        · subst e; rw [hwt]; exact hw
        · exact h0 i (by omega)
      · refine .inr ⟨i, by omega, hb, h1, fun j hjn hj1 => ?_⟩
        by_cases e : j = n
        · subst e; rw [hwt] at hj1; omega
        · exact hj j (by omega) hj1
    · by_cases hb : (bestTo m g q n).1 < 0 ∨ (bestTo m g q n).2 < drawI g n q (m.osd ⟨n, h⟩).wt
      · rw [bestTo_new h hw hb]
        refine ⟨.inr ⟨n, by omega, rfl, by rw [hwt]; omega, fun j hjn hj1 => ?_⟩, fun i hi => ?_⟩
        · by_cases e : j = n
          · subst e; exact ⟨Int.le_refl _, fun h => absurd h (by omega)⟩
          · have hjn' : j < n := by omega
            have : drawI g j q (wtI m j) < drawI g n q (wtI m n) := by
              rcases ht with ⟨h0, _⟩ | ⟨i, hi, hbi, h1, hall⟩
              · have := h0 j hjn'; omega
              · have h2 := (hall j hjn' hj1).1
                have h3 := hs i hbi
                rw [hwt]
                rcases hb with hb | hb
                · omega
                · rw [h3] at hb; omega
            exact ⟨by omega, fun _ => this⟩
        · have : i = n := by simp at hi; omega
          subst this
          rw [hwt]
      · rw [bestTo_old h hw hb]
        refine ⟨?_, hs⟩
        rcases ht with ⟨h0, hb1⟩ | ⟨i, hi, hbi, h1, hall⟩
        · omega
        · refine .inr ⟨i, by omega, hbi, h1, fun j hjn hj1 => ?_⟩
          by_cases e : j = n
          · subst e
            have h3 := hs i hbi
            rw [h3] at hb
            rw [hwt]
            exact ⟨by omega, fun h => absurd h (by omega)⟩
          · exact hall j (by omega) hj1

theorem bestM_top (m : MapV) (g : Nat) (q : Int) : TopTo m g q 5 (bestM m g q) := (bestTo_top m g q 5 (Nat.le_refl _)).1

theorem top_one {m : MapV} {g : Nat} {q : Int} {n : Nat} {b c : Int} (hb : TopTo m g q n b) (hc : TopTo m g q n c) : b = c := by
  rcases hb with ⟨h0, hb⟩ | ⟨i, hi, hb, h1, hall⟩
  · rcases hc with ⟨_, hc⟩ | ⟨j, hj, _, hj1, _⟩
    · rw [hb, hc]
    · have := h0 j hj; omega
  · rcases hc with ⟨h0, _⟩ | ⟨j, hj, hc, hj1, hall2⟩
    · have := h0 i hi; omega
    · have a := hall j hj hj1
      have b' := hall2 i hi h1
      have : i = j := by
        rcases Nat.lt_trichotomy i j with h | h | h
        · have := b'.2 h; omega
        · exact h
        · have := a.2 h; omega
      subst this
      rw [hb, hc]

theorem mem_inL {m : MapV} {x : Int} : x ∈ inL m ↔ ∃ i : Nat, i < 5 ∧ x = i ∧ 1 ≤ wtI m i := by
  unfold inL pickL
  rw [List.mem_map]
  constructor
  · rintro ⟨i, hi, rfl⟩
    rw [List.mem_filter] at hi
    refine ⟨i.val, i.isLt, rfl, ?_⟩
    rw [wtI_at m i.val i.isLt]
    have h2 : 0 < (m.osd ⟨i.val, i.isLt⟩).wt := of_decide_eq_true hi.2
    omega
  · rintro ⟨i, hi, rfl, hw⟩
    refine ⟨⟨i, hi⟩, List.mem_filter.2 ⟨List.mem_finRange _, decide_eq_true ?_⟩, rfl⟩
    rw [wtI_at m i hi] at hw
    omega

theorem inL_rises (m : MapV) : (inL m).Pairwise (· < ·) := by
  unfold inL pickL
  rw [List.pairwise_map]
  refine List.Pairwise.filter _ ?_
  have : (List.finRange 5).Pairwise fun a b : Fin 5 => (a.val : Int) < b.val := by decide
  exact this

theorem inL_len (m : MapV) : (inL m).length ≤ 5 := by
  unfold inL pickL
  rw [List.length_map]
  exact Nat.le_trans (List.length_filter_le _ _) (by simp)

/-- What those that are in draw. -/
def drawsL (m : MapV) (g : Nat) (q : Int) : List Int := (inL m).map fun k => drawI g k q (wtI m k)

theorem best_index {m : MapV} {g : Nat} {q k : Int} (h : IsBest (drawsL m g q) (inL m).length k) : (k = -1 ∧ bestM m g q = -1) ∨ ∃ (n : Nat) (hn : n < (inL m).length), k = n ∧ (inL m)[n] = bestM m g q := by
  rcases h with ⟨h0, hk⟩ | ⟨n, hk, hn, hall⟩
  · left
    refine ⟨hk, top_one (bestM_top m g q) (.inl ⟨fun i hi => ?_, rfl⟩)⟩
    have he : inL m = [] := List.eq_nil_of_length_eq_zero h0
    rcases Int.lt_or_le (wtI m i) 1 with h | h
    · exact h
    · have : (i : Int) ∈ inL m := mem_inL.2 ⟨i, hi, rfl, h⟩
      rw [he] at this
      cases this
  · right
    refine ⟨n, hn, hk, ?_⟩
    obtain ⟨i, hi, hxi, hwi⟩ := mem_inL.1 (List.getElem_mem hn)
    rw [hxi]
    refine top_one (.inr ⟨i, hi, rfl, hwi, fun j hj hwj => ?_⟩) (bestM_top m g q)
    obtain ⟨p, hp, hpj⟩ := List.getElem_of_mem (mem_inL.2 ⟨j, hj, rfl, hwj⟩ : (j : Int) ∈ inL m)
    have e1 : (drawsL m g q).getD p 0 = drawI g j q (wtI m j) := by
      unfold drawsL
      simp [List.getD, hp, hpj]
    have e2 : (drawsL m g q).getD n 0 = drawI g i q (wtI m i) := by
      unfold drawsL
      simp [List.getD, hn, hxi]
    have := hall p hp
    rw [e1, e2] at this
    refine ⟨this.1, fun hji => this.2 ?_⟩
    rcases Nat.lt_or_ge p n with h | h
    · exact h
    · rcases Nat.lt_or_eq_of_le h with h | h
      · have := List.pairwise_iff_getElem.1 (inL_rises m) n p hn hp h
        rw [hpj, hxi] at this
        omega
      · subst h
        rw [hpj] at hxi
        omega

theorem apartB_host (m : MapV) (b k : Int) : apartB m b k = (hostI m k != hostI m b) := by
  unfold apartB
  by_cases h : k = b
  · subst h; simp
  · have : (k != b) = true := by simp [h]
    rw [this, Bool.true_and]

/-- Who is found by so many tries that are left: -1 of none. -/
def tryI (m : MapV) (g r : Nat) (out : List Int) : Nat → Int
  | 0 => -1
  | k + 1 => if 0 ≤ bestM m g (r + (20 - (k + 1) : Nat) * 3) ∧ freeB m out (bestM m g (r + (20 - (k + 1) : Nat) * 3)) = true then bestM m g (r + (20 - (k + 1) : Nat) * 3) else tryI m g r out k

theorem tryI_yes {m : MapV} {g r : Nat} {out : List Int} {t : Nat} (ht : t < 20) (h0 : 0 ≤ bestM m g (r + t * 3)) (hf : freeB m out (bestM m g (r + t * 3)) = true) : tryI m g r out (20 - t) = bestM m g (r + t * 3) := by
  obtain ⟨k, rfl, hk⟩ : ∃ k, t = 20 - (k + 1) ∧ k + 1 ≤ 20 := ⟨19 - t, by omega, by omega⟩
  rw [show 20 - (20 - (k + 1)) = k + 1 by omega]
  exact if_pos ⟨h0, hf⟩

theorem tryI_no {m : MapV} {g r : Nat} {out : List Int} {t : Nat} (ht : t < 20) (h : ¬ (0 ≤ bestM m g (r + t * 3) ∧ freeB m out (bestM m g (r + t * 3)) = true)) : tryI m g r out (20 - t) = tryI m g r out (20 - (t + 1)) := by
  obtain ⟨k, rfl, hk⟩ : ∃ k, t = 20 - (k + 1) ∧ k + 1 ≤ 20 := ⟨19 - t, by omega, by omega⟩
  rw [show 20 - (20 - (k + 1)) = k + 1 by omega, show 20 - (20 - (k + 1) + 1) = k by omega]
  exact if_neg h

theorem tryN_tryI (m : MapV) (g r : Nat) (out : List Int) (k : Nat) : tryN m g r out k = if 0 ≤ tryI m g r out k then out ++ [tryI m g r out k] else out := by
  induction k with
  | zero => rfl
  | succ k ih =>
    unfold tryN tryI
    split
    · rename_i h
      rw [if_pos h.1]
    · exact ih

theorem tryI_bd (m : MapV) (g r : Nat) (out : List Int) (k : Nat) : -1 ≤ tryI m g r out k ∧ tryI m g r out k < 5 := by
  induction k with
  | zero => exact ⟨by show (-1 : Int) ≤ -1; omega, by show (-1 : Int) < 5; omega⟩
  | succ k ih =>
    unfold tryI
    split
    · rename_i h
      exact ⟨by have := h.1; omega, (bestTo_bd _ _ _ _).2⟩
    · exact ih

theorem pickTo_yes {m : MapV} {g r : Nat} (h : 0 ≤ tryI m g r (pickTo m g r) 20) : pickTo m g (r + 1) = pickTo m g r ++ [tryI m g r (pickTo m g r) 20] := by
  show tryN m g r (pickTo m g r) 20 = _
  rw [tryN_tryI, if_pos h]

theorem pickTo_no {m : MapV} {g r : Nat} (h : ¬ 0 ≤ tryI m g r (pickTo m g r) 20) : pickTo m g (r + 1) = pickTo m g r := by
  show tryN m g r (pickTo m g r) 20 = _
  rw [tryN_tryI, if_neg h]
end Go.Proofs.Ytmfgmdglpeadbaa
