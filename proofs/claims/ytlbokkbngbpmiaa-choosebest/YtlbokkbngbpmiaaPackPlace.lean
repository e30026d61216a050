/- Several texts in one, in build order: PlaceMath, PlaceFirst, PlaceBest, CandMem, Cands, CandStraws, CandList, CandNext, CandPicked, PlacePick, PlaceActing. -/
import Derived.Test.YtlbokkbngbpmiaaPackMaps
import Derived.Test.YtlbokkbngbpmiaaPackStraw
import Derived.KernelRfl
import Derived.Test.YtlbokkbngbpmiaaPackTools

/- PlaceMath: A group's daemons as mathematics: the best of a draw, who is free, tries, picks. -/
namespace Go.Proofs.Ytlbokkbngbpmiaa
set_option linter.unusedSimpArgs false
set_option linter.unusedVariables false

/-- The best of the first n daemons in a draw, and its straw. -/
def bestTo (m : MapV) (g : Nat) (q : Int) : Nat → Int × Int
  | 0 => (-1, 0)
  | n + 1 => if h : n < 5 then (if (m.osd ⟨n, h⟩).wt < 1 then bestTo m g q n else if (bestTo m g q n).1 < 0 ∨ (bestTo m g q n).2 < drawI g n q (m.osd ⟨n, h⟩).wt then ((n : Int), drawI g n q (m.osd ⟨n, h⟩).wt) else bestTo m g q n) else bestTo m g q n

theorem bestTo_light {m : MapV} {g : Nat} {q : Int} {n : Nat} (h : n < 5) (hw : (m.osd ⟨n, h⟩).wt < 1) : bestTo m g q (n + 1) = bestTo m g q n := by
  show (if h : n < 5 then _ else _) = _
  rw [dif_pos h, if_pos hw]

theorem bestTo_new {m : MapV} {g : Nat} {q : Int} {n : Nat} (h : n < 5) (hw : ¬ (m.osd ⟨n, h⟩).wt < 1) (hb : (bestTo m g q n).1 < 0 ∨ (bestTo m g q n).2 < drawI g n q (m.osd ⟨n, h⟩).wt) : bestTo m g q (n + 1) = ((n : Int), drawI g n q (m.osd ⟨n, h⟩).wt) := by
  show (if h : n < 5 then _ else _) = _
  rw [dif_pos h, if_neg hw, if_pos hb]

theorem bestTo_old {m : MapV} {g : Nat} {q : Int} {n : Nat} (h : n < 5) (hw : ¬ (m.osd ⟨n, h⟩).wt < 1) (hb : ¬ ((bestTo m g q n).1 < 0 ∨ (bestTo m g q n).2 < drawI g n q (m.osd ⟨n, h⟩).wt)) : bestTo m g q (n + 1) = bestTo m g q n := by
  show (if h : n < 5 then _ else _) = _
  rw [dif_pos h, if_neg hw, if_neg hb]

theorem bestTo_bd (m : MapV) (g : Nat) (q : Int) (n : Nat) : -1 ≤ (bestTo m g q n).1 ∧ (bestTo m g q n).1 < 5 := by
  induction n with
  | zero => exact ⟨by show (-1 : Int) ≤ -1; omega, by show (-1 : Int) < 5; omega⟩
  | succ n ih =>
    by_cases h : n < 5
    · by_cases hw : (m.osd ⟨n, h⟩).wt < 1
      · rw [bestTo_light h hw]; exact ih
      · by_cases hb : (bestTo m g q n).1 < 0 ∨ (bestTo m g q n).2 < drawI g n q (m.osd ⟨n, h⟩).wt
        · rw [bestTo_new h hw hb]; exact ⟨by show (-1 : Int) ≤ n; omega, by show (n : Int) < 5; omega⟩
        · rw [bestTo_old h hw hb]; exact ih
    · show -1 ≤ (if h : n < 5 then _ else bestTo m g q n : Int × Int).1 ∧ (if h : n < 5 then _ else bestTo m g q n : Int × Int).1 < 5
      rw [dif_neg h]
      exact ih

def bestM (m : MapV) (g : Nat) (q : Int) : Int := (bestTo m g q 5).1

/-- The host of a daemon. -/
def hostI (m : MapV) (k : Int) : Nat := if h : k.toNat < 5 then (m.osd ⟨k.toNat, h⟩).host else 0

theorem hostI_at (m : MapV) (n : Nat) (h : n < 5) : hostI m (n : Int) = (m.osd ⟨n, h⟩).host := by
  unfold hostI
  have : (n : Int).toNat = n := rfl
  rw [dif_pos (by rw [this]; exact h)]
  rfl

/-- Whether a daemon and a picked one may be in one group. -/
def apartB (m : MapV) (b k : Int) : Bool := (k != b) && (hostI m k != hostI m b)

def freeB (m : MapV) (out : List Int) (b : Int) : Bool := out.all (apartB m b)

/-- What comes of so many tries that are left. -/
def tryN (m : MapV) (g r : Nat) (out : List Int) : Nat → List Int
  | 0 => out
  | k + 1 => if 0 ≤ bestM m g (r + (20 - (k + 1) : Nat) * 3) ∧ freeB m out (bestM m g (r + (20 - (k + 1) : Nat) * 3)) = true then out ++ [bestM m g (r + (20 - (k + 1) : Nat) * 3)] else tryN m g r out k

/-- The picks of the first r places. -/
def pickTo (m : MapV) (g : Nat) : Nat → List Int
  | 0 => []
  | r + 1 => tryN m g r (pickTo m g r) 20

def pickM (m : MapV) (g : Nat) : List Int := if isM m = true ∧ g < 4 then pickTo m g 3 else []

theorem tryN_yes {m : MapV} {g r : Nat} {out : List Int} {t : Nat} (ht : t < 20) (h0 : 0 ≤ bestM m g (r + t * 3)) (hf : freeB m out (bestM m g (r + t * 3)) = true) : tryN m g r out (20 - t) = out ++ [bestM m g (r + t * 3)] := by
  obtain ⟨k, rfl, hk⟩ : ∃ k, t = 20 - (k + 1) ∧ k + 1 ≤ 20 := ⟨19 - t, by omega, by omega⟩
  rw [show 20 - (20 - (k + 1)) = k + 1 by omega]
  exact if_pos ⟨h0, hf⟩

theorem tryN_no {m : MapV} {g r : Nat} {out : List Int} {t : Nat} (ht : t < 20) (h : ¬ (0 ≤ bestM m g (r + t * 3) ∧ freeB m out (bestM m g (r + t * 3)) = true)) : tryN m g r out (20 - t) = tryN m g r out (20 - (t + 1)) := by
  obtain ⟨k, rfl, hk⟩ : ∃ k, t = 20 - (k + 1) ∧ k + 1 ≤ 20 := ⟨19 - t, by omega, by omega⟩
  rw [show 20 - (20 - (k + 1)) = k + 1 by omega, show 20 - (20 - (k + 1) + 1) = k by omega]
  exact if_neg h

theorem tryN_mem {m : MapV} {g r : Nat} {out : List Int} (hout : ∀ x ∈ out, 0 ≤ x ∧ x < 5) (k : Nat) : (∀ x ∈ tryN m g r out k, 0 ≤ x ∧ x < 5) ∧ (tryN m g r out k).length ≤ out.length + 1 := by
  induction k with
  | zero => exact ⟨hout, Nat.le_succ _⟩
  | succ k ih =>
    unfold tryN
    split
    · rename_i h
      refine ⟨fun x hx => ?_, by simp⟩
      rcases List.mem_append.1 hx with hx | hx
      · exact hout x hx
      · rw [List.mem_singleton.1 hx]
        exact ⟨h.1, (bestTo_bd _ _ _ _).2⟩
    · exact ih

theorem pickTo_mem (m : MapV) (g r : Nat) : (∀ x ∈ pickTo m g r, 0 ≤ x ∧ x < 5) ∧ (pickTo m g r).length ≤ r := by
  induction r with
  | zero => exact ⟨fun x hx => (List.not_mem_nil hx).elim, Nat.le_refl _⟩
  | succ r ih =>
    have := tryN_mem (m := m) (g := g) (r := r) ih.1 20
    exact ⟨this.1, by have h := this.2; have := ih.2; show (tryN m g r (pickTo m g r) 20).length ≤ _; omega⟩
/-- Whether a daemon is up. -/
def upI (m : MapV) (k : Int) : Bool := if h : k.toNat < 5 then (m.osd ⟨k.toNat, h⟩).up else false

theorem upI_at (m : MapV) (n : Nat) (h : n < 5) : upI m (n : Int) = (m.osd ⟨n, h⟩).up := by
  unfold upI
  have : (n : Int).toNat = n := rfl
  rw [dif_pos (by rw [this]; exact h)]
  rfl

def actM (m : MapV) (g : Nat) : List Int := (pickM m g).filter (upI m)

theorem pickM_mem (m : MapV) (g : Nat) : (∀ x ∈ pickM m g, 0 ≤ x ∧ x < 5) ∧ (pickM m g).length ≤ 3 := by
  unfold pickM
  split
  · exact pickTo_mem m g 3
  · exact ⟨fun x hx => (List.not_mem_nil hx).elim, by simp⟩

def primM (m : MapV) (g : Nat) : Int := match actM m g with | [] => -1 | x :: _ => x

/-- Of how many of the first groups the picks are unlike. -/
def movedTo (m n : MapV) : Nat → Nat
  | 0 => 0
  | g + 1 => movedTo m n g + (if pickM m g = pickM n g then 0 else 1)
end Go.Proofs.Ytlbokkbngbpmiaa

/- PlaceFirst: The picks of the first map, reckoned. -/
namespace Go.Proofs.Ytlbokkbngbpmiaa
set_option linter.unusedSimpArgs false
set_option linter.unusedVariables false

theorem first_0 : (pickM firstM 0).length = 3 := by kernel_rfl
theorem first_1 : (pickM firstM 1).length = 3 := by kernel_rfl
theorem first_2 : (pickM firstM 2).length = 3 := by kernel_rfl
theorem first_3 : (pickM firstM 3).length = 3 := by kernel_rfl

theorem first_len {g : Nat} (h : g < 4) : (pickM firstM g).length = 3 := by
  match g, h with
  | 0, _ => exact first_0
  | 1, _ => exact first_1
  | 2, _ => exact first_2
  | 3, _ => exact first_3

theorem first_none : pickM firstM 4 = [] := by unfold pickM; rw [if_neg (by omega)]

theorem zero_none (g : Nat) : pickM zeroM g = [] := by
  have h : isM zeroM = false := by decide
  unfold pickM
  rw [h, if_neg (by simp)]

theorem all_up (l : List Int) (h : ∀ x ∈ l, 0 ≤ x ∧ x < 5) : l.filter (upI firstM) = l := by
  rw [List.filter_eq_self]
  intro x hx
  obtain ⟨n, hn⟩ := Int.eq_ofNat_of_zero_le (h x hx).1
  have h5 := (h x hx).2
  subst hn
  rw [upI_at firstM n (by omega)]
  rfl

theorem first_act (g : Nat) : actM firstM g = pickM firstM g := all_up _ (pickM_mem firstM g).1

theorem moved_same (m : MapV) (k : Nat) : movedTo m m k = 0 := by
  induction k with
  | zero => rfl
  | succ k ih =>
    show movedTo m m k + (if pickM m k = pickM m k then 0 else 1) = 0
    rw [ih, if_pos rfl]
end Go.Proofs.Ytlbokkbngbpmiaa

/- PlaceBest: The best of a draw, told by what it is: the greatest of those that weigh anything, the first of several. -/
namespace Go.Proofs.Ytlbokkbngbpmiaa
set_option linter.unusedSimpArgs false
set_option linter.unusedVariables false

/-- The weight of a daemon. -/
def wtI (m : MapV) (k : Int) : Int := if h : k.toNat < 5 then (m.osd ⟨k.toNat, h⟩).wt else 0

theorem wtI_at (m : MapV) (n : Nat) (h : n < 5) : wtI m (n : Int) = (m.osd ⟨n, h⟩).wt := by
  unfold wtI
  have : (n : Int).toNat = n := rfl
  rw [dif_pos (by rw [this]; exact h)]
  rfl

/-- b is the best of the first n daemons: -1 where none weighs anything. -/
def TopTo (m : MapV) (g : Nat) (q : Int) (n : Nat) (b : Int) : Prop :=
  ((∀ i : Nat, i < n → wtI m i < 1) ∧ b = -1) ∨
  ∃ i : Nat, i < n ∧ b = i ∧ 1 ≤ wtI m i ∧ ∀ j : Nat, j < n → 1 ≤ wtI m j → drawI g j q (wtI m j) ≤ drawI g i q (wtI m i) ∧ (j < i → drawI g j q (wtI m j) < drawI g i q (wtI m i))

theorem bestTo_top (m : MapV) (g : Nat) (q : Int) (n : Nat) (hn : n ≤ 5) : TopTo m g q n (bestTo m g q n).1 ∧ ∀ i : Nat, (bestTo m g q n).1 = i → (bestTo m g q n).2 = drawI g i q (wtI m i) := by
  induction n with
  | zero => exact ⟨.inl ⟨fun i hi => absurd hi (by omega), rfl⟩, fun i hi => by simp [bestTo] at hi⟩
  | succ n ih =>
    obtain ⟨ht, hs⟩ := ih (by omega)
    have h : n < 5 := by omega
    have hwt := wtI_at m n h
    by_cases hw : (m.osd ⟨n, h⟩).wt < 1
    · rw [bestTo_light h hw]
      refine ⟨?_, hs⟩
      rcases ht with ⟨h0, hb⟩ | ⟨i, hi, hb, h1, hj⟩
      · refine .inl ⟨fun i hi => ?_, hb⟩
        by_cases e : i = n
        · subst e; rw [hwt]; exact hw
        · exact h0 i (by omega)
      · refine .inr ⟨i, by omega, hb, h1, fun j hjn hj1 => ?_⟩
        by_cases e : j = n
        · subst e; rw [hwt] at hj1; omega
        · exact hj j (by omega) hj1
    · by_cases hb : (bestTo m g q n).1 < 0 ∨ (bestTo m g q n).2 < drawI g n q (m.osd ⟨n, h⟩).wt
      · rw [bestTo_new h hw hb]
        refine ⟨.inr ⟨n, by omega, rfl, by rw [hwt]; omega, fun j hjn hj1 => ?_⟩, fun i hi => ?_⟩
        · by_cases e : j = n
          · subst e; exact ⟨Int.le_refl _, fun h => absurd h (by omega)⟩
          · have hjn' : j < n := by omega
            have : drawI g j q (wtI m j) < drawI g n q (wtI m n) := by
              rcases ht with ⟨h0, _⟩ | ⟨i, hi, hbi, h1, hall⟩
              · have := h0 j hjn'; omega
              · have h2 := (hall j hjn' hj1).1
                have h3 := hs i hbi
                rw [hwt]
                rcases hb with hb | hb
                · omega
                · rw [h3] at hb; omega
            exact ⟨by omega, fun _ => this⟩
        · have : i = n := by simp at hi; omega
          subst this
          rw [hwt]
      · rw [bestTo_old h hw hb]
        refine ⟨?_, hs⟩
        rcases ht with ⟨h0, hb1⟩ | ⟨i, hi, hbi, h1, hall⟩
        · omega
        · refine .inr ⟨i, by omega, hbi, h1, fun j hjn hj1 => ?_⟩
          by_cases e : j = n
          · subst e
            have h3 := hs i hbi
            rw [h3] at hb
            rw [hwt]
            exact ⟨by omega, fun h => absurd h (by omega)⟩
          · exact hall j (by omega) hj1

theorem bestM_top (m : MapV) (g : Nat) (q : Int) : TopTo m g q 5 (bestM m g q) := (bestTo_top m g q 5 (Nat.le_refl _)).1

theorem top_one {m : MapV} {g : Nat} {q : Int} {n : Nat} {b c : Int} (hb : TopTo m g q n b) (hc : TopTo m g q n c) : b = c := by
  rcases hb with ⟨h0, hb⟩ | ⟨i, hi, hb, h1, hall⟩
  · rcases hc with ⟨_, hc⟩ | ⟨j, hj, _, hj1, _⟩
    · rw [hb, hc]
    · have := h0 j hj; omega
  · rcases hc with ⟨h0, _⟩ | ⟨j, hj, hc, hj1, hall2⟩
    · have := h0 i hi; omega
    · have a := hall j hj hj1
      have b' := hall2 i hi h1
      have : i = j := by
        rcases Nat.lt_trichotomy i j with h | h | h
        · have := b'.2 h; omega
        · exact h
        · have := a.2 h; omega
      subst this
      rw [hb, hc]

theorem mem_inL {m : MapV} {x : Int} : x ∈ inL m ↔ ∃ i : Nat, i < 5 ∧ x = i ∧ 1 ≤ wtI m i := by
  unfold inL pickL
  rw [List.mem_map]
  constructor
  · rintro ⟨i, hi, rfl⟩
    rw [List.mem_filter] at hi
    refine ⟨i.val, i.isLt, rfl, ?_⟩
    rw [wtI_at m i.val i.isLt]
    have h2 : 0 < (m.osd ⟨i.val, i.isLt⟩).wt := of_decide_eq_true hi.2
    omega
  · rintro ⟨i, hi, rfl, hw⟩
    refine ⟨⟨i, hi⟩, List.mem_filter.2 ⟨List.mem_finRange _, decide_eq_true ?_⟩, rfl⟩
    rw [wtI_at m i hi] at hw
    omega

theorem inL_rises (m : MapV) : (inL m).Pairwise (· < ·) := by
  unfold inL pickL
  rw [List.pairwise_map]
  refine List.Pairwise.filter _ ?_
  have : (List.finRange 5).Pairwise fun a b : Fin 5 => (a.val : Int) < b.val := by decide
  exact this

theorem inL_len (m : MapV) : (inL m).length ≤ 5 := by
  unfold inL pickL
  rw [List.length_map]
  exact Nat.le_trans (List.length_filter_le _ _) (by simp)

/-- What those that are in draw. -/
def drawsL (m : MapV) (g : Nat) (q : Int) : List Int := (inL m).map fun k => drawI g k q (wtI m k)

theorem best_index {m : MapV} {g : Nat} {q k : Int} (h : IsBest (drawsL m g q) (inL m).length k) : (k = -1 ∧ bestM m g q = -1) ∨ ∃ (n : Nat) (hn : n < (inL m).length), k = n ∧ (inL m)[n] = bestM m g q := by
  rcases h with ⟨h0, hk⟩ | ⟨n, hk, hn, hall⟩
  · left
    refine ⟨hk, top_one (bestM_top m g q) (.inl ⟨fun i hi => ?_, rfl⟩)⟩
    have he : inL m = [] := List.eq_nil_of_length_eq_zero h0
    rcases Int.lt_or_le (wtI m i) 1 with h | h
    · exact h
    · have : (i : Int) ∈ inL m := mem_inL.2 ⟨i, hi, rfl, h⟩
      rw [he] at this
      cases this
  · right
    refine ⟨n, hn, hk, ?_⟩
    obtain ⟨i, hi, hxi, hwi⟩ := mem_inL.1 (List.getElem_mem hn)
    rw [hxi]
    refine top_one (.inr ⟨i, hi, rfl, hwi, fun j hj hwj => ?_⟩) (bestM_top m g q)
    obtain ⟨p, hp, hpj⟩ := List.getElem_of_mem (mem_inL.2 ⟨j, hj, rfl, hwj⟩ : (j : Int) ∈ inL m)
    have e1 : (drawsL m g q).getD p 0 = drawI g j q (wtI m j) := by
      unfold drawsL
      simp [List.getD, hp, hpj]
    have e2 : (drawsL m g q).getD n 0 = drawI g i q (wtI m i) := by
      unfold drawsL
      simp [List.getD, hn, hxi]
    have := hall p hp
    rw [e1, e2] at this
    refine ⟨this.1, fun hji => this.2 ?_⟩
    rcases Nat.lt_or_ge p n with h | h
    · exact h
    · rcases Nat.lt_or_eq_of_le h with h | h
      · have := List.pairwise_iff_getElem.1 (inL_rises m) n p hn hp h
        rw [hpj, hxi] at this
        omega
      · subst h
        rw [hpj] at hxi
        omega

theorem apartB_host (m : MapV) (b k : Int) : apartB m b k = (hostI m k != hostI m b) := by
  unfold apartB
  by_cases h : k = b
  · subst h; simp
  · have : (k != b) = true := by simp [h]
    rw [this, Bool.true_and]

/-- Who is found by so many tries that are left: -1 of none. -/
def tryI (m : MapV) (g r : Nat) (out : List Int) : Nat → Int
  | 0 => -1
  | k + 1 => if 0 ≤ bestM m g (r + (20 - (k + 1) : Nat) * 3) ∧ freeB m out (bestM m g (r + (20 - (k + 1) : Nat) * 3)) = true then bestM m g (r + (20 - (k + 1) : Nat) * 3) else tryI m g r out k

theorem tryI_yes {m : MapV} {g r : Nat} {out : List Int} {t : Nat} (ht : t < 20) (h0 : 0 ≤ bestM m g (r + t * 3)) (hf : freeB m out (bestM m g (r + t * 3)) = true) : tryI m g r out (20 - t) = bestM m g (r + t * 3) := by
  obtain ⟨k, rfl, hk⟩ : ∃ k, t = 20 - (k + 1) ∧ k + 1 ≤ 20 := ⟨19 - t, by omega, by omega⟩
  rw [show 20 - (20 - (k + 1)) = k + 1 by omega]
  exact if_pos ⟨h0, hf⟩

theorem tryI_no {m : MapV} {g r : Nat} {out : List Int} {t : Nat} (ht : t < 20) (h : ¬ (0 ≤ bestM m g (r + t * 3) ∧ freeB m out (bestM m g (r + t * 3)) = true)) : tryI m g r out (20 - t) = tryI m g r out (20 - (t + 1)) := by
  obtain ⟨k, rfl, hk⟩ : ∃ k, t = 20 - (k + 1) ∧ k + 1 ≤ 20 := ⟨19 - t, by omega, by omega⟩
  rw [show 20 - (20 - (k + 1)) = k + 1 by omega, show 20 - (20 - (k + 1) + 1) = k by omega]
  exact if_neg h

theorem tryN_tryI (m : MapV) (g r : Nat) (out : List Int) (k : Nat) : tryN m g r out k = if 0 ≤ tryI m g r out k then out ++ [tryI m g r out k] else out := by
  induction k with
  | zero => rfl
  | succ k ih =>
    unfold tryN tryI
    split
    · rename_i h
      rw [if_pos h.1]
    · exact ih

theorem tryI_bd (m : MapV) (g r : Nat) (out : List Int) (k : Nat) : -1 ≤ tryI m g r out k ∧ tryI m g r out k < 5 := by
  induction k with
  | zero => exact ⟨by show (-1 : Int) ≤ -1; omega, by show (-1 : Int) < 5; omega⟩
  | succ k ih =>
    unfold tryI
    split
    · rename_i h
      exact ⟨by have := h.1; omega, (bestTo_bd _ _ _ _).2⟩
    · exact ih

theorem pickTo_yes {m : MapV} {g r : Nat} (h : 0 ≤ tryI m g r (pickTo m g r) 20) : pickTo m g (r + 1) = pickTo m g r ++ [tryI m g r (pickTo m g r) 20] := by
  show tryN m g r (pickTo m g r) 20 = _
  rw [tryN_tryI, if_pos h]

theorem pickTo_no {m : MapV} {g r : Nat} (h : ¬ 0 ≤ tryI m g r (pickTo m g r) 20) : pickTo m g (r + 1) = pickTo m g r := by
  show tryN m g r (pickTo m g r) 20 = _
  rw [tryN_tryI, if_neg h]
end Go.Proofs.Ytlbokkbngbpmiaa

/- CandMem: Candidates in variables and rows: the laws of Mem at this seat's types. -/
namespace Go.Proofs.Ytlbokkbngbpmiaa
set_option linter.unusedSimpArgs false
set_option linter.unusedVariables false
open Go.RowKit

/-- A daemon that may be picked. -/
structure CandV where
  o : Int
  wt : Int
  host : Nat

def candC (x : CandV) : Array Value := #[.int .i64 x.o, .int .i64 x.wt, .int .u8 x.host]

def candOf (m : MapV) (k : Int) : CandV := ⟨k, wtI m k, hostI m k⟩

def candR (cs : List CandV) : List (List Value) := cs.map fun x => (candC x).toList

theorem cand_size (x : CandV) : (Try.prog.info? 139).map (·.size) = some (candC x).size := by
  show _ = some 3
  kernel_rfl

theorem cand_zero : (Try.prog.info? 139).map (·.zero) = some (some (.agg (candC ⟨0, 0, 0⟩))) := by kernel_rfl
theorem cand_built : Try.prog.built 139 [] = some (candC ⟨0, 0, 0⟩) := by kernel_rfl
theorem cand_one (x : CandV) : (candC x).all (·.oneCell') = true := by
  unfold candC
  simp [Value.oneCell']

theorem Try.infoCand : (Try.prog.info? 139).map (fun i => (i.zero, i.size, i.bytes)) = some (some (.agg (candC ⟨0, 0, 0⟩)), 3, 24) := by kernel_rfl

section laws
variable {ops : Array Oper} {rest : List Oper} {o : Oper} {a : Act} {w : World} {Q : Exit → Act → World → Prop}

theorem load_cand (y : CandV) (hw : Region.wanted o (yielded ops a.tmps) = true) (x : Operand) (ho : o.op = .load 139 x) (g : Nat) (hx : a.eval x = .pointer (some ⟨g, 0, none⟩))
    (hg : Has w g 139 (candC y)) (h : wpList Try.prog ops Q rest (a.put o.dst (.agg (candC y))) w) : wpList Try.prog ops Q (o :: rest) a w :=
  wpList_load_has hw 139 x ho g hx 139 (candC y) _ Try.underlying139 rfl (cand_size y) hg h

theorem load_cand_at (y : CandV) (hw : Region.wanted o (yielded ops a.tmps) = true) (x : Operand) (ho : o.op = .load 139 x) (A : Addr) (hx : a.eval x = .pointer (some A))
    (hc : ∀ j v, (candC y).toList[j]? = some v → w.cell? (A.add j) = some v) (h : wpList Try.prog ops Q rest (a.put o.dst (.agg (candC y))) w) : wpList Try.prog ops Q (o :: rest) a w :=
  wpList_load_any hw 139 x ho A hx (candC y).toList _ hc Try.underlying139 rfl (cand_size y) h

theorem store_cand (y old : CandV) (hw : Region.wanted o (yielded ops a.tmps) = true) (x z : Operand) (ho : o.op = .store 139 x z) (g : Nat) (hx : a.eval x = .pointer (some ⟨g, 0, none⟩)) (hy : a.eval z = .agg (candC y))
    (hg : Has w g 139 (candC old)) (h : wpList Try.prog ops Q rest (a.put o.dst undef) (w.setRow g (candC y))) : wpList Try.prog ops Q (o :: rest) a w :=
  wpList_store_has hw 139 x z ho g hx (candC y) hy 139 (candC old) (cand_size y) rfl (cand_one y) hg h

theorem alloc_cand (hw : Region.wanted o (yielded ops a.tmps) = true) (ho : o.op = .alloc 139)
    (h : wpList Try.prog ops Q rest (a.put o.dst (.pointer (some ⟨w.heap.size, 0, none⟩))) (w.alloc (.cells (candC ⟨0, 0, 0⟩) 139))) : wpList Try.prog ops Q (o :: rest) a w :=
  wpList_alloc_has hw 139 ho (candC ⟨0, 0, 0⟩) cand_zero h

theorem build_cand0 (hw : Region.wanted o (yielded ops a.tmps) = true) (ho : o.op = .build 139 #[])
    (h : wpList Try.prog ops Q rest (a.put o.dst (.agg (candC ⟨0, 0, 0⟩))) w) : wpList Try.prog ops Q (o :: rest) a w :=
  wpList_build_has hw 139 #[] ho (candC ⟨0, 0, 0⟩) (by simpa using cand_built) h

theorem ret_cand_tmp (m : CandV) {fn : Func} {R : Ending → World → Prop} {p u : Tmp} (h : fn.results = #[.cell p 139, .tmp u]) (g : Nat) (hp : a.tmps.getD p undef = .pointer (some ⟨g, 0, none⟩))
    (hg : Has w g 139 (candC m)) (hdf : a.defers = []) (hR : R (.returned (.tuple #[.agg (candC m), a.tmps.getD u undef])) w) : bodyPost Try.prog fn R .ret a w :=
  ret_has_tmp h g hp 139 (candC m) _ Try.underlying139 rfl (cand_size m) hg hdf hR
end laws

theorem candR_len (cs : List CandV) : (candR cs).length = cs.length := by unfold candR; rw [List.length_map]
theorem candR_flat (cs : List CandV) : (candR cs).flatten.length = cs.length * 3 := by
  induction cs with
  | nil => rfl
  | cons c cs ih =>
    show ((candC c).toList ++ (candR cs).flatten).length = _
    rw [List.length_append, ih, List.length_cons]
    show 3 + _ = _
    omega
theorem candR_snoc (cs : List CandV) (c : CandV) : (candR (cs ++ [c])).flatten = (candR cs).flatten ++ (candC c).toList := by
  unfold candR
  rw [List.map_append, List.flatten_append]
  simp

theorem cand_at {w : World} {ad : Addr} {c : Nat} {cs : List CandV} (h : Sl w (some ad) c 3 (candR cs)) (i : Nat) (hi : i < cs.length) :
    ∀ j v, (candC cs[i]).toList[j]? = some v → w.cell? ((ad.add (i * 3)).add j) = some v := by
  intro j v hj
  have hj3 : j < 3 := (List.getElem?_eq_some_iff.1 hj).1
  have h0 := h.at' ad rfl i (by rw [candR_len]; exact hi) j hj3
  unfold candR at h0
  rw [List.getElem_map, hj] at h0
  rw [Go.Deep.add_add]
  exact h0

/-- A row of one's own, as a slice of candidates. -/
theorem cand_own {w : World} {base n : Nat} {v : Value} {cs : List CandV} (h : w.ownsRow base 139 3 v n (candR cs).flatten) : n = cs.length ∧ ∃ ao c, v = .slice ao n c ∧ Sl w ao c 3 (candR cs) := by
  have hl : n = cs.length := by
    have := h.1
    rw [candR_flat] at this
    omega
  refine ⟨hl, ?_⟩
  have hr : ∀ r ∈ candR cs, r.length = 3 := by
    intro r hr
    unfold candR at hr
    obtain ⟨x, _, rfl⟩ := List.mem_map.1 hr
    rfl
  rcases h.2 with ⟨hv, h0⟩ | ⟨g, cap, cur, hv, hg, hc, hle, hm, hcur⟩
  · have : cs = [] := List.eq_nil_of_length_eq_zero (by omega)
    subst this
    exact ⟨none, 0, by rw [hv, h0], Sl.nothing _ _⟩
  · refine ⟨some ⟨g, 0, none⟩, cap, hv, ⟨by rw [candR_len]; omega, Nat.le_trans hm (by unfold maxLen; omega), (fun h => by cases h), hr, fun ad had i hi j hj => ?_⟩⟩
    obtain rfl := Option.some.inj had
    have hf := flatten_at (candR cs) hr i hi j hj
    have hl3 := hr _ (List.getElem_mem hi)
    rw [List.getElem?_eq_getElem (show j < ((candR cs)[i]).length by omega)] at hf ⊢
    exact h.cells (g := g) (by rw [hv]; rfl) _ _ hf

theorem one_row (w : World) (t : TypeId) (c : Array Value) : ∀ j u, c.toList[j]? = some u → (w.alloc (.cells c t)).cell? ((⟨w.heap.size, 0, none⟩ : Addr).add j) = some u := by
  intro j u hj
  have h := (Has.new w t c).cell j
  rw [Addr.add_mid, Nat.zero_add, h]
  simpa using hj

theorem cand_cells1 (x : CandV) : ∀ u ∈ (candC x).toList, u.oneCell' = true := by
  intro u hu
  simp [candC] at hu
  rcases hu with rfl | rfl | rfl <;> rfl
end Go.Proofs.Ytlbokkbngbpmiaa

/- Cands: The contracts of package place's candidates: what one draws, whether it fits, what all of them draw. -/
namespace Go.Proofs.Ytlbokkbngbpmiaa
set_option linter.unusedSimpArgs false
set_option linter.unusedVariables false
open Go.RowKit

theorem Try.infoI64 : (Try.prog.info? 2).map (fun i => (i.zero, i.size, i.bytes)) = some (some (.int .i64 0), 1, 8) := by kernel_rfl

set_option maxRecDepth 100000 in
theorem cdraw_any (x : CandV) (g : Nat) (t : Int) (w : World) (hg : g < 256) (hq : -9223372036854775808 ≤ x.wt ∧ x.wt ≤ 9223372036854775807) :
    Calls Try.prog 84 #[.agg (candC x), .int .u8 g, .int .i64 t] w fun e w' => e = .returned (.int .i64 (drawI g x.o t x.wt)) ∧ Below w.heap.size w w' := by
  have c0 : (candC x)[0]? = some (.int .i64 x.o) := rfl
  have c1 : (candC x)[1]? = some (.int .i64 x.wt) := rfl
  have hb := (Below.refl w.heap.size w).alloc (Nat.le_refl _) (.cells (candC x) 139)
  go_enter Try.func84, Try.ntmps84
  go_wp2_with fail
  refine (draw_any g x.o t x.wt _ hg hq.1 hq.2).mono ?_
  rintro e w1 ⟨rfl, hb1⟩
  go_wp2
  go_ret
  exact ⟨rfl, hb.trans (hb1.mono hb.size)⟩

theorem all_snoc {α : Type} {p : α → Bool} {l : List α} {n : Nat} (h : n < l.length) (ha : (l.take n).all p = true) : (l.take (n + 1)).all p = p l[n] := by
  rw [List.take_succ_eq_append_getElem h, List.all_append, ha]
  simp

theorem all_false {α : Type} {p : α → Bool} {l : List α} {n : Nat} (h : n < l.length) (hp : p l[n] = false) : l.all p = false := by
  rw [List.all_eq_false]
  exact ⟨l[n], List.getElem_mem h, by simp [hp]⟩

set_option maxRecDepth 100000 in
set_option maxHeartbeats 1000000 in
theorem fits_any (x : CandV) (ao : Option Addr) (c : Nat) (cs : List CandV) (w : World) (h : Sl w ao c 3 (candR cs)) :
    Calls Try.prog 97 #[.agg (candC x), .slice ao cs.length c] w fun e w' => e = .returned (.bool (cs.all fun y => y.host != x.host)) ∧ Below w.heap.size w w' := by
  have hle := h.le
  rw [candR_len] at hle
  have hcap := h.cap
  have hX := Has.new w 139 (candC x)
  have hb0 := (Below.refl w.heap.size w).alloc (Nat.le_refl _) (.cells (candC x) 139)
  have hS0 := h.later hb0
  go_enter Try.func97, Try.ntmps97
  go_wp2
  generalize w.alloc (.cells (candC x) 139) = w1 at *
  go_loopw [9] (fun i wr => ∃ n : Nat, n ≤ cs.length ∧ i = .int .i64 n ∧ (cs.take n).all (fun y => y.host != x.host) = true ∧ Has wr w.heap.size 139 (candC x) ∧ Sl wr ao c 3 (candR cs) ∧ Below w.heap.size w wr) (fun i _ => cs.length - (intOf i).toNat)
  case atStart => exact ⟨0, Nat.zero_le _, rfl, by simp, hX, hS0, hb0⟩
  case round =>
    clear hX hS0 hb0
    obtain ⟨n, hn, rfl, hall, hX, hS, hb⟩ := hrel
    by_cases hlt : n < cs.length
    · cases ao with
      | none => have := hS.nil rfl; omega
      | some ad =>
        have hci := cand_at hS n hlt
        have i1 : (n : Int) < (cs.length : Int) := by omega
        have hsn : Hid _ := all_snoc hlt hall
        have hfn : Hid _ := @all_false _ (fun y : CandV => y.host != x.host) cs n hlt
        clear hall
        generalize cs[n] = y at *
        have hY := (Has.new wr 139 (candC ⟨0, 0, 0⟩)).row (candC y)
        have hlt1 := hX.lt
        have hX1 := (hX.alloc (.cells (candC ⟨0, 0, 0⟩) 139)).row_other (k := wr.heap.size) (by omega) (candC y)
        have hbb := below_setRow ((Below.refl wr.heap.size wr).alloc (Nat.le_refl _) (.cells (candC ⟨0, 0, 0⟩) 139)) (Nat.le_refl _) (candC y)
        have hS1 := hS.later hbb
        have hb1 := hb.trans (hbb.mono hb.size)
        clear hbb
        have cx := hX1.cell 2
        have cy := hY.cell 2
        rw [show (candC x)[2]? = some (.int .u8 x.host) from rfl] at cx
        rw [show (candC y)[2]? = some (.int .u8 y.host) from rfl] at cy
        by_cases he : y.host = x.host
        · have hr : Hid _ := hfn.out (by simp [he])
          have heb : ((y.host : Int) == (x.host : Int)) = true := by rw [beq_iff_eq]; omega
          clear hsn hfn he
          generalize y.host = HY at *
          go_wp2_with (first
            | (refine load_cand_at y (by rfl) _ rfl _ rfl hci ?_)
            | (refine alloc_cand (by rfl) rfl ?_)
            | (refine store_cand _ ⟨0, 0, 0⟩ (by rfl) _ _ rfl _ rfl rfl (Has.new _ _ _) ?_; generalize (wr.alloc (.cells (candC ⟨0, 0, 0⟩) 139)).setRow wr.heap.size (candC y) = w3 at *))
          go_ret
          exact ⟨ret_bool (by rw [hr.out]), hb1⟩
        · have hr : Hid ((cs.take (n + 1)).all (fun y => y.host != x.host) = true) := by
            have := hsn.out
            show _ = _
            rw [this]
            simp [he]
          have heb : ((y.host : Int) == (x.host : Int)) = false := by rw [beq_eq_false_iff_ne]; omega
          clear hsn hfn he
          have hXh : Hid (x.host = x.host) := rfl
          generalize hHY : y.host = HY at *
          clear hHY
          go_wp2_with (first
            | (refine load_cand_at y (by rfl) _ rfl _ rfl hci ?_)
            | (refine alloc_cand (by rfl) rfl ?_)
            | (refine store_cand _ ⟨0, 0, 0⟩ (by rfl) _ _ rfl _ rfl rfl (Has.new _ _ _) ?_; generalize (wr.alloc (.cells (candC ⟨0, 0, 0⟩) 139)).setRow wr.heap.size (candC y) = w3 at *))
          go_roundw
          case rel => exact ⟨n + 1, by omega, by go_num, hr.out, hX1, hS1, hb1⟩
          case measure => simp [intOf]; omega
    · have e5 : n = cs.length := by omega
      subst e5
      rw [List.take_length] at hall
      go_wp2
      go_ret
      exact ⟨ret_bool (by rw [hall]), hb⟩
end Go.Proofs.Ytlbokkbngbpmiaa

/- CandStraws: The contract of place.straws: what the candidates draw, in their order. -/
namespace Go.Proofs.Ytlbokkbngbpmiaa
set_option linter.unusedSimpArgs false
set_option linter.unusedVariables false
open Go.RowKit

/-- The row of straws when n of them are drawn. -/
def strawL (ds : List Int) (n : Nat) : List Value := (ds.take n ++ List.replicate (ds.length - n) 0).map fun x => Value.int .i64 x
def strawC (ds : List Int) (n : Nat) : Array Value := (strawL ds n).toArray

theorem strawL_len (ds : List Int) (n : Nat) (h : n ≤ ds.length) : (strawL ds n).length = ds.length := by
  unfold strawL
  rw [List.length_map, List.length_append, List.length_take, List.length_replicate]
  omega

theorem strawL_at (ds : List Int) (n : Nat) (h : n < ds.length) : (strawL ds n)[n]? = some (.int .i64 0) := by
  unfold strawL
  rw [List.getElem?_map, List.getElem?_append_right (by rw [List.length_take]; omega), List.length_take, List.getElem?_replicate]
  rw [if_pos (by omega)]
  rfl

theorem strawC_at (ds : List Int) (n : Nat) (h : n < ds.length) : (strawC ds n)[n]? = some (.int .i64 0) := by
  unfold strawC
  rw [List.getElem?_toArray]
  exact strawL_at ds n h

theorem strawC_set (ds : List Int) (n : Nat) (h : n < ds.length) : (strawC ds n).setIfInBounds n (.int .i64 ds[n]) = strawC ds (n + 1) := by
  unfold strawC
  rw [List.setIfInBounds_toArray]
  congr 1
  apply List.ext_getElem?
  intro i
  rw [List.getElem?_set]
  have hl := strawL_len ds n (by omega)
  by_cases e : n = i
  · subst e
    rw [if_pos rfl, if_pos (by omega)]
    unfold strawL
    rw [List.getElem?_map, List.getElem?_append_left (by rw [List.length_take]; omega), List.getElem?_take, if_pos (by omega), List.getElem?_eq_getElem h]
    rfl
  · rw [if_neg e]
    unfold strawL
    rw [List.getElem?_map, List.getElem?_map]
    congr 1
    by_cases hi : i < n
    · rw [List.getElem?_append_left (by rw [List.length_take]; omega), List.getElem?_append_left (by rw [List.length_take]; omega), List.getElem?_take, List.getElem?_take, if_pos hi, if_pos (by omega)]
    · rw [List.getElem?_append_right (by rw [List.length_take]; omega), List.getElem?_append_right (by rw [List.length_take]; omega), List.length_take, List.length_take, List.getElem?_replicate, List.getElem?_replicate]
      by_cases hd : i < ds.length
      · rw [if_pos (by omega), if_pos (by omega)]
      · rw [if_neg (by omega), if_neg (by omega)]

theorem straw_made (ds : List Int) : (madeCells (Value.int .i64 0).cells (ds.length * 1)).toList = strawL ds 0 := by
  apply List.ext_getElem?
  intro i
  unfold madeCells strawL
  simp only [Array.toList_map, Array.toList_range, List.take_zero, List.nil_append, Nat.sub_zero, Nat.mul_one]
  rw [List.getElem?_map, List.getElem?_map, List.getElem?_replicate]
  by_cases h : i < ds.length
  · rw [List.getElem?_range h, if_pos h]
    have : i % (Value.int .i64 0).cells.size = 0 := Nat.mod_one i
    show some ((Value.int .i64 0).cells[i % (Value.int .i64 0).cells.size]!) = _
    rw [this]
    rfl
  · rw [if_neg h, List.getElem?_eq_none (by simpa using h)]
    rfl

theorem straw_has {w : World} {g : Nat} {ds : List Int} {b : Nat} (h : w.ownsRow b 2 1 (.slice (some ⟨g, 0, none⟩) ds.length ds.length) ds.length (madeCells (Value.int .i64 0).cells (ds.length * 1)).toList) : Has w g 2 (strawC ds 0) := by
  rcases h.2 with ⟨hv, _⟩ | ⟨g', cap, cur, hv, hg, hc, hle, hm, hs, hx⟩
  · cases hv
  · injection hv with h1 h2 h3
    injection h1 with h1
    injection h1 with h1
    subst h1
    unfold Has strawC
    rw [hc]
    congr 1
    congr 1
    rw [straw_made] at hx
    rw [List.take_of_length_le (by rw [Array.length_toList, hs, ← h3]; exact Nat.le_refl _)] at hx
    rw [← hx]

theorem straw_is {w : World} {g : Nat} {ds : List Int} (h : Has w g 2 (strawC ds ds.length)) (hn : ds.length ≤ 1000) (hb : ∀ x ∈ ds, -9223372036854775808 ≤ x ∧ x ≤ 9223372036854775807) : Is w (some ⟨g, 0, none⟩) ds.length ds := by
  refine ⟨Nat.le_refl _, by omega, (fun h => by cases h), fun ad had j hj => ?_, hb⟩
  obtain rfl := Option.some.inj had
  rw [Addr.add_mid, Nat.zero_add, h.cell]
  unfold strawC strawL
  rw [List.getElem?_toArray, List.take_length, Nat.sub_self, List.getElem?_map]
  simp [hj]

/-- What candidates draw. -/
def drawsC (cs : List CandV) (g : Nat) (t : Int) : List Int := cs.map fun x => drawI g x.o t x.wt

theorem drawsC_len (cs : List CandV) (g : Nat) (t : Int) : (drawsC cs g t).length = cs.length := by unfold drawsC; rw [List.length_map]

theorem strawI_bd' (a : Nat) (q : Int) : -9223372036854775808 ≤ strawI a q ∧ strawI a q ≤ 9223372036854775807 := by
  have := strawI_bd a q
  omega

set_option maxRecDepth 100000 in
set_option maxHeartbeats 1000000 in
theorem straws_any (ao : Option Addr) (c : Nat) (cs : List CandV) (g : Nat) (t : Int) (w : World) (h : Sl w ao c 3 (candR cs)) (hl : cs.length ≤ 1000) (hg : g < 256) (hq : ∀ x ∈ cs, -9223372036854775808 ≤ x.wt ∧ x.wt ≤ 9223372036854775807) :
    Calls Try.prog 96 #[.slice ao cs.length c, .func (.func 84) #[] #[], .int .u8 g, .int .i64 t] w fun e w' => ∃ bo d, e = .returned (.slice bo cs.length d) ∧ Is w' bo d (drawsC cs g t) ∧ Below w.heap.size w w' := by
  obtain ⟨i0, hi, hz0, hz1, hz2⟩ := info_parts Try.infoI64
  have hle := h.le
  rw [candR_len] at hle
  have hcap := h.cap
  go_enter Try.func96, Try.ntmps96
  go_wp2_with (refine wpList_make_full _ rfl _ _ 150 rfl w.heap.size 2 i0 (.int .i64 0) 1 Try.underlying150 hi hz0 hz1 _ _ _ _ cs.length rfl rfl rfl rfl (by rw [hz2]; omega) (by unfold maxLen; omega) (Nat.le_refl _) ?_)
  intro w1 hown hgrow
  have hb0 : Below w.heap.size w w1 := (Below.refl w.heap.size w).grown hgrow (Nat.le_refl _) (fun k hk => by cases hk)
  have hdl := drawsC_len cs g t
  have hR0 : Has w1 w.heap.size 2 (strawC (drawsC cs g t) 0) := straw_has (b := w.heap.size) (by rw [hdl, Nat.mul_one]; exact hown)
  have hS0 := h.later hb0
  clear hown hgrow
  go_wp2
  go_loopw [17] (fun i wr => ∃ n : Nat, n ≤ cs.length ∧ i = .int .i64 n ∧ Has wr w.heap.size 2 (strawC (drawsC cs g t) n) ∧ Sl wr ao c 3 (candR cs) ∧ Below w.heap.size w wr) (fun i _ => cs.length - (intOf i).toNat)
  case atStart => exact ⟨0, Nat.zero_le _, rfl, hR0, hS0, hb0⟩
  case round =>
    clear hR0 hS0 hb0
    obtain ⟨n, hn, rfl, hR, hS, hb⟩ := hrel
    by_cases hlt : n < cs.length
    · cases ao with
      | none => have := hS.nil rfl; omega
      | some ad =>
        have hci := cand_at hS n hlt
        have hqn := hq cs[n] (List.getElem_mem hlt)
        have i1 : (n : Int) < (cs.length : Int) := by omega
        have hset : Hid _ := strawC_set (drawsC cs g t) n (by omega)
        have hat := strawC_at (drawsC cs g t) n (by omega)
        have hdn : (drawsC cs g t)[n]'(by omega) = drawI g cs[n].o t cs[n].wt := by simp [drawsC]
        rw [hdn] at hset
        clear hdn
        generalize cs[n] = y at *
        have hY := (Has.new wr 139 (candC ⟨0, 0, 0⟩)).row (candC y)
        have hlt1 := hR.lt
        have hbb := below_setRow ((Below.refl wr.heap.size wr).alloc (Nat.le_refl _) (.cells (candC ⟨0, 0, 0⟩) 139)) (Nat.le_refl _) (candC y)
        have hS1 := hS.later hbb
        have hR1 := hR.later hbb
        have hb1 := hb.trans (hbb.mono hb.size)
        clear hbb
        go_wp2_with (first
          | (refine load_cand_at y (by rfl) _ rfl _ rfl hci ?_)
          | (refine alloc_cand (by rfl) rfl ?_)
          | (refine store_cand _ ⟨0, 0, 0⟩ (by rfl) _ _ rfl _ rfl rfl (Has.new _ _ _) ?_; generalize (wr.alloc (.cells (candC ⟨0, 0, 0⟩) 139)).setRow wr.heap.size (candC y) = w3 at *)
          | (refine load_cand y (by rfl) _ rfl _ rfl hY ?_))
        refine (cdraw_any y g t _ hg hqn).mono ?_
        rintro e w4 ⟨rfl, hb4⟩
        replace hS1 := hS1.later hb4
        replace hR1 := hR1.later hb4
        replace hb1 := hb1.trans (hb4.mono hb1.size)
        clear hb4 hS hR hb
        have cn := hR1.cell n
        rw [hat] at cn
        have fn := hR1.free n
        have hR2 := hR1.set n (.int .i64 (drawI g y.o t y.wt))
        rw [hset.out] at hR2
        have hb2 := hb1.setCell (p := ⟨w.heap.size, n, none⟩) (Nat.le_refl _) (.int .i64 (drawI g y.o t y.wt))
        have hS2 := h.later hb2
        clear hset
        generalize drawI g y.o t y.wt = D at *
        go_wp2
        go_roundw
        case rel => exact ⟨n + 1, by omega, by go_num, hR2, hS2, hb2⟩
        case measure => simp [intOf]; omega
    · have e5 : n = cs.length := by omega
      subst e5
      rw [← hdl] at hR
      have hI := straw_is hR (by omega) (fun x hx => by
        unfold drawsC at hx
        obtain ⟨y, _, rfl⟩ := List.mem_map.1 hx
        exact strawI_bd' _ _)
      rw [hdl] at hI
      go_wp2
      go_ret
      exact ⟨_, _, rfl, hI, hb⟩
end Go.Proofs.Ytlbokkbngbpmiaa

/- CandList: The contract of place.candidates: those that are in, rising by their numbers. -/
namespace Go.Proofs.Ytlbokkbngbpmiaa
set_option linter.unusedSimpArgs false
set_option linter.unusedVariables false
open Go.RowKit

def candL (m : MapV) : List CandV := (inL m).map (candOf m)

theorem candL_len (m : MapV) : (candL m).length = (inL m).length := by unfold candL; rw [List.length_map]

theorem take_snoc {l : List Int} {f : Int → CandV} {n : Nat} (h : n < l.length) : (l.take (n + 1)).map f = (l.take n).map f ++ [f l[n]] := by
  rw [List.take_succ_eq_append_getElem h, List.map_append]
  rfl

theorem cand_row_own {w : World} {base n : Nat} {v : Value} {cs : List CandV} {x : CandV} {xs : List Value} (h : w.ownsRow base 139 3 v n xs) (hx : xs = (candR cs).flatten ++ (candC x).toList) (hn : n = cs.length + 1) : w.ownsRow base 139 3 v (cs ++ [x]).length (candR (cs ++ [x])).flatten := by
  rw [candR_snoc, ← hx, List.length_append]
  subst hn
  exact h

set_option maxRecDepth 100000 in
set_option maxHeartbeats 1000000 in
theorem candidates_any (m : MapV) (w : World) (hm : MapOk m) :
    Calls Try.prog 83 #[.agg (mapC m)] w fun e w' => ∃ ao c, e = .returned (.slice ao (candL m).length c) ∧ Sl w' ao c 3 (candR (candL m)) ∧ Below w.heap.size w w' := by
  obtain ⟨i0, hi, hz0, hz1, hz2⟩ := info_parts Try.infoCand
  have hH := Has.new w 106 (mapC m)
  have hb0 := (Below.refl w.heap.size w).alloc (Nat.le_refl _) (.cells (mapC m) 106)
  go_enter Try.func83, Try.ntmps83
  go_wp2_with (first
    | (refine load_map m (by rfl) _ rfl _ rfl ?hg ?_; (case hg => exact hH)))
  refine (in_any m _ hm).mono ?_
  rintro e w1 ⟨ao, c, rfl, hIx, hb1⟩
  replace hH := hH.later hb1
  replace hb1 := hb0.trans (hb1.mono hb0.size)
  clear hb0
  have hlen := inL_len m
  have hmem := @mem_inL m
  have hcl : Hid (candL m = (inL m).map (candOf m)) := rfl
  generalize inL m = l at *
  have hcap := hIx.cap
  have hle := hIx.le
  have hgs := hb1.size
  have hHlt := hH.lt
  go_wp2
  go_loopw [3, 9] (fun v i wr => ∃ n : Nat, n ≤ l.length ∧ i = .int .i64 n ∧ wr.ownsRow w1.heap.size 139 3 v ((l.take n).map (candOf m)).length (candR ((l.take n).map (candOf m))).flatten ∧ Below w1.heap.size w1 wr) (fun _ i _ => l.length - (intOf i).toNat)
  case atStart => exact ⟨0, Nat.zero_le _, rfl, World.ownsRow_nil _ _ _ _, Below.refl _ _⟩
  case round =>
    obtain ⟨n, hn, rfl, hown, hb⟩ := hrel
    by_cases hlt : n < l.length
    · have hnI : (n : Int) < (l.length : Int) := by omega
      obtain ⟨p, hp5, hp2, hpw⟩ := hmem.1 (List.getElem_mem hlt)
      have hpI : (p : Int) < 5 := by omega
      have keep : ∀ W : World, Below w1.heap.size w1 W → W.cell? ⟨w.heap.size, 1 + p * 3 + 1, none⟩ = some (.int .i64 (m.osd ⟨p, hp5⟩).wt) ∧ W.cell? ⟨w.heap.size, 1 + p * 3 + 2, none⟩ = some (.int .u8 (m.osd ⟨p, hp5⟩).host) := by
        intro W hq
        have cw := (hH.later hq).cell (1 + p * 3 + 1)
        have ch := (hH.later hq).cell (1 + p * 3 + 2)
        rw [mapC_wt m ⟨p, hp5⟩] at cw
        rw [mapC_host m ⟨p, hp5⟩] at ch
        exact ⟨cw, ch⟩
      have hfl : ((l.take n).map (candOf m)).length ≤ 5 := by rw [List.length_map, List.length_take]; omega
      have hstep : Hid _ := take_snoc (f := candOf m) hlt
      have hcp : Hid (candOf m l[n] = ⟨p, (m.osd ⟨p, hp5⟩).wt, (m.osd ⟨p, hp5⟩).host⟩) := by
        show candOf m l[n] = _
        rw [hp2]
        unfold candOf
        rw [wtI_at m p hp5, hostI_at m p hp5]
      cases ao with
      | none => have := hIx.nil rfl; omega
      | some ad =>
        have ci := (hIx.later hb).at' ad rfl n hlt
        rw [hp2] at ci
        clear hp2 hpw
        rw [hcp.out] at hstep
        clear hcp
        generalize (m.osd ⟨p, hp5⟩).wt = WT at *
        generalize (m.osd ⟨p, hp5⟩).host = HO at *
        generalize (l.take n).map (candOf m) = cs at *
        have hsz := hb.size
        go_wp2
        refine wp_region_plan (fun W => W.cell? ⟨w.heap.size, 1 + p * 3 + 1, none⟩ = some (.int .i64 WT) ∧ W.cell? ⟨w.heap.size, 1 + p * 3 + 2, none⟩ = some (.int .u8 HO)) (Plan.of [(0, true), (1, true), (2, true), (3, true), (4, true), (5, true), (6, true), (7, true), (8, true), (9, true), (10, true), (11, true), (12, true), (13, false), (14, false), (15, true)] .done) (by kernel_rfl) (by kernel_rfl) (by kernel_rfl) (by kernel_rfl) (keep _ hb.drew) ?_
        iterate 13
          refine plan_take _ _ rfl (.inl ⟨by rfl, fun W hS => by obtain ⟨z1, z2⟩ := hS; go_simp; try with_reducible rfl⟩) ?_
          try simp only [Act.put, List.setIfInBounds_toArray, List.set_cons_zero, List.set_cons_succ]
        refine plan_run _ rfl (fun K hK => ?_)
        go_simp
        have hbA := hb.drew.alloc (by simpa using hsz) (.cells (candC ⟨p, WT, HO⟩) 139)
        have hownA := (hown.drew).alloc (.cells (candC ⟨p, WT, HO⟩) 139)
        refine hK.out _ _ (keep _ hbA) ?_
        clear hK K
        refine plan_run _ rfl (fun K hK => ?_)
        rw [if_pos (by rfl)]
        refine wp_append_own _ _ _ 133 rfl w1.heap.size 139 i0 (.agg (candC ⟨0, 0, 0⟩)) 3 24 Try.underlying133 hi hz0 hz1 hz2 rfl (by decide) _ cs.length _ rfl hownA ⟨wr.heap.size, 0, none⟩ 1 1 (candC ⟨p, WT, HO⟩).toList rfl rfl (one_row _ _ _) (cand_cells1 _) (by unfold maxLen; omega) (by omega) (by simp; omega) ?_
        intro v' w5 hown5 hgrow _
        have hb5 : Below w1.heap.size w1 w5 := hbA.grown hgrow (by simp; omega) (fun k hk => (hown.lt k hk).1)
        refine hK.out _ _ (keep _ hb5) ?_
        have hown6 := cand_row_own (cs := cs) hown5 rfl rfl
        rw [← hstep.out] at hown6
        clear hK K hown hown5 hgrow hownA hbA keep
        refine plan_take _ _ rfl (.inl ⟨by rfl, fun W hS => by clear hS; go_simp; try with_reducible rfl⟩) ?_
        try simp only [Act.put, List.setIfInBounds_toArray, List.set_cons_zero, List.set_cons_succ]
        refine plan_done ?_
        go_wp2
        go_roundw
        case rel => exact ⟨n + 1, by omega, by go_num, hown6, hb5⟩
        case measure => simp [intOf]; omega
    · have e5 : n = l.length := by omega
      subst e5
      rw [List.take_length, ← hcl.out] at hown
      obtain ⟨_, bo, d, rfl, hI2⟩ := cand_own hown
      go_wp2
      go_ret
      exact ⟨bo, d, rfl, hI2, hb1.trans (hb.mono hb1.size)⟩
end Go.Proofs.Ytlbokkbngbpmiaa

/- CandNext: The contract of place.next: who draws best at the first try at which that one fits. -/
namespace Go.Proofs.Ytlbokkbngbpmiaa
set_option linter.unusedSimpArgs false
set_option linter.unusedVariables false
open Go.RowKit

theorem drawsC_candL (m : MapV) (g : Nat) (q : Int) : drawsC (candL m) g q = drawsL m g q := by
  unfold drawsC candL drawsL
  rw [List.map_map]
  rfl

theorem free_cands (m : MapV) (out : List Int) (b : Int) : ((out.map (candOf m)).all fun y => y.host != (candOf m b).host) = freeB m out b := by
  unfold freeB
  rw [List.all_map]
  congr 1
  funext k
  rw [apartB_host]
  rfl

theorem candL_wt {m : MapV} (hm : MapOk m) : ∀ x ∈ candL m, -9223372036854775808 ≤ x.wt ∧ x.wt ≤ 9223372036854775807 := by
  intro x hx
  unfold candL at hx
  obtain ⟨k, hk, rfl⟩ := List.mem_map.1 hx
  obtain ⟨i, hi, rfl, _⟩ := mem_inL.1 hk
  show -9223372036854775808 ≤ wtI m i ∧ wtI m i ≤ _
  rw [wtI_at m i hi]
  exact hm.wt _

theorem candL_at {m : MapV} {n : Nat} (h : n < (candL m).length) (h2 : n < (inL m).length) : (candL m)[n] = candOf m (inL m)[n] := by
  simp [candL]

/-- What place.next tells. -/
def nextC (m : MapV) (b : Int) : CandV := if 0 ≤ b then candOf m b else ⟨0, 0, 0⟩

theorem nextC_yes {m : MapV} {b : Int} (h : 0 ≤ b) : nextC m b = candOf m b := if_pos h
theorem nextC_no {m : MapV} {b : Int} (h : ¬ 0 ≤ b) : nextC m b = ⟨0, 0, 0⟩ := if_neg h

set_option maxRecDepth 100000 in
set_option maxHeartbeats 2000000 in
theorem next_any (m : MapV) (g r : Nat) (out : List Int) (ao bo : Option Addr) (c d : Nat) (w : World) (hm : MapOk m) (hg : g < 256) (hr : r < 3) (ho : out.length ≤ 3) (hS : Sl w ao c 3 (candR (candL m))) (hO : Sl w bo d 3 (candR (out.map (candOf m)))) :
    Calls Try.prog 89 #[.slice ao (candL m).length c, .slice bo out.length d, .func (.func 84) #[] #[], .int .u8 g, .int .i64 r] w fun e w' => e = .returned (.tuple #[.agg (candC (nextC m (tryI m g r out 20))), .bool (decide (0 ≤ tryI m g r out 20))]) ∧ Below w.heap.size w w' := by
  have hcl : Hid _ := candL_len m
  have hil : (candL m).length ≤ 5 := by rw [candL_len]; exact inL_len m
  have hcap := hS.cap
  have hle := hS.le
  rw [candR_len] at hle
  have hR := Has.new w 139 (candC ⟨0, 0, 0⟩)
  have hb0 := (Below.refl w.heap.size w).alloc (Nat.le_refl _) (.cells (candC ⟨0, 0, 0⟩) 139)
  have hS0 := hS.later hb0
  have hO0 := hO.later hb0
  go_enter Try.func89, Try.ntmps89
  go_wp2_with (first
    | (refine alloc_cand (by rfl) rfl ?_))
  generalize w.alloc (.cells (candC ⟨0, 0, 0⟩) 139) = w1 at *
  go_loopw [14] (fun i wr => ∃ t : Nat, t ≤ 20 ∧ i = .int .i64 t ∧ tryI m g r out (20 - t) = tryI m g r out 20 ∧ Has wr w.heap.size 139 (candC ⟨0, 0, 0⟩) ∧ Sl wr ao c 3 (candR (candL m)) ∧ Sl wr bo d 3 (candR (out.map (candOf m))) ∧ Below w.heap.size w wr) (fun i _ => (20 - intOf i).toNat)
  case atStart => exact ⟨0, by decide, rfl, rfl, hR, hS0, hO0, hb0⟩
  case round =>
    clear hR hS0 hO0 hb0
    obtain ⟨t, ht, rfl, htry, hR, hSr, hOr, hb⟩ := hrel
    by_cases hlt : t < 20
    · have htI : (t : Int) < 20 := by omega
      have hty : Hid _ := @tryI_yes m g r out t hlt
      have htn : Hid _ := @tryI_no m g r out t hlt
      have htr : Hid _ := htry
      clear htry
      go_wp2_with fail
      refine (straws_any ao c (candL m) g (r + t * 3) _ hSr (by omega) hg (candL_wt hm)).mono ?_
      rintro e w2 ⟨eo, ec, rfl, hIs, hb2⟩
      replace hR := hR.later hb2
      replace hSr := hSr.later hb2
      replace hOr := hOr.later hb2
      replace hb := hb.trans (hb2.mono hb.size)
      clear hb2
      go_wp2_with fail
      have hbest := best_any eo ec (drawsC (candL m) g (r + t * 3)) w2 hIs
      rw [drawsC_len] at hbest
      refine hbest.mono ?_
      rintro e w3 ⟨k, rfl, hB, rfl⟩
      rw [drawsC_candL, hcl.out] at hB
      clear hbest hIs
      have hfc := free_cands m out (bestM m g (r + t * 3))
      rcases best_index hB with ⟨rfl, hbm⟩ | ⟨n, hn, rfl, hbm⟩
      · have hno : Hid (tryI m g r out (20 - (t + 1)) = tryI m g r out 20) := by
          show _ = _
          rw [← htn.out (fun h => by have := h.1; omega)]
          exact htr.out
        clear hB hbm hfc htn hty htr
        go_wp2
        go_roundw
        case rel => exact ⟨t + 1, by omega, by go_num, hno.out, hR, hSr, hOr, hb⟩
        case measure => simp [intOf]; omega
      · have hn' : n < (candL m).length := by rw [hcl.out]; exact hn
        have hnI : (n : Int) < ((candL m).length : Int) := by omega
        have hcn : (candL m)[n] = candOf m (bestM m g (r + t * 3)) := by rw [candL_at hn' hn, hbm]
        have hb0' : 0 ≤ bestM m g (r + t * 3) := by
          rw [← hbm]
          obtain ⟨i, _, hi, _⟩ := mem_inL.1 (List.getElem_mem hn)
          omega
        clear hB hbm
        cases ao with
        | none => have := hSr.nil rfl; omega
        | some ad =>
          have hci := cand_at hSr n hn'
          rw [hcn] at hci
          generalize bestM m g (r + t * 3) = b at *
          have hfits := fun w h => fits_any (candOf m b) bo d (out.map (candOf m)) w h
          rw [hfc, List.length_map] at hfits
          cases hf : freeB m out b with
          | false =>
            have hno : Hid (tryI m g r out (20 - (t + 1)) = tryI m g r out 20) := by
              show _ = _
              rw [← htn.out (fun h => by rw [hf] at h; cases h.2)]
              exact htr.out
            rw [hf] at hfits
            clear hfc htn hty htr hf
            go_wp2_with (first
              | (refine load_cand_at (candOf m b) (by rfl) _ rfl _ rfl hci ?_)
              | (go_at_call 97; refine (hfits _ hOr).mono ?_; rintro e w4 ⟨rfl, hb4⟩; replace hR := hR.later hb4; replace hSr := hSr.later hb4; replace hOr := hOr.later hb4; replace hb := hb.trans (hb4.mono hb.size); clear hb4))
            go_roundw
            case rel => exact ⟨t + 1, by omega, by go_num, hno.out, hR, hSr, hOr, hb⟩
            case measure => simp [intOf]; omega
          | true =>
            have hyes : Hid (tryI m g r out 20 = b) := by
              show _ = _
              rw [← htr.out]
              exact hty.out hb0' hf
            rw [hf] at hfits
            have hciA : ∀ W : World, Below w.heap.size w W → Sl W (some ad) c 3 (candR (candL m)) → ∀ j v, (candC (candOf m b)).toList[j]? = some v → W.cell? ((ad.add (n * 3)).add j) = some v := by
              intro W _ hW
              have := cand_at hW n hn'
              rw [hcn] at this
              exact this
            clear hfc htn hty htr hf
            go_wp2_with (first
              | (refine load_cand_at (candOf m b) (by rfl) _ rfl _ rfl hci ?_)
              | (go_at_call 97; refine (hfits _ hOr).mono ?_; rintro e w4 ⟨rfl, hb4⟩; replace hR := hR.later hb4; replace hSr := hSr.later hb4; replace hOr := hOr.later hb4; replace hb := hb.trans (hb4.mono hb.size); clear hb4; replace hci := hciA _ hb hSr)
              | (refine store_cand _ ⟨0, 0, 0⟩ (by rfl) _ _ rfl _ rfl rfl hR ?_))
            refine ret_cand_tmp (candOf m b) rfl _ rfl (hR.row _) rfl ⟨?_, below_setRow hb (Nat.le_refl _) _⟩
            rw [hyes.out, nextC_yes hb0', decide_eq_true hb0']
            rfl
    · have e5 : t = 20 := by omega
      subst e5
      have hno : Hid (tryI m g r out 20 = -1) := by
        show _ = _
        rw [← htry]
        rfl
      clear htry
      rw [show ((20 : Nat) : Int) = 20 from rfl]
      go_wp2_with (first
        | (refine build_cand0 (by rfl) rfl ?_)
        | (refine store_cand _ ⟨0, 0, 0⟩ (by rfl) _ _ rfl _ rfl rfl hR ?_))
      refine ret_cand_tmp ⟨0, 0, 0⟩ rfl _ rfl (hR.row _) rfl ⟨?_, below_setRow hb (Nat.le_refl _) _⟩
      rw [hno.out]
      rfl
end Go.Proofs.Ytlbokkbngbpmiaa

/- CandPicked: The contract of place.picked: those that a group gets, in its order. -/
namespace Go.Proofs.Ytlbokkbngbpmiaa
set_option linter.unusedSimpArgs false
set_option linter.unusedVariables false
open Go.RowKit

set_option maxRecDepth 100000 in
set_option maxHeartbeats 2000000 in
theorem picked_any (m : MapV) (g : Nat) (ao : Option Addr) (c : Nat) (w : World) (hm : MapOk m) (hg : g < 256) (hS : Sl w ao c 3 (candR (candL m))) :
    Calls Try.prog 82 #[.slice ao (candL m).length c, .func (.func 84) #[] #[], .int .u8 g] w fun e w' => ∃ bo d, e = .returned (.slice bo (pickTo m g 3).length d) ∧ Sl w' bo d 3 (candR ((pickTo m g 3).map (candOf m))) ∧ Below w.heap.size w w' := by
  obtain ⟨i0, hi, hz0, hz1, hz2⟩ := info_parts Try.infoCand
  go_enter Try.func82, Try.ntmps82
  go_wp2
  go_loopw [7, 11] (fun v i wr => ∃ r : Nat, r ≤ 3 ∧ i = .int .i64 r ∧ wr.ownsRow w.heap.size 139 3 v (pickTo m g r).length (candR ((pickTo m g r).map (candOf m))).flatten ∧ Below w.heap.size w wr) (fun _ i _ => (3 - intOf i).toNat)
  case atStart => exact ⟨0, by decide, rfl, World.ownsRow_nil _ _ _ _, Below.refl _ _⟩
  case round =>
    obtain ⟨r, hr, rfl, hown, hb⟩ := hrel
    by_cases hlt : r < 3
    · have hrI : (r : Int) < 3 := by omega
      obtain ⟨_, hlen⟩ := pickTo_mem m g r
      have hlen3 : (pickTo m g r).length ≤ 3 := by omega
      have hpy : Hid _ := @pickTo_yes m g r
      have hpn : Hid _ := @pickTo_no m g r
      have htb := tryI_bd m g r (pickTo m g r) 20
      generalize pickTo m g r = out at *
      obtain ⟨hzz, bo, d, hv, hO⟩ := cand_own hown
      clear hzz
      subst hv
      have hSr := hS.later hb
      have hcap := hO.cap
      go_wp2_with fail
      refine (next_any m g r out ao bo c d _ hm hg hlt hlen3 hSr hO).mono ?_
      rintro e w2 ⟨rfl, hb2⟩
      have hown2 := own_below hown hb2
      have hb3 := hb.trans (hb2.mono hb.size)
      clear hb2 hown hSr hO hb
      generalize tryI m g r out 20 = b at *
      have hY := (Has.new w2 139 (candC ⟨0, 0, 0⟩)).row (candC (nextC m b))
      have hbb := below_setRow ((Below.refl w2.heap.size w2).alloc (Nat.le_refl _) (.cells (candC ⟨0, 0, 0⟩) 139)) (Nat.le_refl _) (candC (nextC m b))
      have hown3 := own_below hown2 hbb
      have hb4 := hb3.trans (hbb.mono hb3.size)
      clear hbb hown2
      have hsz := hb4.size
      by_cases h0 : 0 ≤ b
      · have hdec : decide (0 ≤ b) = true := decide_eq_true h0
        have hstep : Hid _ := hpy.out h0
        rw [nextC_yes h0] at hY hown3 hb4 hsz
        rw [nextC_yes h0, hdec]
        clear hpy hpn htb hdec h0
        have hc3 : (candC (candOf m b)).size = 3 := rfl
        go_wp2_with (first
          | (refine alloc_cand (by rfl) rfl ?_)
          | (refine store_cand _ ⟨0, 0, 0⟩ (by rfl) _ _ rfl _ rfl rfl (Has.new _ _ _) ?_; generalize (w2.alloc (.cells (candC ⟨0, 0, 0⟩) 139)).setRow w2.heap.size (candC (candOf m b)) = w3 at *)
          | (refine load_cand _ (by rfl) _ rfl _ rfl hY ?_)
          | (at_builtin; refine wpList_append_own _ rfl _ _ 133 rfl w.heap.size 139 i0 (.agg (candC ⟨0, 0, 0⟩)) 3 24 Try.underlying133 hi hz0 hz1 hz2 rfl (by decide) _ out.length _ rfl (hown3.alloc _) ⟨w3.heap.size, 0, none⟩ 1 1 (candC (candOf m b)).toList rfl rfl (one_row _ _ _) (cand_cells1 _) (by unfold maxLen; omega) (by omega) (by simp; omega) ?_))
        intro v' w5 hown5 hgrow _
        have hb5 : Below w.heap.size w w5 := (hb4.alloc hsz _).grown hgrow (by simp; omega) (fun k hk => (hown3.lt k hk).1)
        have hown6 : w5.ownsRow w.heap.size 139 3 v' (pickTo m g (r + 1)).length (candR ((pickTo m g (r + 1)).map (candOf m))).flatten := by
          rw [hstep.out, List.map_append, List.map_singleton, List.length_append]
          have := cand_row_own (cs := out.map (candOf m)) hown5 rfl (by simp)
          rw [List.length_append, List.length_map] at this
          exact this
        clear hown3 hown5 hgrow hY hb4
        go_wp2
        go_roundw
        case rel => exact ⟨r + 1, by omega, by go_num, hown6, hb5⟩
        case measure => simp [intOf]; omega
      · have hdec : decide (0 ≤ b) = false := decide_eq_false h0
        have hstep : Hid _ := hpn.out (by omega)
        rw [nextC_no h0] at hY hown3 hb4 hsz
        rw [nextC_no h0, hdec]
        clear hpy hpn htb hdec h0
        go_wp2_with (first
          | (refine alloc_cand (by rfl) rfl ?_)
          | (refine store_cand _ ⟨0, 0, 0⟩ (by rfl) _ _ rfl _ rfl rfl (Has.new _ _ _) ?_; generalize (w2.alloc (.cells (candC ⟨0, 0, 0⟩) 139)).setRow w2.heap.size (candC ⟨0, 0, 0⟩) = w3 at *))
        go_roundw
        case rel => exact ⟨r + 1, by omega, by go_num, by rw [hstep.out]; exact hown3, hb4⟩
        case measure => simp [intOf]; omega
    · have e5 : r = 3 := by omega
      subst e5
      rw [show ((3 : Nat) : Int) = 3 from rfl]
      obtain ⟨hzz, bo, d, rfl, hO⟩ := cand_own hown
      clear hzz
      go_wp2
      go_ret
      exact ⟨bo, d, rfl, hO, hb⟩
end Go.Proofs.Ytlbokkbngbpmiaa

/- PlacePick: The contract of place.Pick. -/
namespace Go.Proofs.Ytlbokkbngbpmiaa
set_option linter.unusedSimpArgs false
set_option linter.unusedVariables false
open Go.RowKit

theorem one_i64 (w : World) (t : TypeId) (n : Int) : ∀ j u, [Value.int .i64 n][j]? = some u → (w.alloc (.cells #[.int .i64 n] t)).cell? ((⟨w.heap.size, 0, none⟩ : Addr).add j) = some u := by
  intro j u hj
  have h := (Has.new w t #[.int .i64 n]).cell j
  rw [Addr.add_mid, Nat.zero_add, h]
  show ([Value.int .i64 n].toArray)[j]? = _
  rw [List.getElem?_toArray]
  exact hj

theorem one_i641 (n : Int) : ∀ u ∈ [Value.int .i64 n], u.oneCell' = true := by
  intro u hu
  rw [List.mem_singleton.1 hu]
  rfl

set_option maxRecDepth 100000 in
set_option maxHeartbeats 2000000 in
theorem pick_fresh (m : MapV) (g : Nat) (w : World) (hm : MapOk m) (hg : g < 256) :
    Calls Try.prog 69 #[.agg (mapC m), .int .u8 g] w fun e w' => ∃ ao c, e = .returned (.slice ao (pickM m g).length c) ∧ Ix w' ao c (pickM m g) ∧ Below w.heap.size w w' ∧ ∀ ad, ao = some ad → w.heap.size ≤ ad.block := by
  obtain ⟨i0, hi, hz0, hz1, hz2⟩ := info_parts Try.infoInt
  have hH := Has.new w 106 (mapC m)
  have hb0 := (Below.refl w.heap.size w).alloc (Nat.le_refl _) (.cells (mapC m) 106)
  go_enter Try.func69, Try.ntmps69
  go_wp2_with (first
    | (refine load_map m (by rfl) _ rfl _ rfl ?hg ?_; (case hg => exact hH)))
  refine (is_any m _ hm).mono ?_
  rintro e w1 ⟨rfl, hb1⟩
  replace hH := hH.later hb1
  replace hb1 := hb0.trans (hb1.mono hb0.size)
  clear hb0
  cases hI : isM m with
  | false =>
    have hp : pickM m g = [] := by unfold pickM; rw [hI, if_neg (by simp)]
    go_wp2
    go_ret
    exact ⟨none, 0, by rw [hp]; rfl, by rw [hp]; exact Ix.nothing _, hb1, fun ad h => by cases h⟩
  | true =>
    by_cases hg4 : (4 : Int) ≤ (g : Int)
    · have hp : pickM m g = [] := by unfold pickM; rw [if_neg (by omega)]
      go_wp2
      go_ret
      exact ⟨none, 0, by rw [hp]; rfl, by rw [hp]; exact Ix.nothing _, hb1, fun ad h => by cases h⟩
    · have hp : Hid (pickM m g = pickTo m g 3) := by show _ = _; unfold pickM; rw [if_pos ⟨hI, by omega⟩]
      have hg4' : (g : Int) < 4 := by omega
      clear hg4
      have hgs := hb1.size
      go_wp2_with (first
        | (refine load_map m (by rfl) _ rfl _ rfl ?hg ?_; (case hg => exact hH)))
      refine (candidates_any m _ hm).mono ?_
      rintro e w2 ⟨ao, c, rfl, hS, hb2⟩
      replace hb2 := hb1.trans (hb2.mono hb1.size)
      clear hb1 hH
      go_wp2_with fail
      refine (picked_any m g ao c _ hm hg hS).mono ?_
      rintro e w3 ⟨bo, d, rfl, hO, hb3⟩
      replace hb3 := hb2.trans (hb3.mono hb2.size)
      clear hb2 hS
      obtain ⟨_, hlen⟩ := pickTo_mem m g 3
      generalize pickTo m g 3 = l at *
      have hcap := hO.cap
      have hle := hO.le
      rw [candR_len, List.length_map] at hle
      have hgs3 := hb3.size
      go_wp2
      go_loopw [5, 20] (fun v i wr => ∃ n : Nat, n ≤ l.length ∧ i = .int .i64 n ∧ wr.ownsRow w3.heap.size 3 1 v (l.take n).length (intsC (l.take n)) ∧ Below w3.heap.size w3 wr) (fun _ i _ => l.length - (intOf i).toNat)
      case atStart => exact ⟨0, Nat.zero_le _, rfl, World.ownsRow_nil _ _ _ _, Below.refl _ _⟩
      case round =>
        obtain ⟨n, hn, rfl, hown, hb⟩ := hrel
        by_cases hlt : n < l.length
        · have hnI : (n : Int) < (l.length : Int) := by omega
          cases bo with
          | none => have := hO.nil rfl; omega
          | some ad =>
            have hci := cand_at (hO.later hb) n (by rw [List.length_map]; exact hlt)
            rw [List.getElem_map] at hci
            have hstep : Hid (l.take (n + 1) = l.take n ++ [l[n]]) := List.take_succ_eq_append_getElem hlt
            have hln : (l.take n).length ≤ 3 := by rw [List.length_take]; omega
            generalize l[n] = x at *
            generalize l.take n = lt at *
            have hY := (Has.new wr 139 (candC ⟨0, 0, 0⟩)).row (candC (candOf m x))
            have hbb := below_setRow ((Below.refl wr.heap.size wr).alloc (Nat.le_refl _) (.cells (candC ⟨0, 0, 0⟩) 139)) (Nat.le_refl _) (candC (candOf m x))
            have hown1 := own_below hown hbb
            have hb4 := hb.trans (hbb.mono hb.size)
            clear hbb hown
            have hsz := hb4.size
            have c0 := hY.cell 0
            rw [show (candC (candOf m x))[0]? = some (.int .i64 x) from rfl] at c0
            go_wp2_with (first
              | (refine load_cand_at (candOf m x) (by rfl) _ rfl _ rfl hci ?_)
              | (refine alloc_cand (by rfl) rfl ?_)
              | (refine store_cand _ ⟨0, 0, 0⟩ (by rfl) _ _ rfl _ rfl rfl (Has.new _ _ _) ?_; generalize (wr.alloc (.cells (candC ⟨0, 0, 0⟩) 139)).setRow wr.heap.size (candC (candOf m x)) = w4 at *)
              | (at_builtin; refine wpList_append_own _ rfl _ _ 22 rfl w3.heap.size 3 i0 (.int .i64 0) 1 8 Try.underlying22 hi hz0 hz1 hz2 rfl (by decide) _ lt.length _ rfl (hown1.alloc _) ⟨w4.heap.size, 0, none⟩ 1 1 [.int .i64 x] rfl rfl (one_i64 _ _ _) (one_i641 _) (by unfold maxLen; omega) (by omega) (by simp; omega) ?_))
            intro v' w5 hown5 hgrow _
            have hb5 : Below w3.heap.size w3 w5 := (hb4.alloc hsz _).grown hgrow (by simp; omega) (fun k hk => (hown1.lt k hk).1)
            have hown6 : w5.ownsRow w3.heap.size 3 1 v' (l.take (n + 1)).length (intsC (l.take (n + 1))) := by
              rw [hstep.out]
              unfold intsC at hown5 ⊢
              rw [List.length_append, List.map_append]
              exact hown5
            clear hown1 hown5 hgrow hY hb4
            go_wp2
            go_roundw
            case rel => exact ⟨n + 1, by omega, by go_num, hown6, hb5⟩
            case measure => simp [intOf]; omega
        · have e5 : n = l.length := by omega
          subst e5
          rw [List.take_length, ← hp.out] at hown
          obtain ⟨_, eo, ec, rfl, hI2⟩ := ix_own hown
          have hfr : Hid (∀ ad, eo = some ad → w.heap.size ≤ ad.block) := fun ad had => Nat.le_trans hb3.size (hown.lt ad.block (by subst had; rfl)).1
          rw [← hp.out]
          go_wp2
          go_ret
          exact ⟨eo, ec, rfl, hI2, hb3.trans (hb.mono hb3.size), hfr.out⟩

theorem pick_any (m : MapV) (g : Nat) (w : World) (hm : MapOk m) (hg : g < 256) :
    Calls Try.prog 69 #[.agg (mapC m), .int .u8 g] w fun e w' => ∃ ao c, e = .returned (.slice ao (pickM m g).length c) ∧ Ix w' ao c (pickM m g) ∧ Below w.heap.size w w' :=
  (pick_fresh m g w hm hg).mono fun e w' ⟨ao, c, h1, h2, h3, _⟩ => ⟨ao, c, h1, h2, h3⟩
end Go.Proofs.Ytlbokkbngbpmiaa

/- PlaceActing: The contracts of place.Acting and place.Primary. -/
namespace Go.Proofs.Ytlbokkbngbpmiaa
set_option linter.unusedSimpArgs false
set_option linter.unusedVariables false
open Go.RowKit

theorem filter_step {p : Int → Bool} {l : List Int} {n : Nat} (h : n < l.length) : (l.take (n + 1)).filter p = (l.take n).filter p ++ (if p l[n] then [l[n]] else []) := by
  rw [List.take_succ_eq_append_getElem h, List.filter_append]
  congr 1
  by_cases hp : p l[n] = true
  · simp [hp]
  · simp [hp]

set_option maxRecDepth 100000 in
set_option maxHeartbeats 2000000 in
theorem acting_fresh (m : MapV) (g : Nat) (w : World) (hm : MapOk m) (hg : g < 256) :
    Calls Try.prog 50 #[.agg (mapC m), .int .u8 g] w fun e w' => ∃ ao c, e = .returned (.slice ao (actM m g).length c) ∧ Ix w' ao c (actM m g) ∧ Below w.heap.size w w' ∧ ∀ ad, ao = some ad → w.heap.size ≤ ad.block := by
  obtain ⟨i0, hi, hz0, hz1, hz2⟩ := info_parts Try.infoInt
  have hH := Has.new w 106 (mapC m)
  have hb0 := (Below.refl w.heap.size w).alloc (Nat.le_refl _) (.cells (mapC m) 106)
  go_enter Try.func50, Try.ntmps50
  go_wp2_with (first
    | (refine load_map m (by rfl) _ rfl _ rfl ?hg ?_; (case hg => exact hH)))
  refine (pick_any m g _ hm hg).mono ?_
  rintro e w1 ⟨ao, c, rfl, hIx, hb1⟩
  replace hH := hH.later hb1
  replace hb1 := hb0.trans (hb1.mono hb0.size)
  clear hb0
  obtain ⟨hmem, hlen⟩ := pickM_mem m g
  have hact : Hid (actM m g = (pickM m g).filter (upI m)) := rfl
  generalize pickM m g = l at *
  have hcap := hIx.cap
  have hle := hIx.le
  have hgs := hb1.size
  go_wp2
  go_loopw [5, 12] (fun v i wr => ∃ n : Nat, n ≤ l.length ∧ i = .int .i64 n ∧ wr.ownsRow w1.heap.size 3 1 v ((l.take n).filter (upI m)).length (intsC ((l.take n).filter (upI m))) ∧ Below w1.heap.size w1 wr) (fun _ i _ => l.length - (intOf i).toNat)
  case atStart => exact ⟨0, Nat.zero_le _, rfl, World.ownsRow_nil _ _ _ _, Below.refl _ _⟩
  case round =>
    obtain ⟨n, hn, rfl, hown, hb⟩ := hrel
    by_cases hlt : n < l.length
    · have hnI : (n : Int) < (l.length : Int) := by omega
      have hmn := hmem l[n] (List.getElem_mem hlt)
      obtain ⟨p, hp2⟩ := Int.eq_ofNat_of_zero_le hmn.1
      have hp5 : p < 5 := by omega
      have hpI : (p : Int) < 5 := by omega
      have hMr := hH.later hb
      have cp := hMr.cell (1 + p * 3)
      rw [mapC_up m ⟨p, hp5⟩] at cp
      have hfl : ((l.take n).filter (upI m)).length ≤ 3 := Nat.le_trans (List.length_filter_le _ _) (by rw [List.length_take]; omega)
      have hstep : Hid _ := filter_step (p := upI m) hlt
      rw [hp2, upI_at m p hp5] at hstep
      cases ao with
      | none => have := hIx.nil rfl; omega
      | some ad =>
        have ci := (hIx.later hb).at' ad rfl n hlt
        rw [hp2] at ci
        clear hp2
        cases hu : (m.osd ⟨p, hp5⟩).up with
        | false =>
          rw [hu] at cp hstep
          have hown6 : wr.ownsRow w1.heap.size 3 1 u5 ((l.take (n + 1)).filter (upI m)).length (intsC ((l.take (n + 1)).filter (upI m))) := by
            have := hstep.out
            rw [this]
            simpa using hown
          go_wp2
          go_roundw
          case rel => exact ⟨n + 1, by omega, by go_num, hown6, hb⟩
          case measure => simp [intOf]; omega
        | true =>
          rw [hu] at cp hstep
          go_wp2_with (at_builtin; refine wpList_append_own _ rfl _ _ 22 rfl w1.heap.size 3 i0 (.int .i64 0) 1 8 Try.underlying22 hi hz0 hz1 hz2 rfl (by decide) _ ((l.take n).filter (upI m)).length _ rfl (hown.alloc _) ⟨wr.heap.size, 0, none⟩ 1 1 [.int .i64 p] rfl rfl (one_i64 _ _ _) (one_i641 _) (by unfold maxLen; omega) (by omega) (by have := hb.size; simp; omega) ?_)
          intro v' w5 hown5 hgrow _
          have hb5 : Below w1.heap.size w1 w5 := (hb.alloc hb.size _).grown hgrow (by have := hb.size; simp; omega) (fun k hk => (hown.lt k hk).1)
          have hown6 : w5.ownsRow w1.heap.size 3 1 v' ((l.take (n + 1)).filter (upI m)).length (intsC ((l.take (n + 1)).filter (upI m))) := by
            have := hstep.out
            simp only [if_true] at this
            rw [this]
            unfold intsC at hown5 ⊢
            rw [List.length_append, List.map_append]
            exact hown5
          clear hown hown5 hgrow
          go_wp2
          go_roundw
          case rel => exact ⟨n + 1, by omega, by go_num, hown6, hb5⟩
          case measure => simp [intOf]; omega
    · have e5 : n = l.length := by omega
      subst e5
      rw [List.take_length, ← hact.out] at hown
      have hfr := hown.lt
      obtain ⟨_, bo, d, rfl, hI2⟩ := ix_own hown
      have hfr2 : ∀ ad, bo = some ad → w.heap.size ≤ ad.block := fun ad had => by
        subst had
        have := (hfr ad.block rfl).1
        omega
      clear hfr
      go_wp2
      go_ret
      exact ⟨bo, d, rfl, hI2, hb1.trans (hb.mono hb1.size), hfr2⟩

theorem acting_any (m : MapV) (g : Nat) (w : World) (hm : MapOk m) (hg : g < 256) :
    Calls Try.prog 50 #[.agg (mapC m), .int .u8 g] w fun e w' => ∃ ao c, e = .returned (.slice ao (actM m g).length c) ∧ Ix w' ao c (actM m g) ∧ Below w.heap.size w w' :=
  (acting_fresh m g w hm hg).mono fun e w' ⟨ao, c, h1, h2, h3, _⟩ => ⟨ao, c, h1, h2, h3⟩

end Go.Proofs.Ytlbokkbngbpmiaa
