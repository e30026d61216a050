/- What picks hang on: weights and hosts alone; who is the first; who stays the first; of one daemon, of one host. -/
import Derived.Test.YtlbokkbngbpmiaaPlaceFacts
import Derived.Test.YtlbokkbngbpmiaaPackMaps
namespace Go.Proofs.Ytlbokkbngbpmiaa
set_option linter.unusedSimpArgs false
set_option linter.unusedVariables false

theorem wtI_congr {m n : MapV} (h : ∀ i, (m.osd i).wt = (n.osd i).wt) : wtI m = wtI n := by
  funext k
  unfold wtI
  split
  · exact h _
  · rfl

theorem hostI_congr {m n : MapV} (h : ∀ i, (m.osd i).host = (n.osd i).host) : hostI m = hostI n := by
  funext k
  unfold hostI
  split
  · exact h _
  · rfl

theorem bestM_congr {m n : MapV} (h : wtI m = wtI n) (g : Nat) (q : Int) : bestM m g q = bestM n g q := by
  refine top_one (bestM_top m g q) ?_
  have := bestM_top n g q
  unfold TopTo at this ⊢
  rw [h]
  exact this

theorem freeB_congr {m n : MapV} (h : hostI m = hostI n) (out : List Int) (b : Int) : freeB m out b = freeB n out b := by
  unfold freeB
  congr 1
  funext k
  unfold apartB
  rw [h]

theorem tryN_congr {m n : MapV} (h : wtI m = wtI n) (h' : hostI m = hostI n) (g r : Nat) (out : List Int) (k : Nat) : tryN m g r out k = tryN n g r out k := by
  induction k with
  | zero => rfl
  | succ k ih =>
    unfold tryN
    rw [bestM_congr h, freeB_congr h', ih]

theorem pickTo_congr {m n : MapV} (h : wtI m = wtI n) (h' : hostI m = hostI n) (g r : Nat) : pickTo m g r = pickTo n g r := by
  induction r with
  | zero => rfl
  | succ r ih =>
    show tryN m g r (pickTo m g r) 20 = tryN n g r (pickTo n g r) 20
    rw [ih, tryN_congr h h']

theorem pickM_congr {m n : MapV} (h : wtI m = wtI n) (h' : hostI m = hostI n) (hi : isM m = isM n) (g : Nat) : pickM m g = pickM n g := by
  unfold pickM
  rw [hi, pickTo_congr h h']

theorem moved_none {m n : MapV} (h : ∀ g, pickM m g = pickM n g) (k : Nat) : movedTo m n k = 0 := by
  induction k with
  | zero => rfl
  | succ k ih =>
    show movedTo m n k + (if pickM m k = pickM n k then 0 else 1) = 0
    rw [ih, if_pos (h k)]

theorem moved_turned (m n : MapV) (k : Nat) : movedTo m n k = movedTo n m k := by
  induction k with
  | zero => rfl
  | succ k ih =>
    show movedTo m n k + (if pickM m k = pickM n k then 0 else 1) = movedTo n m k + (if pickM n k = pickM m k then 0 else 1)
    rw [ih]
    by_cases h : pickM m k = pickM n k
    · rw [if_pos h, if_pos h.symm]
    · rw [if_neg h, if_neg (fun e => h e.symm)]

theorem best_none {m : MapV} {g : Nat} {q q' : Int} (h : ¬ 0 ≤ bestM m g q) : bestM m g q' = -1 := by
  rcases bestM_top m g q with ⟨h0, _⟩ | ⟨i, _, hb, _⟩
  · exact top_one (bestM_top m g q') (.inl ⟨h0, rfl⟩)
  · omega

theorem best_some {m : MapV} {g : Nat} {q : Int} {i : Nat} (hi : i < 5) (h : 1 ≤ wtI m i) : 0 ≤ bestM m g q := by
  rcases bestM_top m g q with ⟨h0, _⟩ | ⟨i, _, hb, _⟩
  · have := h0 i hi; omega
  · omega

theorem tryI_none {m : MapV} {g r : Nat} {out : List Int} (h : ∀ q, 0 ≤ bestM m g q → freeB m out (bestM m g q) = false) (k : Nat) : tryI m g r out k = -1 := by
  induction k with
  | zero => rfl
  | succ k ih =>
    unfold tryI
    rw [if_neg (fun hc => by have := h _ hc.1; rw [this] at hc; cases hc.2)]
    exact ih

theorem pickTo_stop {m : MapV} {g r : Nat} (h : ∀ q, 0 ≤ bestM m g q → freeB m (pickTo m g r) (bestM m g q) = false) : pickTo m g (r + 1) = pickTo m g r :=
  pickTo_no (by rw [tryI_none h]; omega)

theorem pickTo_one {m : MapV} {g : Nat} (h : 0 ≤ bestM m g 0) : pickTo m g 1 = [bestM m g 0] := by
  have h1 := @tryI_yes m g 0 [] 0 (by decide) h rfl
  have h2 : tryI m g 0 (pickTo m g 0) 20 = bestM m g 0 := h1
  rw [pickTo_yes (by rw [h2]; exact h), h2]
  rfl

theorem pickTo_more (m : MapV) (g r : Nat) : ∃ l, pickTo m g (r + 1) = pickTo m g r ++ l := by
  by_cases h : 0 ≤ tryI m g r (pickTo m g r) 20
  · exact ⟨_, pickTo_yes h⟩
  · exact ⟨[], by rw [pickTo_no h, List.append_nil]⟩

theorem pick_head {m : MapV} {g : Nat} (hi : isM m = true) (hg : g < 4) (h : 0 ≤ bestM m g 0) : ∃ l, pickM m g = bestM m g 0 :: l := by
  obtain ⟨l, hl⟩ := pickTo_more m g 1
  obtain ⟨l', hl'⟩ := pickTo_more m g 2
  refine ⟨l ++ l', ?_⟩
  unfold pickM
  rw [if_pos ⟨hi, hg⟩, hl', hl, pickTo_one h]
  rfl

theorem pick_none {m : MapV} {g : Nat} (h : ¬ 0 ≤ bestM m g 0) : pickM m g = [] := by
  have hq : ∀ out q, 0 ≤ bestM m g q → freeB m out (bestM m g q) = false := fun out q hq => by rw [best_none h] at hq; omega
  have h0 : pickTo m g 0 = [] := rfl
  have h3 : pickTo m g 3 = [] := by rw [pickTo_stop (hq _), pickTo_stop (hq _), pickTo_stop (hq _)]; rfl
  unfold pickM
  split
  · exact h3
  · rfl

theorem pick_one {m : MapV} {g : Nat} (hi : isM m = true) (hg : g < 4) (h : 0 ≤ bestM m g 0) (h1 : ∀ q, 0 ≤ bestM m g q → freeB m [bestM m g 0] (bestM m g q) = false) : pickM m g = [bestM m g 0] := by
  have e1 := pickTo_one h
  have e2 : pickTo m g 2 = [bestM m g 0] := by rw [pickTo_stop (r := 1) (by rw [e1]; exact h1), e1]
  have e3 : pickTo m g 3 = [bestM m g 0] := by rw [pickTo_stop (r := 2) (by rw [e2]; exact h1), e2]
  unfold pickM
  rw [if_pos ⟨hi, hg⟩, e3]

theorem pick_cons {m : MapV} {g : Nat} {x : Int} {l : List Int} (h : pickM m g = x :: l) : isM m = true ∧ g < 4 ∧ 0 ≤ bestM m g 0 ∧ x = bestM m g 0 := by
  by_cases hc : isM m = true ∧ g < 4
  · by_cases h0 : 0 ≤ bestM m g 0
    · obtain ⟨l', hl⟩ := pick_head hc.1 hc.2 h0
      rw [hl] at h
      exact ⟨hc.1, hc.2, h0, (List.cons.inj h).1.symm⟩
    · rw [pick_none h0] at h
      cases h
  · unfold pickM at h
    rw [if_neg hc] at h
    cases h

theorem draw_mono (g : Nat) (o t : Int) {a b : Int} (ha : 1 ≤ a) (hab : a ≤ b) (hb : b ≤ 16) : drawI g o t a ≤ drawI g o t b := strawI_mono _ ha hab hb

/-- Who is the best without k being so is the best where k weighs less. -/
theorem top_less {m n : MapV} {g : Nat} {q : Int} {k i : Nat} (hs : ∀ j : Nat, j < 5 → j ≠ k → wtI n j = wtI m j) (hk : wtI m k ≤ wtI n k) (h16 : wtI n k ≤ 16) (hik : i ≠ k) (h : TopTo n g q 5 i) : TopTo m g q 5 i := by
  rcases h with ⟨_, h⟩ | ⟨i', hi, e, h1, hall⟩
  · omega
  · have e' : i = i' := by omega
    subst e'
    have hsi := hs i hi hik
    refine .inr ⟨i, hi, rfl, by rw [← hsi]; exact h1, fun j hj hw => ?_⟩
    by_cases e : j = k
    · subst e
      have := hall j hj (by omega)
      have hm := draw_mono g j q hw hk h16
      rw [← hsi]
      exact ⟨by omega, fun hji => by have := this.2 hji; omega⟩
    · have hsj := hs j hj e
      have := hall j hj (by rw [hsj]; exact hw)
      rw [← hsi, ← hsj]
      exact this

/-- Who is the best stays so where it weighs more. -/
theorem top_grows {m n : MapV} {g : Nat} {q : Int} {k : Nat} (hs : ∀ j : Nat, j < 5 → j ≠ k → wtI n j = wtI m j) (hk : wtI m k ≤ wtI n k) (h16 : wtI n k ≤ 16) (h : TopTo m g q 5 k) : TopTo n g q 5 k := by
  rcases h with ⟨_, h⟩ | ⟨k', hi, e, h1, hall⟩
  · omega
  · have e' : k = k' := by omega
    subst e'
    refine .inr ⟨k, hi, rfl, by omega, fun j hj hw => ?_⟩
    have hm := draw_mono g k q h1 hk h16
    by_cases e : j = k
    · subst e
      exact ⟨Int.le_refl _, fun h => absurd h (by omega)⟩
    · have hsj := hs j hj e
      rw [hsj] at hw ⊢
      have := hall j hj hw
      exact ⟨by omega, fun h => by have := this.2 h; omega⟩

theorem stays_less {m n : MapV} {g : Nat} {q : Int} {k : Nat} (hs : ∀ j : Nat, j < 5 → j ≠ k → wtI n j = wtI m j) (hk : wtI m k ≤ wtI n k) (h16 : wtI n k ≤ 16) (h0 : 0 ≤ bestM n g q) (hne : bestM n g q ≠ k) : bestM m g q = bestM n g q := by
  obtain ⟨i, hi⟩ := Int.eq_ofNat_of_zero_le h0
  have ht := bestM_top n g q
  rw [hi] at ht hne ⊢
  exact top_one (bestM_top m g q) (top_less hs hk h16 (fun e => hne (by rw [e])) ht)

theorem stays_grows {m n : MapV} {g : Nat} {q : Int} {k : Nat} (hs : ∀ j : Nat, j < 5 → j ≠ k → wtI n j = wtI m j) (hk : wtI m k ≤ wtI n k) (h16 : wtI n k ≤ 16) (h : bestM m g q = k) : bestM n g q = k := by
  have ht := bestM_top m g q
  rw [h] at ht
  exact top_one (bestM_top n g q) (top_grows hs hk h16 ht)

theorem wtI_put (m : MapV) (i : Fin 5) (o : OsdV) : wtI (m.put i o) i.val = o.wt := by
  rw [wtI_at _ i.val i.isLt]
  show ((m.put i o).osd i).wt = _
  rw [MapV.put_at]

theorem put_other (m : MapV) (i j : Fin 5) (o : OsdV) (h : j ≠ i) : (m.put i o).osd j = m.osd j := by simp [MapV.put, h]

theorem wtI_put_other (m : MapV) (i : Fin 5) (o : OsdV) (j : Nat) (hj : j < 5) (h : j ≠ i.val) : wtI (m.put i o) j = wtI m j := by
  rw [wtI_at _ j hj, wtI_at _ j hj, put_other _ _ _ _ (fun e => h (by rw [← e]))]

theorem isM_put {m : MapV} {i : Fin 5} {o : OsdV} (h : isM m = true) (ho : osdOk o = true) : isM (m.put i o) = true := by
  rw [isM_is] at h ⊢
  refine ⟨h.1, fun j => ?_⟩
  by_cases e : j = i
  · subst e; rw [MapV.put_at]; exact ho
  · rw [put_other _ _ _ _ e]; exact h.2 j

theorem ok_put {m : MapV} {i : Fin 5} {o : OsdV} (h : MapOk m) (hw : -9223372036854775808 ≤ o.wt ∧ o.wt ≤ 9223372036854775807) (ho : o.host < 256) : MapOk (m.put i o) := by
  refine ⟨h.epoch, fun j => ?_, fun j => ?_⟩
  · by_cases e : j = i
    · subst e; rw [MapV.put_at]; exact hw
    · rw [put_other _ _ _ _ e]; exact h.wt j
  · by_cases e : j = i
    · subst e; rw [MapV.put_at]; exact ho
    · rw [put_other _ _ _ _ e]; exact h.host j

theorem wt_of_is {m : MapV} (h : isM m = true) (j : Nat) (hj : j < 5) : 0 ≤ wtI m j ∧ wtI m j ≤ 16 := by
  rw [wtI_at m j hj]
  have := (osdOk_is _).1 (((isM_is m).1 h).2 ⟨j, hj⟩)
  exact ⟨this.1, this.2.1⟩
end Go.Proofs.Ytlbokkbngbpmiaa
