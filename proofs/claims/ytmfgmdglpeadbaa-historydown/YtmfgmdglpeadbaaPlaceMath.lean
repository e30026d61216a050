/- A group's daemons as mathematics: the best of a draw, who is free, tries, picks. -/
import Derived.Test.YtmfgmdglpeadbaaMapMath
import Derived.Test.YtmfgmdglpeadbaaStraws
namespace Go.Proofs.Ytmfgmdglpeadbaa
set_option linter.unusedSimpArgs false
set_option linter.unusedVariables false

/-- The best of the first n daemons in a draw, and its straw. -/
def bestTo (m : MapV) (g : Nat) (q : Int) : Nat → Int × Int
  | 0 => (-1, 0)
  | n + 1 => if h : n < 5 then (if (m.osd ⟨n, h⟩).wt < 1 then bestTo m g q n else if (bestTo m g q n).1 < 0 ∨ (bestTo m g q n).2 < drawI g n q (m.osd ⟨n, h⟩).wt then ((n : Int), drawI g n q (m.osd ⟨n, h⟩).wt) else bestTo m g q n) else bestTo m g q n

theorem bestTo_light {m : MapV} {g : Nat} {q : Int} {n : Nat} (h : n < 5) (hw : (m.osd ⟨n, h⟩).wt < 1) : bestTo m g q (n + 1) = bestTo m g q n := by
  show (if h : n < 5 then _ else _) = _
  rw [dif_pos h, if_pos hw]

theorem bestTo_new {m : MapV} {g : Nat} {q : Int} {n : Nat} (h : n < 5) (hw : ¬ (m.osd ⟨n, h⟩).wt < 1) (hb : (bestTo m g q n).1 < 0 ∨ (bestTo m g q n).2 < drawI g n q (m.osd ⟨n, h⟩).wt) : bestTo m g q (n + 1) = ((n : Int), drawI g n q (m.osd ⟨n, h⟩).wt) := by
  show (if h : n < 5 then _ else _) = _
  rw [dif_pos h, if_neg hw, if_pos hb]

theorem bestTo_old {m : MapV} {g : Nat} {q : Int} {n : Nat} (h : n < 5) (hw : ¬ (m.osd ⟨n, h⟩).wt < 1) (hb : ¬ ((bestTo m g q n).1 < 0 ∨ (bestTo m g q n).2 < drawI g n q (m.osd ⟨n, h⟩).wt)) : bestTo m g q (n + 1) = bestTo m g q n := by
  show (if h : n < 5 then _ else _) = _
  rw [dif_pos h, if_neg hw, if_neg hb]

theorem bestTo_bd (m : MapV) (g : Nat) (q : Int) (n : Nat) : -1 ≤ (bestTo m g q n).1 ∧ (bestTo m g q n).1 < 5 := by
  induction n with
  | zero => exact ⟨by show (-1 : Int) ≤ -1; omega, by show (-1 : Int) < 5; omega⟩
  | succ n ih =>
    by_cases h : n < 5
    · by_cases hw : (m.osd ⟨n, h⟩).wt < 1
      · rw [bestTo_light h hw]; exact ih
      · by_cases hb : (bestTo m g q n).1 < 0 ∨ (bestTo m g q n).2 < drawI g n q (m.osd ⟨n, h⟩).wt
        · rw [bestTo_new h hw hb]; exact ⟨by show (-1 : Int) ≤ n; omega, by show (n : Int) < 5; omega⟩
        · rw [bestTo_old h hw hb]; exact ih
    · show -1 ≤ (if h : n < 5 then _ else bestTo m g q n : Int × Int).1 ∧ (if h : n < 5 then _ else bestTo m g q n : Int × Int).1 < 5
      rw [dif_neg h]
      exact ih

def bestM (m : MapV) (g : Nat) (q : Int) : Int := (bestTo m g q 5).1

/-- The host of a daemon. -/
def hostI (m : MapV) (k : Int) : Nat := if h : k.toNat < 5 then (m.osd ⟨k.toNat, h⟩).host else 0

theorem hostI_at (m : MapV) (n : Nat) (h : n < 5) : hostI m (n : Int) = (m.osd ⟨n, h⟩).host := by
  unfold hostI
  have : (n : Int).toNat = n := rfl
  rw [dif_pos (by rw [this]; exact h)]
  rfl

/-- Whether a daemon and a picked one may be in one group. -/
def apartB (m : MapV) (b k : Int) : Bool := (k != b) && (hostI m k != hostI m b)

def freeB (m : MapV) (out : List Int) (b : Int) : Bool := out.all (apartB m b)

/-- What comes of so many tries that are left. -/
def tryN (m : MapV) (g r : Nat) (out : List Int) : Nat → List Int
  | 0 => out
  | k + 1 => if 0 ≤ bestM m g (r + (20 - (k + 1) : Nat) * 3) ∧ freeB m out (bestM m g (r + (20 - (k + 1) : Nat) * 3)) = true then out ++ [bestM m g (r + (20 - (k + 1) : Nat) * 3)] else tryN m g r out k

/-- The picks of the first r places. -/
def pickTo (m : MapV) (g : Nat) : Nat → List Int
  | 0 => []
  | r + 1 => tryN m g r (pickTo m g r) 20

def pickM (m : MapV) (g : Nat) : List Int := if isM m = true ∧ g < 4 then pickTo m g 3 else []

theorem tryN_yes {m : MapV} {g r : Nat} {out : List Int} {t : Nat} (ht : t < 20) (h0 : 0 ≤ bestM m g (r + t * 3)) (hf : freeB m out (bestM m g (r + t * 3)) = true) : tryN m g r out (20 - t) = out ++ [bestM m g (r + t * 3)] := by
  obtain ⟨k, rfl, hk⟩ : ∃ k, t = 20 - (k + 1) ∧ k + 1 ≤ 20 := ⟨19 - t, by omega, by omega⟩
  rw [show 20 - (20 - (k + 1)) = k + 1 by omega]
  exact if_pos ⟨h0, hf⟩

theorem tryN_no {m : MapV} {g r : Nat} {out : List Int} {t : Nat} (ht : t < 20) (h : ¬ (0 ≤ bestM m g (r + t * 3) ∧ freeB m out (bestM m g (r + t * 3)) = true)) : tryN m g r out (20 - t) = tryN m g r out (20 - (t + 1)) := by
  obtain ⟨k, rfl, hk⟩ : ∃ k, t = 20 - (k + 1) ∧ k + 1 ≤ 20 := ⟨19 - t, by omega, by omega⟩
  rw [show 20 - (20 - (k + 1)) = k + 1 by omega, show 20 - (20 - (k + 1) + 1) = k by omega]
  exact if_neg h

theorem tryN_mem {m : MapV} {g r : Nat} {out : List Int} (hout : ∀ x ∈ out, 0 ≤ x ∧ x < 5) (k : Nat) : (∀ x ∈ tryN m g r out k, 0 ≤ x ∧ x < 5) ∧ (tryN m g r out k).length ≤ out.length + 1 := by
  induction k with
  | zero => exact ⟨hout, Nat.le_succ _⟩
  | succ k ih =>
    unfold tryN
    split
    · rename_i h
      refine ⟨fun x hx => ?_, by simp⟩
      rcases List.mem_append.1 hx with hx | hx
      · exact hout x hx
      · rw [List.mem_singleton.1 hx]
        exact ⟨h.1, (bestTo_bd _ _ _ _).2⟩
    · exact ih

theorem pickTo_mem (m : MapV) (g r : Nat) : (∀ x ∈ pickTo m g r, 0 ≤ x ∧ x < 5) ∧ (pickTo m g r).length ≤ r := by
  induction r with
  | zero => exact ⟨fun x hx => (List.not_mem_nil hx).elim, Nat.le_refl _⟩
  | succ r ih =>
    have := tryN_mem (m := m) (g := g) (r := r) ih.1 20
    exact ⟨this.1, by have h := this.2; have := ih.2; show (tryN m g r (pickTo m g r) 20).length ≤ _; omega⟩
/-- Whether a daemon is up. -/
def upI (m : MapV) (k : Int) : Bool := if h : k.toNat < 5 then (m.osd ⟨k.toNat, h⟩).up else false

theorem upI_at (m : MapV) (n : Nat) (h : n < 5) : upI m (n : Int) = (m.osd ⟨n, h⟩).up := by
  unfold upI
  have : (n : Int).toNat = n := rfl
  rw [dif_pos (by rw [this]; exact h)]
  rfl

def actM (m : MapV) (g : Nat) : List Int := (pickM m g).filter (upI m)

theorem pickM_mem (m : MapV) (g : Nat) : (∀ x ∈ pickM m g, 0 ≤ x ∧ x < 5) ∧ (pickM m g).length ≤ 3 := by
  unfold pickM
  split
  · exact pickTo_mem m g 3
  · exact ⟨fun x hx => (List.not_mem_nil hx).elim, by simp⟩

def primM (m : MapV) (g : Nat) : Int := match actM m g with | [] => -1 | x :: _ => x

/-- Of how many of the first groups the picks are unlike. -/
def movedTo (m n : MapV) : Nat → Nat
  | 0 => 0
  | g + 1 => movedTo m n g + (if pickM m g = pickM n g then 0 else 1)
end Go.Proofs.Ytmfgmdglpeadbaa
