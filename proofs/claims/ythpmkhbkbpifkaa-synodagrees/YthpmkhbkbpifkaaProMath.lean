/- Proposers as mathematics: the document's Start, Promise, Accepted. -/
import Derived.Test.YthpmkhbkbpifkaaBalMath
namespace Go.Proofs.Ythpmkhbkbpifkaa
set_option linter.unusedSimpArgs false
set_option linter.unusedVariables false
open Go.RowKit

/-- What a proposer keeps. -/
structure ProV where
  who : Nat
  want : IncV
  b : BalV
  heard : Nat → Bool
  best : BalV
  bestX : IncV
  has : Bool
  value : IncV
  hasV : Bool
  accd : Nat → Bool
  told : Bool
  dec : IncV
  hasD : Bool

def none3 : Nat → Bool := fun _ => false
def setB (f : Nat → Bool) (j : Nat) : Nat → Bool := fun i => if i = j then true else f i
def cnt (f : Nat → Bool) : Nat := (if f 0 = true then 1 else 0) + (if f 1 = true then 1 else 0) + (if f 2 = true then 1 else 0)

theorem setB_at (f : Nat → Bool) (j : Nat) : setB f j j = true := if_pos rfl
theorem setB_ne (f : Nat → Bool) {i j : Nat} (h : i ≠ j) : setB f j i = f i := if_neg h
theorem setB_true {f : Nat → Bool} {i j : Nat} (h : setB f j i = true) : i = j ∨ f i = true := by
  by_cases e : i = j
  · exact .inl e
  · rw [setB_ne f e] at h
    exact .inr h

def newM (who : Nat) (x : IncV) : ProV := ⟨who, x, bal0, none3, bal0, inc0, false, inc0, false, none3, false, inc0, false⟩

def nextN (n : Nat) : Nat := if n < 4294967295 then n + 1 else n
def startM (p : ProV) (o : BalV) : ProV := ⟨p.who, p.want, ⟨nextN (max p.b.n o.n), p.who⟩, none3, bal0, inc0, false, inc0, false, none3, false, p.dec, p.hasD⟩

def takes (p : ProV) (acc : BalV) (h : Bool) : Bool := h && (!p.has || lessB p.best acc)
def hearM (p : ProV) (j : Nat) (acc : BalV) (x : IncV) (h : Bool) : ProV :=
  { p with heard := setB p.heard j, best := if takes p acc h = true then acc else p.best, bestX := if takes p acc h = true then x else p.bestX, has := p.has || h }
def chosenX (p : ProV) : IncV := if p.has = true then p.bestX else p.want
def deaf (p : ProV) (j : Nat) (b : BalV) : Bool := sameBal p.b bal0 || (!sameBal b p.b || (decide (3 ≤ j) || (p.heard j || p.hasV)))
def promM (p : ProV) (j : Nat) (b acc : BalV) (x : IncV) (h : Bool) : ProV × Bool :=
  if deaf p j b = true then (p, false)
  else if cnt (setB p.heard j) < 2 then (hearM p j acc x h, false)
  else ({ hearM p j acc x h with value := chosenX (hearM p j acc x h), hasV := true }, true)

def deafA (p : ProV) (j : Nat) (b : BalV) : Bool := sameBal p.b bal0 || (!sameBal b p.b || (decide (3 ≤ j) || (p.accd j || !p.hasV)))
def accdM (p : ProV) (j : Nat) (b : BalV) : ProV × Bool :=
  if deafA p j b = true then (p, false)
  else if cnt (setB p.accd j) < 2 ∨ p.told = true then ({ p with accd := setB p.accd j }, false)
  else ({ p with accd := setB p.accd j, told := true, dec := p.value, hasD := true }, true)

/-- Two of three. -/
theorem cnt_two {f : Nat → Bool} (h : 2 ≤ cnt f) : ∃ i j, i < 3 ∧ j < 3 ∧ i ≠ j ∧ f i = true ∧ f j = true := by
  unfold cnt at h
  cases h0 : f 0 <;> cases h1 : f 1 <;> cases h2 : f 2 <;> simp [h0, h1, h2] at h
  · exact ⟨1, 2, by decide, by decide, by decide, h1, h2⟩
  · exact ⟨0, 2, by decide, by decide, by decide, h0, h2⟩
  · exact ⟨0, 1, by decide, by decide, by decide, h0, h1⟩
  · exact ⟨0, 1, by decide, by decide, by decide, h0, h1⟩
theorem two_meet {i j k l : Nat} (hi : i < 3) (hj : j < 3) (hk : k < 3) (hl : l < 3) (h : i ≠ j) (h' : k ≠ l) : i = k ∨ i = l ∨ j = k ∨ j = l := by omega
end Go.Proofs.Ythpmkhbkbpifkaa
