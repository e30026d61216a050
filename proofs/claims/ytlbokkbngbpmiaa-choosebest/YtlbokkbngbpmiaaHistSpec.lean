/- What package history has to answer, as one bundle over whatever a history is in memory ('Is w p xs F': at block p lies a history of the increments xs, in the blocks F). -/
import Derived.Test.YtlbokkbngbpmiaaHistMath
import Derived.Test.YtlbokkbngbpmiaaOff
import Derived.Test.YtlbokkbngbpmiaaPackMaps
namespace Go.Proofs.Ytlbokkbngbpmiaa
set_option linter.unusedSimpArgs false
set_option linter.unusedVariables false
open Go.RowKit

def ptr (p : Nat) : Value := .pointer (some ⟨p, 0, none⟩)

/-- What Map, what Inc tell of an epoch. -/
def mapE (xs : List IncV) (e : Nat) : MapV × Bool := if 1 ≤ e ∧ e ≤ xs.length + 1 then (mapH xs (e - 1), true) else (zeroM, false)
def incE (xs : List IncV) (e : Nat) : IncV × Bool := if h : 2 ≤ e ∧ e ≤ xs.length + 1 then (xs[e - 2]'(by omega), true) else (⟨0, 0, 0⟩, false)

theorem mapE_yes {xs : List IncV} {e : Nat} (h : 1 ≤ e ∧ e ≤ xs.length + 1) : mapE xs e = (mapH xs (e - 1), true) := if_pos h
theorem mapE_no {xs : List IncV} {e : Nat} (h : ¬ (1 ≤ e ∧ e ≤ xs.length + 1)) : mapE xs e = (zeroM, false) := if_neg h
theorem incE_no {xs : List IncV} {e : Nat} (h : ¬ (2 ≤ e ∧ e ≤ xs.length + 1)) : incE xs e = (⟨0, 0, 0⟩, false) := dif_neg h
theorem incE_yes {xs : List IncV} {k : Nat} (h : k < xs.length) : incE xs (k + 2) = (xs[k], true) := by
  unfold incE
  rw [dif_pos ⟨by omega, by omega⟩]
  rfl

structure HistSpec (Is : World → Nat → List IncV → (Nat → Prop) → Prop) : Prop where
  lt : ∀ {w p xs F}, Is w p xs F → ∀ b, F b → b < w.heap.size
  good : ∀ {w p xs F}, Is w p xs F → Good xs
  kept : ∀ {w w' p xs F}, Is w p xs F → (∀ b, F b → w'.heap[b]? = w.heap[b]?) → Is w' p xs F
  new : ∀ w, Calls Try.prog 25 #[] w fun e w' => ∃ p F, e = .returned (ptr p) ∧ Is w' p [] F ∧ (∀ b, F b → w.heap.size ≤ b) ∧ Below w.heap.size w w'
  add : ∀ {w p xs F} (e : Nat) (x : IncV), Is w p xs F → e < 4294967296 → IncOk x → Calls Try.prog 27 #[ptr p, .int .u32 e, .agg (incC x)] w fun en w' =>
    en = .returned (.int .i64 (addH xs e x).1) ∧ (∃ F', Is w' p (addH xs e x).2 F' ∧ ∀ b, F' b → F b ∨ w.heap.size ≤ b) ∧ Off F w w'
  last : ∀ {w p xs F}, Is w p xs F → Calls Try.prog 28 #[ptr p] w fun en w' => en = .returned (.int .u32 (xs.length + 1 : Nat)) ∧ Below w.heap.size w w'
  acting : ∀ {w p xs F} (g : Nat), Is w p xs F → g < 256 → Calls Try.prog 26 #[ptr p, .int .u8 g] w fun en w' => ∃ ao c, en = .returned (.slice ao (nowH xs g).length c) ∧ Ix w' ao c (nowH xs g) ∧ Below w.heap.size w w' ∧ ∀ ad, ao = some ad → w.heap.size ≤ ad.block
  since : ∀ {w p xs F} (g : Nat), Is w p xs F → g < 256 → Calls Try.prog 29 #[ptr p, .int .u8 g] w fun en w' => en = .returned (.int .u32 (sinceH xs g : Nat)) ∧ Below w.heap.size w w'
  intervals : ∀ {w p xs F} (g : Nat), Is w p xs F → g < 256 → Calls Try.prog 37 #[ptr p, .int .u8 g] w fun en w' => ∃ ao c, en = .returned (.slice ao (ivals xs g).length c) ∧ Iv w' ao c (ivals xs g) ∧ Below w.heap.size w w'

section
variable {Is : World → Nat → List IncV → (Nat → Prop) → Prop} (S : HistSpec Is)

theorem HistSpec.later {w w' : World} {p : Nat} {xs : List IncV} {F : Nat → Prop} (S : HistSpec Is) (h : Is w p xs F) (hb : Below w.heap.size w w') : Is w' p xs F :=
  S.kept h fun b hF => hb.block b (S.lt h b hF)

theorem HistSpec.off {w w' : World} {p : Nat} {xs : List IncV} {F G : Nat → Prop} (S : HistSpec Is) (h : Is w p xs F) (hb : Off G w w') (hn : ∀ b, F b → ¬ G b) : Is w' p xs F :=
  S.kept h fun b hF => hb.block b (S.lt h b hF) (hn b hF)

theorem HistSpec.drewN {w : World} {p : Nat} {xs : List IncV} {F : Nat → Prop} (S : HistSpec Is) (h : Is w p xs F) (n : Nat) : Is (w.drewN n) p xs F := S.kept h fun b hF => rfl
end
end Go.Proofs.Ytlbokkbngbpmiaa
