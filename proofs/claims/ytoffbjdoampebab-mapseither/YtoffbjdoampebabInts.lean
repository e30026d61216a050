/- The contract of paddocklaw3.ints, and what a slice of int reads as. -/
import Derived.Test.YtoffbjdoampebabMapMem
import Derived.Deep.QuietTactic
import Derived.BigQuiet
namespace Go.Proofs.Ytoffbjdoampebab
set_option linter.unusedSimpArgs false
set_option linter.unusedVariables false
open Go.RowKit

/-- What a slice of int reads as. -/
structure Ix (w : World) (ao : Option Addr) (c : Nat) (xs : List Int) : Prop where
  le : xs.length ≤ c
  cap : c ≤ 9223372036854775807
  nil : ao = none → c = 0
  at' : ∀ ad, ao = some ad → ∀ (j : Nat) (h : j < xs.length), w.cell? (ad.add j) = some (.int .i64 xs[j])

theorem Ix.later {w w' : World} {ao : Option Addr} {c : Nat} {xs : List Int} (h : Ix w ao c xs) (hb : Below w.heap.size w w') : Ix w' ao c xs := by
  refine ⟨h.le, h.cap, h.nil, fun ad had j hj => ?_⟩
  have hc := h.at' ad had j hj
  have hlt := World.block_lt_of_cell? w _ hc
  rw [hb.cell hlt]
  exact hc

theorem Ix.drewN {w : World} {ao : Option Addr} {c : Nat} {xs : List Int} (h : Ix w ao c xs) (n : Nat) : Ix (w.drewN n) ao c xs := ⟨h.le, h.cap, h.nil, h.at'⟩

theorem Ix.nothing (w : World) : Ix w none 0 [] := ⟨Nat.le_refl _, by decide, fun _ => rfl, fun _ h => by cases h⟩

theorem eq_of_take {xs ys : List Int} (h : xs.length = ys.length) (hn : ∀ n : Nat, n < xs.length → xs.getD n 0 = ys.getD n 0) : xs = ys := by
  apply List.ext_getElem? 
  intro i
  by_cases hi : i < xs.length
  · have := hn i hi
    simp [List.getD, hi, show i < ys.length by omega] at this
    rw [List.getElem?_eq_getElem hi, List.getElem?_eq_getElem (by omega), this]
  · rw [List.getElem?_eq_none (by omega), List.getElem?_eq_none (by omega)]

end Go.Proofs.Ytoffbjdoampebab
