/- The contract of straw.Best over this seat's program. -/
import Derived.Test.YtmfgmdglpeadbaaChecked
import Derived.Test.YtmfgmdglpeadbaaStrawMath
import Derived.WalkKit
import Derived.WalkSpells
import Derived.WalkLawsBesides
namespace Go.Proofs.Ytmfgmdglpeadbaa
open Go.RowKit
set_option linter.unusedVariables false

/-- What a slice of numbers of 64 bits reads as. -/
structure Is (w : World) (ao : Option Addr) (c : Nat) (xs : List Int) : Prop where
  le : xs.length ≤ c
  cap : c ≤ 9223372036854775807
  nil : ao = none → c = 0
  at' : ∀ ad, ao = some ad → ∀ (j : Nat) (h : j < xs.length), w.cell? (ad.add j) = some (.int .i64 xs[j])
  lo : ∀ x ∈ xs, -9223372036854775808 ≤ x ∧ x ≤ 9223372036854775807

theorem Is.later {w w' : World} {ao : Option Addr} {c : Nat} {xs : List Int} (h : Is w ao c xs) (hb : Below w.heap.size w w') : Is w' ao c xs := by
  refine ⟨h.le, h.cap, h.nil, fun ad had j hj => ?_, h.lo⟩
  have hc := h.at' ad had j hj
  have hlt := World.block_lt_of_cell? w _ hc
  rw [hb.cell hlt]
  exact hc

/-- k is the place of the greatest of the first n, the first of several; -1 of none. -/
def IsBest (xs : List Int) (n : Nat) (k : Int) : Prop :=
  (n = 0 ∧ k = -1) ∨ ∃ m : Nat, k = m ∧ m < n ∧ ∀ j : Nat, j < n → xs.getD j 0 ≤ xs.getD m 0 ∧ (j < m → xs.getD j 0 < xs.getD m 0)

theorem best_first {xs : List Int} (k : Int) (h : IsBest xs 0 k) : IsBest xs 1 0 := by
  refine .inr ⟨0, rfl, by omega, fun j hj => ?_⟩
  have : j = 0 := by omega
  subst this
  exact ⟨Int.le_refl _, fun h => absurd h (by omega)⟩

theorem best_more {xs : List Int} {n m : Nat} (h : IsBest xs n m) (hn : 0 < n) (hg : xs.getD m 0 < xs.getD n 0) : IsBest xs (n + 1) n := by
  rcases h with ⟨h, _⟩ | ⟨m', e, hm, h⟩
  · omega
  · have : m = m' := by omega
    subst this
    refine .inr ⟨n, rfl, by omega, fun j hj => ?_⟩
    by_cases e : j = n
    · subst e
      exact ⟨Int.le_refl _, fun h => absurd h (by omega)⟩
    · have := (h j (by omega)).1
      exact ⟨by omega, fun _ => by omega⟩

theorem best_less {xs : List Int} {n m : Nat} (h : IsBest xs n m) (hn : 0 < n) (hg : ¬ xs.getD m 0 < xs.getD n 0) : IsBest xs (n + 1) m := by
  rcases h with ⟨h, _⟩ | ⟨m', e, hm, h⟩
  · omega
  · have : m = m' := by omega
    subst this
    refine .inr ⟨m, rfl, by omega, fun j hj => ?_⟩
    by_cases e : j = n
    · subst e
      exact ⟨by omega, fun h => absurd h (by omega)⟩
    · exact h j (by omega)

set_option maxRecDepth 100000 in
set_option maxHeartbeats 1000000 in
theorem best_any (ao : Option Addr) (c : Nat) (xs : List Int) (w : World) (h : Is w ao c xs) :
    Calls Try.prog 54 #[.slice ao xs.length c] w fun e w' => ∃ k : Int, e = .returned (.int .i64 k) ∧ IsBest xs xs.length k ∧ w' = w := by
  have hle := h.le
  have hcap := h.cap
  go_enter Try.func54, Try.ntmps54
  go_wp2
  go_loop [3, 8] (fun b i => ∃ n : Nat, n ≤ xs.length ∧ i = .int .i64 n ∧ ∃ k : Int, b = .int .i64 k ∧ IsBest xs n k) (fun _ i => xs.length - (intOf i).toNat)
  case atStart => exact ⟨0, Nat.zero_le _, rfl, -1, rfl, .inl ⟨rfl, rfl⟩⟩
  case round =>
    obtain ⟨n, hn, rfl, k, rfl, hB⟩ := hrel
    by_cases hlt : n < xs.length
    · cases ao with
      | none => have := h.nil rfl; omega
      | some ad =>
        have hc := h.at' ad rfl n hlt
        by_cases h0 : n = 0
        · subst h0
          have hk : k = -1 := by
            rcases hB with ⟨_, h⟩ | ⟨m, _, hm, _⟩
            · exact h
            · omega
          subst hk
          have hB1 := best_first _ hB
          have hc0 : w.cell? ad = some (.int .i64 xs[0]) := by rw [show ad = ad.add 0 from rfl]; exact hc
          go_wp2
          go_round
          case rel => exact ⟨1, by omega, by go_num, 0, rfl, hB1⟩
          case measure => simp [intOf]; omega
        · obtain ⟨m, rfl, hm⟩ : ∃ m : Nat, k = m ∧ m < n := by
            rcases hB with ⟨h, _⟩ | ⟨m, e, hm, _⟩
            · omega
            · exact ⟨m, e, hm⟩
          have hc2 := h.at' ad rfl m (by omega)
          have e1 : xs.getD n 0 = xs[n] := by simp [List.getD, hlt]
          have e2 : xs.getD m 0 = xs[m] := by simp [List.getD, show m < xs.length by omega]
          by_cases hg : xs[m] < xs[n]
          · have hB1 := best_more hB (by omega) (by rw [e1, e2]; exact hg)
            clear e1 e2
            go_wp2
            go_round
            case rel => exact ⟨n + 1, by omega, by go_num, n, rfl, hB1⟩
            case measure => simp [intOf]; omega
          · have hB1 := best_less hB (by omega) (by rw [e1, e2]; exact hg)
            clear e1 e2
            go_wp2
            go_round
            case rel => exact ⟨n + 1, by omega, by go_num, m, rfl, hB1⟩
            case measure => simp [intOf]; omega
    · have : n = xs.length := by omega
      subst this
      go_wp2
      go_ret
      exact ⟨k, rfl, hB, rfl⟩
end Go.Proofs.Ytmfgmdglpeadbaa
