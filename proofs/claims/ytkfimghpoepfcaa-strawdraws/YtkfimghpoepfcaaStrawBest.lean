/- paddocklaw2.StrawBest returns true, whatever the straws; nothing that was there is written. -/
import Derived.Test.YtkfimghpoepfcaaStrawKnown
import Derived.Test.YtkfimghpoepfcaaArgs
import Derived.Deep.QuietTactic
import Derived.BigQuiet
namespace Go.Proofs.Ytkfimghpoepfcaa
open Go.RowKit
set_option linter.unusedVariables false

theorem is_of_row {w : World} {a : Option Addr} {len cap : Nat} {zs : List Int} (h : IsRow .i64 w a len cap zs) : ∃ xs : List Int, xs.length = len ∧ Is w a cap xs := by
  rcases h with ⟨rfl, rfl, rfl, rfl⟩ | ⟨x, rfl, hl, hm, hz, hc, hw⟩
  · exact ⟨[], rfl, Nat.le_refl _, by decide, fun _ => rfl, (fun _ h => by cases h), (fun _ h => by cases h)⟩
  · refine ⟨zs.take len, by rw [List.length_take]; omega, by rw [List.length_take]; omega, hm, (fun h => by cases h), fun ad had j hj => ?_, fun z hz' => ?_⟩
    · obtain rfl := Option.some.inj had
      have hj2 : j < zs.length := by rw [List.length_take] at hj; omega
      rw [hc j hj2]
      simp [List.getD, hj2]
    · exact bounds_i64 (hw z (List.mem_of_mem_take hz'))

theorem below_drewN {b : Nat} {w w' : World} (h : Below b w w') (n : Nat) : Below b w (w'.drewN n) := by
  exact ⟨h.os, h.tape, h.output, h.size, h.block⟩

theorem is_drewN {w : World} {ao : Option Addr} {c : Nat} {xs : List Int} (h : Is w ao c xs) (n : Nat) : Is (w.drewN n) ao c xs :=
  h.later (below_drewN (Below.refl _ _) n)

set_option maxRecDepth 100000 in
set_option maxHeartbeats 2000000 in
theorem best_walk (ao : Option Addr) (c : Nat) (xs : List Int) (w : World) (h : Is w ao c xs) :
    Calls Try.prog 6 #[.slice ao xs.length c] w fun e w' => e = .returned (.bool true) ∧ Below w.heap.size w w' := by
  have hle := h.le
  have hcap := h.cap
  by_cases h60 : 60 < xs.length
  · go_enter Try.func6, Try.ntmps6
    go_wp2_with (go_at_call 9; refine (known_any _).mono ?_; rintro e w1 ⟨rfl, hb1⟩)
    go_ret
    exact ⟨rfl, hb1⟩
  · by_cases h0 : xs.length = 0
    · obtain rfl := List.eq_nil_of_length_eq_zero h0
      clear h0 h60 hle
      go_enter Try.func6, Try.ntmps6
      go_wp2_with (go_at_call 9; refine (known_any _).mono ?_; rintro e w1 ⟨rfl, hb1⟩)
      refine (best_any ao c [] _ (h.later hb1)).mono ?_
      rintro e w2 ⟨k, rfl, hB, rfl⟩
      have hk : k = -1 := by
        rcases hB with ⟨_, h⟩ | ⟨m, _, hm, _⟩
        · exact h
        · exact absurd hm (by simp)
      subst hk
      go_wp2
      go_ret
      exact ⟨rfl, hb1⟩
    · have h0' : ((xs.length : Int) == 0) = false := by rw [beq_eq_false_iff_ne]; omega
      cases ao with
      | none => have := h.nil rfl; omega
      | some ad =>
        go_enter Try.func6, Try.ntmps6
        go_wp2_with (go_at_call 9; refine (known_any _).mono ?_; rintro e w1 ⟨rfl, hb1⟩)
        refine (best_any (some ad) c xs _ (h.later hb1)).mono ?_
        rintro e w2 ⟨k, rfl, hB, rfl⟩
        obtain ⟨m, rfl, hm, hB⟩ : ∃ m : Nat, k = m ∧ m < xs.length ∧ ∀ j : Nat, j < xs.length → xs.getD j 0 ≤ xs.getD m 0 ∧ (j < m → xs.getD j 0 < xs.getD m 0) := by
          rcases hB with ⟨h, _⟩ | h
          · exact absurd h h0
          · exact h
        clear h60 h0 h0'
        go_wp2
        go_loopw [4] (fun i wr => ∃ n : Nat, n ≤ xs.length ∧ i = .int .i64 n ∧ Is wr (some ad) c xs ∧ Below w.heap.size w wr) (fun i _ => xs.length - (intOf i).toNat)
        case atStart => exact ⟨0, Nat.zero_le _, rfl, h.later hb1, hb1⟩
        case round =>
          obtain ⟨n, hn, rfl, hI, hbr⟩ := hrel
          by_cases hlt : n < xs.length
          · have hc1 := hI.at' ad rfl n hlt
            have hc2 := hI.at' ad rfl m hm
            have e1 : xs.getD n 0 = xs[n] := by simp [List.getD, hlt]
            have e2 : xs.getD m 0 = xs[m] := by simp [List.getD, hm]
            have hBn := hB n hlt
            rw [e1, e2] at hBn
            have d1 : decide (xs[m] < xs[n]) = false := by rw [decide_eq_false_iff_not]; omega
            have i1 : (n : Int) < (xs.length : Int) := by omega
            have i2 : (m : Int) < (xs.length : Int) := by omega
            clear e1 e2
            by_cases hnm : (n : Int) < (m : Int)
            · have d3 : (xs[n] == xs[m]) = false := by rw [beq_eq_false_iff_ne]; have := hBn.2 (by omega); omega
              generalize xs[n] = X at *
              generalize xs[m] = Y at *
              clear hB hBn
              go_wp2
              go_quiet (fail)
              have hI2 := is_drewN hI nq
              have hb2 := below_drewN hbr nq
              go_wp2
              go_roundw
              case rel => exact ⟨n + 1, by omega, by go_num, hI2, hb2⟩
              case measure => simp [intOf]; omega
            · have d2 : decide ((n : Int) < (m : Int)) = false := decide_eq_false hnm
              have d2' : decide (n < m) = false := decide_eq_false (by omega)
              clear hnm
              generalize xs[n] = X at *
              generalize xs[m] = Y at *
              clear hB hBn
              go_wp2
              go_quiet (fail)
              have hI2 := is_drewN hI nq
              have hb2 := below_drewN hbr nq
              go_wp2
              go_roundw
              case rel => exact ⟨n + 1, by omega, by go_num, hI2, hb2⟩
              case measure => simp [intOf]; omega
          · go_wp2
            go_ret
            exact ⟨rfl, hbr⟩
end Go.Proofs.Ytkfimghpoepfcaa
