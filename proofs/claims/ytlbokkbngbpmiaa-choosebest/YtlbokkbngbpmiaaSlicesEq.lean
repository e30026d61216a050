/- The contract of slices.Equal (of ints). -/
import Derived.Test.YtlbokkbngbpmiaaPackMaps
namespace Go.Proofs.Ytlbokkbngbpmiaa
set_option linter.unusedSimpArgs false
set_option linter.unusedVariables false
open Go.RowKit

set_option maxRecDepth 100000 in
set_option maxHeartbeats 1000000 in
theorem equal_any (ao bo : Option Addr) (c d : Nat) (xs ys : List Int) (w : World) (h : Ix w ao c xs) (k : Ix w bo d ys) :
    Calls Try.prog 61 #[.slice ao xs.length c, .slice bo ys.length d] w fun e w' => e = .returned (.bool (decide (xs = ys))) ∧ ∃ n, w' = w.drewN n := by
  have hle := h.le
  have hcap := h.cap
  have kle := k.le
  have kcap := k.cap
  by_cases hn : xs.length = ys.length
  · have HN : Hid (xs.length = ys.length) := hn
    have hnn : (xs.length : Int) = (ys.length : Int) := by omega
    have hn' : ((xs.length : Int) == (ys.length : Int)) = true := by rw [beq_iff_eq]; exact hnn
    rw [← hn] at kle
    rw [← hn]
    clear hn hnn hn'
    go_enter Try.func61, Try.ntmps61
    go_wp2
    go_loopw [13] (fun i wr => ∃ n : Nat, n ≤ xs.length ∧ i = .int .i64 n ∧ (∀ j : Nat, j < n → xs.getD j 0 = ys.getD j 0) ∧ ∃ q, wr = w.drewN q) (fun i _ => xs.length - (intOf i).toNat)
    case atStart => exact ⟨0, Nat.zero_le _, rfl, fun j hj => absurd hj (by omega), 0, rfl⟩
    case round =>
      obtain ⟨n, hn, rfl, heq, q, rfl⟩ := hrel
      by_cases hlt : n < xs.length
      · have hlt2 : n < ys.length := by have := HN.out; omega
        cases ao with
        | none => have := h.nil rfl; omega
        | some ad =>
          cases bo with
          | none => have := k.nil rfl; omega
          | some bd =>
            have c1 := h.at' ad rfl n hlt
            have c2 := k.at' bd rfl n hlt2
            have e1 : xs.getD n 0 = xs[n] := by simp [List.getD, hlt]
            have e2 : ys.getD n 0 = ys[n] := by simp [List.getD, hlt2]
            have i1 : (n : Int) < (xs.length : Int) := by omega
            by_cases hx : xs[n] = ys[n]
            · have hup : Hid (∀ j : Nat, j < n + 1 → xs.getD j 0 = ys.getD j 0) := by
                intro j hj
                by_cases e : j < n
                · exact heq j e
                · have : j = n := by omega
                  subst this
                  rw [e1, e2, hx]
              have hxb : (xs[n] == ys[n]) = true := by rw [beq_iff_eq]; exact hx
              clear e1 e2 hx heq
              generalize xs[n] = X at *
              generalize ys[n] = Y at *
              go_wp2
              go_quiet (fail)
              go_wp2
              go_roundw
              case rel => exact ⟨n + 1, by omega, by go_num, hup.out, q + nq, by first | rfl | exact World.drewN_drewN _ _ _⟩
              case measure => simp [intOf]; omega
            · have hne : Hid (decide (xs = ys) = false) := decide_eq_false (fun e => hx (by subst e; rfl))
              have hxb : (xs[n] == ys[n]) = false := by rw [beq_eq_false_iff_ne]; exact hx
              clear e1 e2 hx heq
              generalize xs[n] = X at *
              generalize ys[n] = Y at *
              go_wp2
              go_quiet (fail)
              go_wp2
              go_ret
              exact ⟨ret_bool (by rw [hne.out]), q + nq, by first | rfl | exact World.drewN_drewN _ _ _⟩
      · have hall : Hid (decide (xs = ys) = true) := decide_eq_true (eq_of_take HN.out (fun j hj => heq j (by omega)))
        go_wp2
        go_ret
        exact ⟨ret_bool (by rw [hall.out]), _, rfl⟩
  · have hne : decide (xs = ys) = false := decide_eq_false (fun e => hn (by rw [e]))
    have hn' : ((xs.length : Int) == (ys.length : Int)) = false := by rw [beq_eq_false_iff_ne]; omega
    have hn2 : (xs.length == ys.length) = false := by rw [beq_eq_false_iff_ne]; exact hn
    go_enter Try.func61, Try.ntmps61
    go_wp2
    go_ret
    exact ⟨ret_bool (by rw [hne]), 0, rfl⟩
end Go.Proofs.Ytlbokkbngbpmiaa
