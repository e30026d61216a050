/- The contract of the document's own logarithm over this seat's program. -/
import Derived.Test.YtlbokkbngbpmiaaPackStraw
namespace Go.Proofs.Ytlbokkbngbpmiaa
open Go.RowKit
set_option linter.unusedVariables false

theorem shr_lo {v k m : Nat} (h : 2 ^ k ≤ v) (hm : m < k) : ¬ ((v : Int) / 2 ^ (m + 1) ≤ 0) := by
  have e : (v : Int) / 2 ^ (m + 1) = ((v / 2 ^ (m + 1) : Nat) : Int) := by simp
  have : 0 < v / 2 ^ (m + 1) := Nat.div_pos (Nat.le_trans (Nat.pow_le_pow_right (by decide) hm) h) (Nat.two_pow_pos _)
  rw [e]
  omega

theorem shr_hi {v k : Nat} (h : v < 2 ^ (k + 1)) : (v : Int) / 2 ^ (k + 1) ≤ 0 := by
  have e : (v : Int) / 2 ^ (k + 1) = ((v / 2 ^ (k + 1) : Nat) : Int) := by simp
  rw [e, Nat.div_eq_of_lt h]
  decide

theorem up_wrap' (v k X : Nat) (h : v * 2 ^ (31 - k) = X) (hX : Norm X) : IntKind.u64.wrap ((v : Int) * 2 ^ (31 - k)) = (X : Int) := by
  have hn := hX.2
  have e : (v : Int) * 2 ^ (31 - k) = (X : Int) := by
    rw [← h]
    simp
  rw [e, IntKind.wrap_u64]
  omega

theorem out_bd (m X j : Nat) (hm : m ≤ 16) (hj : j ≤ 16) : 0 ≤ (m : Int) * 2 ^ j + (tN X j : Nat) ∧ (m : Int) * 2 ^ j + (tN X j : Nat) ≤ 2000000 := by
  have h1 := tN_lt X j
  have h2 : 2 ^ j ≤ 2 ^ 16 := Nat.pow_le_pow_right (by decide) hj
  have h3 : m * 2 ^ j ≤ 16 * 65536 := Nat.mul_le_mul hm (by omega)
  have e : (m : Int) * 2 ^ j = ((m * 2 ^ j : Nat) : Int) := by simp
  rw [e]
  omega

theorem nxt_of (x : Nat) : (nxtN x : Int) = if (4294967296 : Int) ≤ (x : Int) * (x : Int) / 2147483648 then (x : Int) * (x : Int) / 2147483648 / 2 else (x : Int) * (x : Int) / 2147483648 := by
  rw [sq_cast]
  unfold nxtN
  by_cases h : 4294967296 ≤ sqN x
  · rw [if_pos h, if_pos (by omega)]
    rfl
  · rw [if_neg h, if_neg (by omega)]

theorem bit_of (x : Nat) : (bitN x : Int) = if (4294967296 : Int) ≤ (x : Int) * (x : Int) / 2147483648 then 1 else 0 := by
  rw [sq_cast]
  unfold bitN
  by_cases h : 4294967296 ≤ sqN x
  · rw [if_pos h, if_pos (by omega)]
    rfl
  · rw [if_neg h, if_neg (by omega)]
    rfl

theorem out_step (m X j : Nat) : (m : Int) * 2 ^ (j + 1) + (tN X (j + 1) : Nat) = ((m : Int) * 2 ^ j + (tN X j : Nat)) * 2 + (bitN (xN X j) : Nat) := by
  have e : (m : Int) * 2 ^ j = ((m * 2 ^ j : Nat) : Int) := by simp
  have e2 : (m : Int) * 2 ^ (j + 1) = ((m * 2 ^ j * 2 : Nat) : Int) := by simp [Int.pow_succ, Int.mul_assoc]
  rw [e, e2, tN_succ]
  omega

set_option maxRecDepth 100000 in
set_option maxHeartbeats 1000000 in
theorem reflog_in (v u k X : Nat) (w : World) (hu : u < 4294967296) (hc : (u ≤ 1 ∧ Hid (v = 1)) ∨ (65536 < u ∧ Hid (v = 65536)) ∨ (1 < u ∧ u ≤ 65536 ∧ Hid (v = u))) (hk : k ≤ 16) (hlo : Hid (2 ^ k ≤ v)) (hhi : Hid (v < 2 ^ (k + 1))) (hX : Hid (v * 2 ^ (31 - k) = X)) (hn : Norm X) :
    Calls Try.prog 102 #[.int .u32 u] w fun e w' => e = .returned (.int .i64 ((k : Int) * 65536 + (tN X 16 : Nat))) ∧ w' = w := by
  have hvb : v < 131072 := by
    have := hhi.out
    have := Nat.pow_le_pow_right (n := 2) (by decide) (show k + 1 ≤ 17 by omega)
    omega
  rcases hc with ⟨h1, hv⟩ | ⟨h1, hv⟩ | ⟨h1, h2, hv⟩
  all_goals
    go_enter Try.func102, Try.ntmps102
    go_wp2
    first
      | rw [show max (1 : Int) (min (u : Int) 65536) = (v : Int) by have := hv.out; omega]
      | rw [show Value.int IntKind.u32 1 = Value.int IntKind.u32 (v : Int) by rw [hv.out]; rfl]
      | rw [show Value.int IntKind.u32 65536 = Value.int IntKind.u32 (v : Int) by rw [hv.out]; rfl]
      | rw [show Value.int IntKind.u32 (u : Int) = Value.int IntKind.u32 (v : Int) by rw [hv.out]]
    go_loop [3] (fun i => ∃ m : Nat, m ≤ k ∧ i = .int .i64 m) (fun i => (16 - intOf i).toNat)
    case atStart => exact ⟨0, Nat.zero_le _, rfl⟩
    case round =>
      obtain ⟨m, hm, rfl⟩ := hrel
      by_cases hlt : m < k
      · have hd := shr_lo hlo.out hlt
        go_wp2
        go_round
        case rel => exact ⟨m + 1, by omega, by go_num⟩
        case measure => simp [intOf]; omega
      · have : m = k := by omega
        subst this
        have hd := shr_hi hhi.out
        go_wp2
        rw [up_wrap' v m X hX.out hn]
        go_loop [4, 5, 6] (fun x o i => ∃ j : Nat, j ≤ 16 ∧ i = .int .i64 j ∧ x = .int .u64 (xN X j : Nat) ∧ o = .int .i64 ((m : Int) * 2 ^ j + (tN X j : Nat))) (fun _ _ i => (16 - intOf i).toNat)
        case atStart => exact ⟨0, Nat.zero_le _, rfl, rfl, by simp [tN]⟩
        case round =>
          obtain ⟨j, hj, rfl, rfl, rfl⟩ := hrel
          by_cases hjt : j < 16
          · obtain ⟨hx1, hx2⟩ := xN_norm hn j
            obtain ⟨_, _, hq3⟩ := sq_bd (xN_norm hn j)
            have hbd := out_bd m X j hk hj
            have hst : Hid _ := out_step m X j
            have hxs : Hid _ := nxt_of (xN X j)
            have hbs : Hid _ := bit_of (xN X j)
            have hsu : Hid (xN X (j + 1) = nxtN (xN X j)) := rfl
            generalize (m : Int) * 2 ^ j + (tN X j : Nat) = O at *
            generalize bitN (xN X j) = b at *
            generalize nxtN (xN X j) = z at *
            generalize xN X j = x at *
            clear hlo hhi hX hn hvb hv h1 hlt hm hd
            by_cases hq : (4294967296 : Int) ≤ (x : Int) * (x : Int) / 2147483648
            all_goals
              go_wp2
              go_round
              case rel => exact ⟨j + 1, by omega, by go_num, by rw [hsu.out, hxs.out]; first | rw [if_pos hq] | rw [if_neg hq], by rw [hst.out, hbs.out]; first | rw [if_pos hq] | rw [if_neg hq, Int.add_zero]⟩
              case measure => simp [intOf]; omega
          · have : j = 16 := by omega
            subst this
            go_wp2
            go_ret
            exact ⟨rfl, rfl⟩

theorem reflog_any (u : Nat) (w : World) (hu : u < 4294967296) :
    Calls Try.prog 102 #[.int .u32 u] w fun e w' => e = .returned (.int .i64 (logN u : Nat)) ∧ w' = w := by
  have hh := holdU_bd u
  refine reflog_in (holdU u) u (holdU u).log2 (upN (holdU u)) w hu ?_ (log2_le hh.1 hh.2) (Nat.log2_self_le (by omega)) Nat.lt_log2_self rfl (up_norm hh.1 hh.2)
  unfold holdU Hid
  by_cases h0 : u ≤ 1
  · refine .inl ⟨h0, ?_⟩
    split
    · rfl
    · rw [if_neg (by omega)]
      omega
  · by_cases h1 : 65536 < u
    · exact .inr (.inl ⟨h1, by rw [if_neg (by omega), if_pos h1]⟩)
    · exact .inr (.inr ⟨by omega, by omega, by rw [if_neg (by omega), if_neg h1]⟩)
end Go.Proofs.Ytlbokkbngbpmiaa
