/- paddocklaw2.StrawGrows returns true, whatever the numbers; nothing that was there is written. -/
import Derived.Test.YtkfimghpoepfcaaStrawKnown
namespace Go.Proofs.Ytkfimghpoepfcaa
open Go.RowKit
set_option linter.unusedVariables false

theorem pow_u32 (j : Nat) (h : j ≤ 16) : (2 : Int) ^ j % 4294967296 = ((2 ^ j : Nat) : Int) := by
  have h2 : 2 ^ j ≤ 2 ^ 16 := Nat.pow_le_pow_right (by decide) h
  have e : (2 : Int) ^ j = ((2 ^ j : Nat) : Int) := by simp
  have h0 : 0 < 2 ^ j := Nat.two_pow_pos j
  rw [e]
  generalize 2 ^ j = z at *
  omega

set_option maxRecDepth 100000 in
set_option maxHeartbeats 1000000 in
theorem grows_walk (a b k x y : Nat) (w : World) (ha : a < 4294967296) (hb : b < 4294967296) (hk : k < 256)
    (hc : ((b : Int) % 65536 + 1 < (a : Int) % 65536 + 1 ∧ Hid ((b : Int) % 65536 + 1 = (x : Int)) ∧ Hid ((a : Int) % 65536 + 1 = (y : Int))) ∨ ((a : Int) % 65536 + 1 ≤ (b : Int) % 65536 + 1 ∧ Hid ((b : Int) % 65536 + 1 = (y : Int)) ∧ Hid ((a : Int) % 65536 + 1 = (x : Int))))
    (hx : 1 ≤ x) (hxy : x ≤ y) (hy : y ≤ 65536) :
    Calls Try.prog 4 #[.int .u32 a, .int .u32 b, .int .u8 k] w fun e w' => e = .returned (.bool true) ∧ Below w.heap.size w w' := by
  have hm : decide (logN y < logN x) = false := by rw [decide_eq_false_iff_not]; have := logN_mono hx hxy hy; omega
  have hlp : Hid _ := logN_pow (k := k % 17) (by omega)
  rcases hc with ⟨hc, h1, h2⟩ | ⟨hc, h1, h2⟩
  all_goals
    go_enter Try.func4, Try.ntmps4
    go_wp2_with (go_at_call 9; refine (known_any _).mono ?_; rintro e w1 ⟨rfl, hbb⟩)
    rw [h1.out, h2.out]
    refine (log_any x _ (by omega)).mono ?_
    rintro e w2 ⟨rfl, hb2⟩
    replace hbb := hbb.trans (hb2.mono hbb.size)
    clear hb2
    go_wp2_with fail
    refine (log_any y _ (by omega)).mono ?_
    rintro e w3 ⟨rfl, hb2⟩
    replace hbb := hbb.trans (hb2.mono hbb.size)
    clear hb2 h1 h2 hc
    go_wp2_with fail
    rw [pow_u32 (k % 17) (by omega)]
    refine (log_of (2 ^ (k % 17)) ((k % 17 * 65536 : Nat) : Int) _ (by have := Nat.pow_le_pow_right (n := 2) (by decide) (show k % 17 ≤ 16 by omega); omega) (by rw [hlp.out])).mono ?_
    rintro e w4 ⟨rfl, hb2⟩
    replace hbb := hbb.trans (hb2.mono hbb.size)
    clear hb2
    go_wp2_with fail
    refine (log_of 0 0 _ (by decide) (by rw [logN_0]; rfl)).mono ?_
    rintro e w5 ⟨rfl, hb2⟩
    replace hbb := hbb.trans (hb2.mono hbb.size)
    clear hb2
    go_wp2_with fail
    refine (log_of 70000 1048576 _ (by decide) (by rw [logN_top (by decide)]; rfl)).mono ?_
    rintro e w6 ⟨rfl, hb2⟩
    replace hbb := hbb.trans (hb2.mono hbb.size)
    clear hb2
    by_cases hx2 : 32768 < x
    · go_wp2
      go_ret
      exact ⟨rfl, hbb⟩
    · have hd : Hid _ := logN_two hx (show x ≤ 32768 by omega)
      have hle := logN_le x
      go_wp2_with fail
      refine (log_of (2 * x) ((logN x : Int) + 65536) _ (by omega) (by rw [hd.out]; rfl)).mono ?_
      rintro e w7 ⟨rfl, hb2⟩
      replace hbb := hbb.trans (hb2.mono hbb.size)
      clear hb2 hd
      go_wp2_with fail
      refine (log_any x _ (by omega)).mono ?_
      rintro e w8 ⟨rfl, hb2⟩
      replace hbb := hbb.trans (hb2.mono hbb.size)
      clear hb2
      go_wp2
      go_ret
      exact ⟨by simp, hbb⟩

theorem grows_all (a b k : Nat) (w : World) (ha : a < 4294967296) (hb : b < 4294967296) (hk : k < 256) :
    Calls Try.prog 4 #[.int .u32 a, .int .u32 b, .int .u8 k] w fun e w' => e = .returned (.bool true) ∧ Below w.heap.size w w' := by
  by_cases h : b % 65536 < a % 65536
  · exact grows_walk a b k (b % 65536 + 1) (a % 65536 + 1) w ha hb hk (.inl ⟨by omega, (show _ = _ by omega), (show _ = _ by omega)⟩) (by omega) (by omega) (by omega)
  · exact grows_walk a b k (a % 65536 + 1) (b % 65536 + 1) w ha hb hk (.inr ⟨by omega, (show _ = _ by omega), (show _ = _ by omega)⟩) (by omega) (by omega) (by omega)
end Go.Proofs.Ytkfimghpoepfcaa
