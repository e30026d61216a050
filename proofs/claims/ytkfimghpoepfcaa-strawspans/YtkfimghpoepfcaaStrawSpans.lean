/- paddocklaw2.StrawSpans returns true, whatever the hash and the weight; nothing that was there is written. -/
import Derived.Test.YtkfimghpoepfcaaStrawKnown
namespace Go.Proofs.Ytkfimghpoepfcaa
open Go.RowKit
set_option linter.unusedVariables false

theorem spans_math (h : Nat) (k : Int) (h1 : 1 ≤ k) (h8 : k ≤ 8) :
    -(4294967296 / k) ≤ strawI h k ∧ strawI h k ≤ 0 ∧ strawI h k - 2 * strawI h (2 * k) ≤ 1 ∧ -1 ≤ strawI h k - 2 * strawI h (2 * k) := by
  have b := strawI_bd h k
  have hl := lackN_le h
  have e1 : strawI h k = -((lackN h : Int) / k) := by unfold strawI; rw [heldW_of h1 (by omega)]
  have e2 : strawI h (2 * k) = -((lackN h : Int) / (2 * k)) := by unfold strawI; rw [heldW_of (by omega) (by omega)]
  rw [e1, e2] at *
  have m : (lackN h : Int) / k ≤ 4294967296 / k := Int.ediv_le_ediv (by omega) (by omega)
  have e3 : (lackN h : Int) / (2 * k) = (lackN h : Int) / k / 2 := by rw [Int.mul_comm, Int.ediv_ediv_of_nonneg (by omega)]
  have n : 0 ≤ (lackN h : Int) / k := Int.ediv_nonneg (by omega) (by omega)
  rw [e3]
  generalize (lackN h : Int) / k = z at *
  generalize (4294967296 : Int) / k = y at *
  omega

set_option maxRecDepth 100000 in
set_option maxHeartbeats 1000000 in
theorem spans_walk (h v : Nat) (w : World) (hh : h < 4294967296) (hv : v < 256) :
    Calls Try.prog 7 #[.int .u32 h, .int .u8 v] w fun e w' => e = .returned (.bool true) ∧ Below w.heap.size w w' := by
  go_enter Try.func7, Try.ntmps7
  go_wp2_with (go_at_call 9; refine (known_any _).mono ?_; rintro e w1 ⟨rfl, hbw⟩)
  have hm := spans_math h ((v : Int) % 8 + 1) (by omega) (by omega)
  generalize hk : (v : Int) % 8 + 1 = k at *
  have k1 : 1 ≤ k := by omega
  have k8 : k ≤ 8 := by omega
  clear hk
  refine (straw_any h k _ hh (by omega) (by omega)).mono ?_
  rintro e w2 ⟨rfl, hb2⟩
  replace hbw := hbw.trans (hb2.mono hbw.size)
  clear hb2
  go_wp2_with fail
  refine (straw_any h (2 * k) _ hh (by omega) (by omega)).mono ?_
  rintro e w3 ⟨rfl, hb2⟩
  replace hbw := hbw.trans (hb2.mono hbw.size)
  clear hb2
  have b1 := strawI_bd h k
  have b2 := strawI_bd h (2 * k)
  have d0 : 0 ≤ (4294967296 : Int) / k := Int.ediv_nonneg (by omega) (by omega)
  have d1 : (4294967296 : Int) / k ≤ 4294967296 := Int.ediv_le_self _ (by omega)
  generalize strawI h k = s at *
  generalize strawI h (2 * k) = t at *
  obtain ⟨m1, m2, m3, m4⟩ := hm
  go_wp2
  go_ret
  exact ⟨by simp, hbw⟩
end Go.Proofs.Ytkfimghpoepfcaa
