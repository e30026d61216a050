/- paddocklaw2.StrawWeighs returns true, whatever the hash and the weights; nothing that was there is written. -/
import Derived.Test.YtkfimghpoepfcaaStrawKnown
namespace Go.Proofs.Ytkfimghpoepfcaa
open Go.RowKit
set_option linter.unusedVariables false

theorem straw_of (h : Nat) (q z : Int) (w : World) (hh : h < 4294967296) (hq0 : -9223372036854775808 ≤ q) (hq1 : q ≤ 9223372036854775807) (hz : strawI h q = z) :
    Calls Try.prog 12 #[.int .u32 h, .int .i64 q] w fun e w' => e = .returned (.int .i64 z) ∧ Below w.heap.size w w' := by
  have := straw_any h q w hh hq0 hq1
  rw [hz] at this
  exact this

theorem straw_held (h : Nat) (a : Int) : strawI h (heldW a) = strawI h a := by
  have := heldW_bd a
  unfold strawI
  rw [heldW_of this.1 this.2]

theorem straw_low (h : Nat) (a : Int) : strawI (h % 65536) a = strawI h a := by
  unfold strawI lackN
  rw [Nat.mod_mod]

theorem draw_312 (x : Int) : drawI 3 1 2 x = strawI (hashN 3 1 2) x := rfl

set_option maxRecDepth 100000 in
set_option maxHeartbeats 1000000 in
theorem weighs_in (h : Nat) (a b x y : Int) (w : World) (hh : h < 4294967296) (ha0 : -9223372036854775808 ≤ a) (ha1 : a ≤ 9223372036854775807) (hb0 : -9223372036854775808 ≤ b) (hb1 : b ≤ 9223372036854775807)
    (hc : (heldW b < heldW a ∧ Hid (heldW b = x) ∧ Hid (heldW a = y)) ∨ (¬ heldW b < heldW a ∧ Hid (heldW a = x) ∧ Hid (heldW b = y))) (hx : 1 ≤ x) (hxy : x ≤ y) (hy : y ≤ 16) :
    Calls Try.prog 5 #[.int .u32 h, .int .i64 a, .int .i64 b] w fun e w' => e = .returned (.bool true) ∧ Below w.heap.size w w' := by
  have hva : max 1 (min a 16) = heldW a := by unfold heldW; split <;> (try split) <;> omega
  have hvb : max 1 (min b 16) = heldW b := by unfold heldW; split <;> (try split) <;> omega
  have hba := heldW_bd a
  have hbb := heldW_bd b
  have hm := strawI_mono h hx hxy hy
  have h0 := strawI_bd h y
  rcases hc with ⟨hc, h1, h2⟩ | ⟨hc, h1, h2⟩
  all_goals
    go_enter Try.func5, Try.ntmps5
    go_wp2_with (go_at_call 9; refine (known_any _).mono ?_; rintro e w1 ⟨rfl, hbw⟩)
    rw [h1.out, h2.out]
    clear hc h1 h2 hvb
    refine (straw_any h x _ hh (by omega) (by omega)).mono ?_
    rintro e w2 ⟨rfl, hb2⟩
    replace hbw := hbw.trans (hb2.mono hbw.size)
    clear hb2
    go_wp2_with fail
    refine (straw_any h y _ hh (by omega) (by omega)).mono ?_
    rintro e w3 ⟨rfl, hb2⟩
    replace hbw := hbw.trans (hb2.mono hbw.size)
    clear hb2
    generalize hs : strawI h x = s at *
    generalize ht : strawI h y = t at *
    clear hs ht
    go_wp2_with fail
    refine (straw_any h a _ hh ha0 ha1).mono ?_
    rintro e w4 ⟨rfl, hb2⟩
    replace hbw := hbw.trans (hb2.mono hbw.size)
    clear hb2
    go_wp2_with fail
    refine (straw_of h (heldW a) _ _ hh (by omega) (by omega) (straw_held h a)).mono ?_
    rintro e w5 ⟨rfl, hb2⟩
    replace hbw := hbw.trans (hb2.mono hbw.size)
    clear hb2
    go_wp2_with fail
    refine (straw_any h 1 _ hh (by decide) (by decide)).mono ?_
    rintro e w6 ⟨rfl, hb2⟩
    replace hbw := hbw.trans (hb2.mono hbw.size)
    clear hb2
    go_wp2_with fail
    refine (straw_of (h % 65536) 1 _ _ (by omega) (by decide) (by decide) (straw_low h 1)).mono ?_
    rintro e w7 ⟨rfl, hb2⟩
    replace hbw := hbw.trans (hb2.mono hbw.size)
    clear hb2
    go_wp2_with fail
    refine (draw_any 3 1 2 x _ (by decide) (by omega) (by omega)).mono ?_
    rintro e w8 ⟨rfl, hb2⟩
    replace hbw := hbw.trans (hb2.mono hbw.size)
    clear hb2
    go_wp2_with fail
    refine (hash_any 3 1 2 _ (by decide) (by decide) (by decide)).mono ?_
    rintro e w9 ⟨rfl, rfl⟩
    go_wp2_with fail
    refine (straw_of (hashN 3 1 2) x _ _ (hashN_lt _ _ _) (by omega) (by omega) (draw_312 x).symm).mono ?_
    rintro e w10 ⟨rfl, hb2⟩
    replace hbw := hbw.trans (hb2.mono hbw.size)
    clear hb2
    go_wp2
    go_ret
    exact ⟨by simp, hbw⟩

theorem weighs_walk (h : Nat) (a b : Int) (w : World) (hh : h < 4294967296) (ha0 : -9223372036854775808 ≤ a) (ha1 : a ≤ 9223372036854775807) (hb0 : -9223372036854775808 ≤ b) (hb1 : b ≤ 9223372036854775807) :
    Calls Try.prog 5 #[.int .u32 h, .int .i64 a, .int .i64 b] w fun e w' => e = .returned (.bool true) ∧ Below w.heap.size w w' := by
  have hba := heldW_bd a
  have hbb := heldW_bd b
  by_cases hc : heldW b < heldW a
  · exact weighs_in h a b (heldW b) (heldW a) w hh ha0 ha1 hb0 hb1 (.inl ⟨hc, rfl, rfl⟩) hbb.1 (by omega) hba.2
  · exact weighs_in h a b (heldW a) (heldW b) w hh ha0 ha1 hb0 hb1 (.inr ⟨hc, rfl, rfl⟩) hba.1 (by omega) hbb.2
end Go.Proofs.Ytkfimghpoepfcaa
