/- paddocklaw1.BitsNumbers returns true, for every number and every count of bytes; nothing that was there is written. -/
import Derived.Test.YtikidllbbokboabKnown
import Derived.Deep.DrawnRows
import Derived.Deep.RegionHeld3
namespace Go.Proofs.Ytikidllbbokboab
open Go.RowKit

theorem heldI_of (j : Nat) (h : j ≤ 8) : (heldI j).toNat = j := by
  unfold heldI
  rw [if_neg (by omega), if_neg (by omega)]
  exact Int.toNat_natCast j

theorem get8 (n : Int) (g : Nat) (w : World) (h0 : 0 ≤ n) (h1 : n < 18446744073709551616) (hB : By w (some ⟨g, 0, none⟩) 8 (putB n.toNat 8)) :
    Calls Try.prog 6 #[.slice (some ⟨g, 0, none⟩) 8 8, .int .i64 8] w fun e w' =>
      ∃ g' c', e = .returned (.tuple #[.int .u64 n, .slice (some ⟨g', 0, none⟩) 0 c', .int .i64 0]) ∧ Below w.heap.size w w' := by
  refine (get_ok _ 8 8 (putB n.toNat 8) 8 w hB (putB_length _ _).symm (by decide) (by decide)).mono ?_
  rintro e w4 ⟨g, c', rfl, _, hb4⟩
  have e1 : (heldI 8).toNat = 8 := by decide
  have e2 : ((getN (putB n.toNat 8) : Nat) : Int) = n := by rw [get_put 8 _ (by decide)]; omega
  rw [e1, List.take_of_length_le (by rw [putB_length]; decide), e2]
  exact ⟨g, c', rfl, hb4⟩

/-- A cut of bytes at its end: where it lies is a letter. -/
theorem cut_run (g j : Nat) (w : World) (xs : List UInt8) (hB : By w (some ⟨g, 0, none⟩) 8 xs) (hl : xs.length = 8) (hj8 : j ≤ 8) :
    ∃ A, (∀ W, (Instr.slice 24 (.slice (some ⟨g, 0, none⟩) 8 8) (some (.int .i64 (8 - (j : Int)))) none none).run Try.prog W = .ok (.slice A j j) W) ∧ By w A j (xs.drop (8 - j)) := by
  refine ⟨restAddr (some ⟨g, 0, none⟩) 8 (8 - j), fun W => ?_, ?_⟩
  · rw [run_slice_l W 24 _ 8 8 Try.underlying24 .i64 (8 - (j : Int)) (by omega) (by omega)]
    have e : (8 - (j : Int)).toNat = 8 - j := by omega
    have e2 : 8 - (8 - j) = j := by omega
    obtain ⟨i0, hi, hz0, hz1, hz2⟩ := info_parts Try.infoByte
    have hel : Try.prog.elem 24 = 5 := by kernel_rfl
    simp [hel, sizeOf, typeInfo, hi, hz1, sliced, e, e2, restAddr]
  · have := hB.rest (k := 8 - j) (by omega)
    have e2 : 8 - (8 - j) = j := by omega
    rw [e2] at this
    exact this

theorem by_drew {w : World} {ao : Option Addr} {c : Nat} {xs : List UInt8} (h : By w ao c xs) : By w.drew ao c xs := ⟨h.le, h.cap, h.nil, h.at'⟩

attribute [local go_sem ↓] Go.wp_at_zero Go.wp_at_succ
set_option maxHeartbeats 8000000 in
theorem numbers_some (n : Int) (q j : Nat) (w : World) (hn0 : 0 ≤ n) (hn1 : n < 18446744073709551616) (hq : (q : Int) < 256) (hj : (q : Int) % 9 = j) (hj8 : j ≤ 8) :
    Calls Try.prog 3 #[.int .u64 n, .int .u8 q] w fun e w' => e = .returned (.bool true) ∧ Below w.heap.size w w' := by
  have hl8 : Hid ((putB n.toNat 8).length = 8) := putB_length _ _
  have hjI0 : (0 : Int) ≤ (j : Int) := by omega
  have hjI8 : (j : Int) ≤ 8 := by omega
  have hjw : IntKind.i64.wrap (8 - (j : Int)) = 8 - (j : Int) := by rw [IntKind.wrap_i64]; omega
  go_enter Try.func3, Try.ntmps3
  go_wp2_with (go_at_call 4; refine (known_any _).mono ?_; rintro e w1 ⟨rfl, hb1⟩)
  refine (put_new n j j w1 (heldI_of j hj8) hn0 hn1).mono ?_
  rintro e w2 ⟨rfl, hB1, hb2⟩
  go_wp2_with fail
  refine (put_new n 8 8 w2 (by decide) hn0 hn1).mono ?_
  rintro e w3 ⟨rfl, hB2, hb3⟩
  go_wp2_with fail
  refine (get8 n _ w3 hn0 hn1 hB2).mono ?_
  rintro e w4 ⟨g, c', rfl, hb4⟩
  obtain ⟨A, hsl, hB4⟩ := cut_run _ j w4 _ (hB2.later hb4) hl8.out hj8
  rw [put_drop _ _ hj8] at hB4
  have hB5 := (hB1.later hb3).later hb4
  have hbb : Below w.heap.size w w4 := hb1.trans (((hb2.trans (hb3.mono hb2.size)).trans (hb4.mono (Nat.le_trans hb2.size hb3.size))).mono hb1.size)
  generalize w1.heap.size = g1 at *
  generalize w2.heap.size = g2 at *
  have hL : Hid ((putB n.toNat j).length = j) := putB_length _ _
  have e1 : (heldI (-3)).toNat = 0 := by decide
  have e2 : (heldI 99).toNat = 8 := by decide
  generalize putB n.toNat j = L at *
  clear hB1 hB2 hl8 hb1 hb2 hb3 hb4
  replace hB5 := by_drew hB5
  replace hB4 := by_drew hB4
  replace hbb := hbb.drew
  go_wp2_with fail
  go_region_held3 (fun W => (convert 24 9 (.slice (some ⟨g1, 0, none⟩) j j)).run Try.prog W = .ok (.string ⟨L.toArray⟩) W ∧ (convert 24 9 (.slice A j j)).run Try.prog W = .ok (.string ⟨L.toArray⟩) W)
    (exact ⟨str_of hB5 hL.out.symm, str_of hB4 hL.out.symm⟩)
    ((go_at_call 5; refine (put_new n _ _ _ rfl hn0 hn1).mono ?_; rintro e w5 ⟨rfl, _, hb5⟩; replace hB5 := hB5.later hb5; replace hB4 := hB4.later hb5; replace hbb := hbb.trans (hb5.mono hbb.size); clear hb5))
  all_goals
    go_wp2
    go_ret
    exact ⟨rfl, hbb⟩

theorem numbers_walk (n k : Int) (w : World) (hn0 : 0 ≤ n) (hn1 : n < 18446744073709551616) (hk0 : 0 ≤ k) (hk1 : k < 256) :
    Calls Try.prog 3 #[.int .u64 n, .int .u8 k] w fun e w' => e = .returned (.bool true) ∧ Below w.heap.size w w' := by
  obtain ⟨q, rfl⟩ := Int.eq_ofNat_of_zero_le hk0
  exact numbers_some n q (q % 9) w hn0 hn1 hk1 (by omega) (by omega)
end Go.Proofs.Ytikidllbbokboab
