/- JournalLong's walk. -/
import Derived.Test.YtlalfagafbpkiaaGrp37
namespace Go.Proofs.Ytlalfagafbpkiaa
set_option linter.unusedSimpArgs false
set_option linter.unusedVariables false
set_option maxRecDepth 100000
open Go.RowKit Go.MapKept

set_option maxHeartbeats 16000000 in
theorem long_walk (more : Bool) (n : Nat) (w : World) (hn : n ≤ 65535) : Calls Try.prog 7 #[.bool more, .int .u16 (n : Int)] w fun e w' => e = .returned (.bool true) ∧ Below w.heap.size w w' := by
  obtain ⟨r, hr⟩ : ∃ r, n % 100 = r := ⟨_, rfl⟩
  have hr1 : r < 100 := by omega
  replace hr : Hid _ := hr
  obtain ⟨i0, hi0, hz0, hz1, hz2⟩ := byte_full
  have hn' : n < 65536 := by omega
  go_enter Try.func7, Try.ntmps7
  go_wp2_with fail
  refine (known_any w).mono ?_
  rintro e w1 ⟨rfl, hB1⟩
  go_wp2_with fail
  refine (new_on w 800 w1 hB1 (by decide) (by decide)).mono ?_
  rintro e w2 ⟨p, kb, mb, rfl, H2, hq2, hF2⟩
  clear hB1 hq2 hF2
  go_wp2_with fail
  refine (format_on w p kb mb 800 w2 H2 (by decide)).mono ?_
  rintro e w3 ⟨j, rfl, H3, hj, ho3⟩
  clear H2 hj ho3
  cases more with
  | true =>
    obtain ⟨m, hm⟩ : ∃ m, 20001 + r = m := ⟨_, rfl⟩
    have hmI : (20001 : Int) + (r : Int) = (m : Int) := by omega
    go_wp2_with (first
      | (refine wpList_val (.int .u16 (r : Int)) (by rfl) (run_rem_u16 _ _ _ _ rfl n 100 r rfl rfl hn' (by decide) hr.out) ?_)
      | (refine wpList_make_full _ rfl _ _ 23 rfl w3.heap.size 5 i0 (.int .u8 0) 1 Try.underlying23 hi0 hz0 hz1 _ _ _ _ m rfl rfl rfl rfl (by rw [hz2]; omega) (by unfold maxLen; omega) (Nat.le_refl _) ?_)
      | fail)
    intro w4 hown hgrow
    have hB4 : By w4 (some ⟨w3.heap.size, 0, none⟩) m (List.replicate m 0) := zero_has m w3.heap.size w3 w4 (by rw [show (madeCells (Value.int .u8 0).cells (m * 1)) = madeCells #[.int .u8 0] m by rw [Nat.mul_one]; rfl]; exact hown) (by omega)
    have hb4 : Below w3.heap.size w3 w4 := (Below.refl w3.heap.size w3).grown hgrow (Nat.le_refl _) (fun k hk => by cases hk)
    have H4 := H3.later hb4
    have hcv := zero_str m w4 _ hB4
    have hlz : (List.replicate m (0 : UInt8)).length = m := by simp
    have hlz2 : (20000 : Nat) < (List.replicate m (0 : UInt8)).length := by rw [hlz]; omega
    obtain ⟨z, hz⟩ : ∃ z, List.replicate m (0 : UInt8) = z := ⟨_, rfl⟩
    rw [hz] at hcv hlz hlz2
    have hz' : z.length ≤ 20200 := by omega
    have htz : takenM [z] ≤ 25000 := by unfold takenM; simp; omega
    clear hown hgrow hB4 hb4 H3 hm hmI hz hlz hi0 hz0 hz1 hz2 hr
    go_wp2_with fail
    refine (append_no_on w j p kb mb 800 none 0 [] 1 z w4 H4 (.inl hlz2)).mono ?_
    rintro e w5 ⟨rfl, H5, hb5⟩
    rw [if_pos hlz2]
    clear H4 hb5 hcv
    go_wp2_with fail
    refine (all_on w j p kb mb 800 none 0 [] 1 w5 H5).mono ?_
    rintro e w6 ⟨bo, bc, rfl, hS6, hbo, H6, hb6⟩
    clear H5 hS6 hbo hb6
    go_wp2_with (first | (refine wpList_sliceS (by rfl) _ rfl z rfl ?_) | fail)
    have hS7 : Strs (w6.alloc (.cells #[strV z] 9)) (some ⟨w6.heap.size, 0, none⟩) 1 [z] := Strs.new w6 z _
    have hq7 : Below w6.heap.size w6 (w6.alloc (.cells #[strV z] 9)) := (Below.refl _ _).alloc (Nat.le_refl _) _
    have H7 := H6.later hq7
    refine (replace_no_on w j p kb mb 800 none 0 [] 1 _ 1 [z] _ H7 hS7 (by omega) ⟨z, List.mem_singleton.2 rfl, hlz2⟩ (by show _ ≤ 64 * (800 / 2 - 4); omega)).mono ?_
    rintro e w8 ⟨rfl, H8, hb8⟩
    have hB8 : Below w.heap.size w w8 := H8.below
    clear H6 H7 hS7 hq7 H8 hb8
    go_wp2_with fail
    go_ret
    exact ⟨rfl, hB8⟩
  | false =>
    obtain ⟨m, hm⟩ : ∃ m, 20000 - r = m := ⟨_, rfl⟩
    have hmI : (20000 : Int) - (r : Int) = (m : Int) := by omega
    go_wp2_with (first
      | (refine wpList_val (.int .u16 (r : Int)) (by rfl) (run_rem_u16 _ _ _ _ rfl n 100 r rfl rfl hn' (by decide) hr.out) ?_)
      | (refine wpList_make_full _ rfl _ _ 23 rfl w3.heap.size 5 i0 (.int .u8 0) 1 Try.underlying23 hi0 hz0 hz1 _ _ _ _ m rfl rfl rfl rfl (by rw [hz2]; omega) (by unfold maxLen; omega) (Nat.le_refl _) ?_)
      | fail)
    intro w4 hown hgrow
    have hB4 : By w4 (some ⟨w3.heap.size, 0, none⟩) m (List.replicate m 0) := zero_has m w3.heap.size w3 w4 (by rw [show (madeCells (Value.int .u8 0).cells (m * 1)) = madeCells #[.int .u8 0] m by rw [Nat.mul_one]; rfl]; exact hown) (by omega)
    have hb4 : Below w3.heap.size w3 w4 := (Below.refl w3.heap.size w3).grown hgrow (Nat.le_refl _) (fun k hk => by cases hk)
    have H4 := H3.later hb4
    have hcv := zero_str m w4 _ hB4
    have hlz : (List.replicate m (0 : UInt8)).length = m := by simp
    obtain ⟨z, hz⟩ : ∃ z, List.replicate m (0 : UInt8) = z := ⟨_, rfl⟩
    rw [hz] at hcv hlz
    have hz' : z.length ≤ 20000 := by omega
    have htz : takenM [z] ≤ 25000 := by unfold takenM; simp; omega
    clear hown hgrow hB4 hb4 H3 hm hmI hz hlz hi0 hz0 hz1 hz2 hr
    go_wp2_with fail
    refine (append_on w j p kb mb 800 none 0 [] 1 z w4 H4 (by decide) hz' (by unfold takenM; show _ ≤ 64 * (800 / 2 - 4); simp; omega)).mono ?_
    rintro e w5 ⟨rfl, lo5, lc5, H5, hF5, ho5⟩
    replace H5 : JL w w5 j p kb mb 800 lo5 lc5 [z] (1 + 1) := H5
    clear H4 hcv hF5 ho5
    have hone : ([z] : List (List UInt8)).length = 1 := rfl
    go_wp2_with fail
    refine (all_on w j p kb mb 800 lo5 lc5 [z] (1 + 1) w5 H5).mono ?_
    rintro e w6 ⟨bo, bc, rfl, hS6, hbo, H6, hb6⟩
    clear H5 hS6 hbo hb6
    rw [hone]
    clear hone
    go_wp2_with (first | (refine wpList_sliceS (by rfl) _ rfl z rfl ?_) | fail)
    have hS7 : Strs (w6.alloc (.cells #[strV z] 9)) (some ⟨w6.heap.size, 0, none⟩) 1 [z] := Strs.new w6 z _
    have hq7 : Below w6.heap.size w6 (w6.alloc (.cells #[strV z] 9)) := (Below.refl _ _).alloc (Nat.le_refl _) _
    have H7 := H6.later hq7
    refine (replace_on w j p kb mb 800 lo5 lc5 [z] (1 + 1) _ 1 [z] _ H7 (by decide) hS7 (fun ad had => by cases had; exact ⟨by simp, fun hf => absurd (H6.ok.lt _ hf) (Nat.lt_irrefl _)⟩) (fun r hr => by rw [List.mem_singleton.1 hr]; exact hz') (by show _ ≤ 64 * (800 / 2 - 4); omega)).mono ?_
    rintro e w8 ⟨rfl, lo8, lc8, H8, hF8, ho8⟩
    have hB8 : Below w.heap.size w w8 := H8.below
    clear H6 H7 hS7 hq7 H8 hF8 ho8
    go_wp2_with fail
    go_ret
    exact ⟨rfl, hB8⟩
end Go.Proofs.Ytlalfagafbpkiaa
