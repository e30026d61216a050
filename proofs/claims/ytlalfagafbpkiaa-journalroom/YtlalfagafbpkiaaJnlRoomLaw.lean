/- JournalRoom's walk. -/
import Derived.Test.YtlalfagafbpkiaaGrp40
namespace Go.Proofs.Ytlalfagafbpkiaa
set_option linter.unusedSimpArgs false
set_option linter.unusedVariables false
set_option maxRecDepth 100000
open Go.RowKit Go.MapKept

set_option maxHeartbeats 32000000 in
theorem room_walk (sc : Nat) (ao : Option Addr) (ac : Nat) (xs : List Nat) (w : World) (hsc : sc < 256) (hS : Sl w ao ac 1 (xs.map (fun x : Nat => [Value.int .u16 (x : Int)]))) (hx : ∀ x ∈ xs, x ≤ 65535) (hla : ∀ ad, ao = some ad → ad.block < w.heap.size) :
    Calls Try.prog 4 #[.int .u8 (sc : Int), .slice ao xs.length ac] w fun e w' => e = .returned (.bool true) ∧ Below w.heap.size w w' := by
  have hle : xs.length ≤ ac := by have := hS.le; rwa [List.length_map] at this
  have hcap := hS.cap
  obtain ⟨r, hr⟩ : ∃ r, sc % 60 = r := ⟨_, rfl⟩
  have hr1 : r < 60 := by omega
  replace hr : Hid _ := hr
  obtain ⟨n, hn⟩ : ∃ n, r + 8 = n := ⟨_, rfl⟩
  have hnI : (r : Int) + 8 = (n : Int) := by omega
  have hn8 : 8 ≤ n := by omega
  have hn67 : n ≤ 67 := by omega
  obtain ⟨B, hB⟩ : ∃ B, limitM n = B := ⟨_, rfl⟩
  have hB1 : B ≤ 1900 := by unfold limitM at hB; omega
  have hBI : 64 * ((n : Int) / 2 - 4) = (B : Int) := by unfold limitM at hB; omega
  obtain ⟨L, hL⟩ : ∃ L, xs.length = L := ⟨_, rfl⟩
  rw [hL] at hle ⊢
  obtain ⟨i0, hi0, hz0, hz1, hz2⟩ := byte_full
  go_enter Try.func4, Try.ntmps4
  go_wp2_with fail
  refine (known_any w).mono ?_
  rintro e w1 ⟨rfl, hB1'⟩
  by_cases h1 : L ≤ 40
  case neg =>
    have h1I : (40 : Int) < (L : Int) := by omega
    clear hn hB hBI hnI
    go_wp2_with fail
    go_ret
    exact ⟨rfl, hB1'⟩
  have h1I : ¬ (40 : Int) < (L : Int) := by omega
  clear hn
  go_wp2_with (first
    | (refine wpList_val (.int .u8 (r : Int)) (by rfl) (run_rem_u8 _ _ _ _ rfl sc 60 r rfl rfl hsc (by decide) hr.out) ?_)
    | fail)
  refine (new_on w n w1 hB1' (by omega) (by omega)).mono ?_
  rintro e w2 ⟨p, kb, mb, rfl, H2, hq2, hF2⟩
  clear hq2 hF2 hB1' h1I hnI
  go_wp2_with fail
  refine (format_on w p kb mb n w2 H2 hn8).mono ?_
  rintro e w3 ⟨j, rfl, H3, hj, ho3⟩
  clear H2 hj ho3
  go_wp2_with fail
  go_loopw [9, 10] (fun uv iv wr => ∃ (q N : Nat) (lo : Option Addr) (lc : Nat) (l : List (List UInt8)), q ≤ L ∧ N ≤ q + 1 ∧ iv = .int .i64 (q : Nat) ∧ uv = .int .i64 (takenM l : Nat) ∧ takenM l ≤ B ∧ JL w wr j p kb mb n lo lc l N) (fun _ iv _ => L - (intOf iv).toNat)
  case atStart => exact ⟨0, 1, none, 0, [], Nat.zero_le _, by omega, rfl, rfl, Nat.zero_le _, H3⟩
  case round =>
    obtain ⟨q, N, lo, lc, l, hq, hN, rfl, rfl, hlB, H5⟩ := hrel
    clear H3
    obtain ⟨T, hT⟩ : ∃ T, takenM l = T := ⟨_, rfl⟩
    rw [hT] at hlB ⊢
    by_cases hlt : q < L
    · have hltI : (q : Int) < (L : Int) := by omega
      obtain ⟨R, hR⟩ : ∃ R, roomM n l = R := ⟨_, rfl⟩
      have hRv : R = B - (T + 16) := by rw [← hR]; unfold roomM; rw [hB, hT]
      have hroom := room_on w j p kb mb n lo lc l N wr H5
      rw [hR] at hroom
      replace hroom : Hid _ := hroom
      have hmx : max (0 : Int) ((B : Int) - (T : Int) - 16) = (R : Int) := by omega
      have hwr1 : IntKind.i64.wrap ((B : Int) - (T : Int) - 16) = (B : Int) - (T : Int) - 16 := by rw [IntKind.wrap_i64]; omega
      cases ao with
      | none => have := hS.nil rfl; omega
      | some ad =>
        go_wp2_with fail
        refine Calls.mono hroom.out ?_
        rintro e w5 ⟨rfl, H6, hb6⟩
        clear hroom
        have hql : q < xs.length := by omega
        have c1 : w5.cell? (ad.add q) = some (.int .u16 (xs[q] : Int)) := by
          have c0 := hS.at' ad rfl q (by rw [List.length_map]; exact hql) 0 (by decide)
          rw [Nat.mul_one, Nat.add_zero, List.getElem_map] at c0
          rw [H6.below.cell (World.block_lt_of_cell? w _ c0)]
          exact c0
        have hx1 := hx _ (List.getElem_mem hql)
        obtain ⟨x, hxq⟩ : ∃ x, xs[q] = x := ⟨_, rfl⟩
        rw [hxq] at c1 hx1
        obtain ⟨k, hk⟩ : ∃ k, x % 400 = k := ⟨_, rfl⟩
        have hk4 : k < 400 := by omega
        have hx2 : x < 65536 := by omega
        replace hk : Hid _ := hk
        clear hxq hql H5 hb6
        go_wp2_with (first
          | (refine wpList_val (.int .u16 (k : Int)) (by rfl) (run_rem_u16 _ _ _ _ rfl x 400 k rfl rfl hx2 (by decide) hk.out) ?_)
          | (refine wpList_make_full _ rfl _ _ 23 rfl w5.heap.size 5 i0 (.int .u8 0) 1 Try.underlying23 hi0 hz0 hz1 _ _ _ _ k rfl rfl rfl rfl (by rw [hz2]; omega) (by unfold maxLen; omega) (Nat.le_refl _) ?_)
          | fail)
        intro w6 hown hgrow
        have hB6 : By w6 (some ⟨w5.heap.size, 0, none⟩) k (List.replicate k 0) := zero_has k w5.heap.size w5 w6 (by rw [show (madeCells (Value.int .u8 0).cells (k * 1)) = madeCells #[.int .u8 0] k by rw [Nat.mul_one]; rfl]; exact hown) (by omega)
        have hb6 : Below w5.heap.size w5 w6 := (Below.refl w5.heap.size w5).grown hgrow (Nat.le_refl _) (fun k hk => by cases hk)
        have H7 := H6.later hb6
        have hcv := zero_str k w6 _ hB6
        have hlz : (List.replicate k (0 : UInt8)).length = k := by simp
        obtain ⟨z, hz⟩ : ∃ z, List.replicate k (0 : UInt8) = z := ⟨_, rfl⟩
        rw [hz] at hcv hlz
        have hz1' : takenM (l ++ [z]) = T + (k + 16) := by
          rw [takenM_app, hT]
          show T + (z.length + 16) = _
          rw [hlz]
        clear hown hgrow hB6 hb6 H6 hz hi0 hz0 hz1 hz2 hr hk c1 hmx
        by_cases hf : T + (k + 16) ≤ B
        · have q1 : (k : Int) ≤ (R : Int) := by omega
          have q2 : (0 : Int) ≤ (B : Int) - (T : Int) - 16 := by omega
          have q3 : IntKind.i64.wrap ((T : Int) + (k : Int)) = (T : Int) + (k : Int) := by rw [IntKind.wrap_i64]; omega
          have q4 : IntKind.i64.wrap ((T : Int) + (k : Int) + 16) = (T : Int) + (k : Int) + 16 := by rw [IntKind.wrap_i64]; omega
          go_wp2_with fail
          refine (append_on w j p kb mb n lo lc l N z w6 H7 (by omega) (by omega) (by rw [hT, hlz, hB]; exact hf)).mono ?_
          rintro e w7 ⟨rfl, lo7, lc7, H8, hF8, ho8⟩
          clear H7 hF8 ho8 hcv
          go_wp2_with fail
          go_roundw
          case rel => exact ⟨q + 1, N + 1, lo7, lc7, l ++ [z], by omega, by omega, by go_num, by rw [hz1']; go_num, by omega, H8⟩
          case measure => simp [intOf]; omega
        · go_wp2_with fail
          refine (append_no_on w j p kb mb n lo lc l N z w6 H7 (.inr (by rw [hT, hlz, hB]; exact hf))).mono ?_
          rintro e w7 ⟨rfl, H8, hb8⟩
          rw [if_neg (by omega)]
          clear H7 hb8 hcv
          by_cases hkr : k ≤ R
          · have q1 : (k : Int) ≤ (R : Int) := by omega
            have q2 : ¬ (0 : Int) ≤ (B : Int) - (T : Int) - 16 := by omega
            go_wp2_with fail
            go_roundw
            case rel => exact ⟨q + 1, N, lo, lc, l, by omega, by omega, by go_num, by rw [hT], by omega, H8⟩
            case measure => simp [intOf]; omega
          · have q1 : ¬ (k : Int) ≤ (R : Int) := by omega
            go_wp2_with fail
            go_roundw
            case rel => exact ⟨q + 1, N, lo, lc, l, by omega, by omega, by go_num, by rw [hT], by omega, H8⟩
            case measure => simp [intOf]; omega
    · have hltI : ¬ (q : Int) < (L : Int) := by omega
      have hmx : (max (0 : Int) ((B : Int) - 16) ≤ ((B - 16 : Nat) : Int)) := by omega
      obtain ⟨R, hR⟩ : ∃ R, B - 16 = R := ⟨_, rfl⟩
      have hmx : max (0 : Int) ((B : Int) - 16) = (R : Int) := by omega
      have hroom : roomM n [] = R := by unfold roomM; rw [hB, ← hR]; rfl
      go_wp2_with fail
      refine (replace_on w j p kb mb n lo lc l N none 0 [] wr H5 (by omega) (Strs.nothing _) (fun ad had => by cases had) (fun r hr => by cases hr) (Nat.zero_le _)).mono ?_
      rintro e w7 ⟨rfl, lo7, lc7, H8, hF8, ho8⟩
      clear H5 hF8 ho8
      go_wp2_with fail
      refine (all_on w j p kb mb n lo7 lc7 [] (N + 1) w7 H8).mono ?_
      rintro e w8 ⟨bo, bc, rfl, hS8, hbo, H9, hb9⟩
      have hnil : ([] : List (List UInt8)).length = 0 := rfl
      rw [hnil]
      clear hS8 hbo hb9 H8 hnil
      go_wp2_with fail
      refine (room_on w j p kb mb n lo7 lc7 [] (N + 1) w8 H9).mono ?_
      rintro e w9 ⟨rfl, H10, hb10⟩
      rw [hroom]
      have hB10 : Below w.heap.size w w9 := H10.below
      clear H9 H10 hb10 hroom
      go_wp2_with fail
      go_ret
      exact ⟨rfl, hB10⟩
end Go.Proofs.Ytlalfagafbpkiaa
