/- StoreMany's walk. -/
import Derived.Test.YtpnpjblohijajaaGreatGrp48
namespace Go.Proofs.YtpnpjblohijajaaGreat
set_option linter.unusedSimpArgs false
set_option linter.unusedVariables false
set_option maxRecDepth 100000
open Go.RowKit Go.MapKept

def manyK (i : Nat) : List UInt8 := [107, UInt8.ofNat (48 + i)]
def manyW (i : Nat) : WrV := ⟨manyK i, [120], false⟩
def manyL (i : Nat) : ConL := (List.range (min i 40)).map fun j => (manyK j, [120])
theorem many_do : ∀ i, i < 40 → doL (manyL i) [manyW i] = manyL (i + 1) := by decide +kernel
theorem many_fits : ∀ i, i < 51 → FitsL (16 * 400) (manyL i) := by simp only [fits_iff, isTx_iff]; decide +kernel
theorem many_no : ∀ i, i < 50 → 40 ≤ i → ¬ FitsL (16 * 400) (doL (manyL i) [manyW i]) := by simp only [fits_iff, isTx_iff]; decide +kernel
theorem many_same : ∀ i, i < 50 → 40 ≤ i → manyL (i + 1) = manyL i := by decide +kernel
theorem many_is : ∀ i, i < 50 → IsTx [manyW i] := by simp only [fits_iff, isTx_iff]; decide +kernel
theorem many_len (i : Nat) : (manyL i).length = min i 40 := by unfold manyL; simp
def manyN : List WrV := [⟨[110, 101, 119], [121], false⟩]
def manyD : List WrV := [⟨[107, 48], [], true⟩, ⟨[110, 101, 119], [121], false⟩]
theorem many_new : IsTx manyN ∧ ∀ i, i < 51 → 40 ≤ i → ¬ FitsL (16 * 400) (doL (manyL i) manyN) := by simp only [fits_iff, isTx_iff]; decide +kernel
theorem many_drop : IsTx manyD ∧ ∀ i, i < 51 → 40 ≤ i → FitsL (16 * 400) (doL (manyL i) manyD) ∧ (doL (manyL i) manyD).length = 40 := by simp only [fits_iff, isTx_iff]; decide +kernel
set_option maxHeartbeats 8000000 in
theorem smany_walk (n : Nat) (w : World) (hn : n < 256) :
    Calls Tryz.prog 4 #[.int .u8 (n : Int)] w fun e w' => e = .returned (.bool true) ∧ Below w.heap.size w w' := by
  obtain ⟨M, hM⟩ : ∃ M, n % 50 = M := ⟨_, rfl⟩
  have hM1 : M < 50 := by omega
  have e1 : Int.tmod (n : Int) 50 = (M : Int) := by rw [Int.tmod_eq_emod_of_nonneg (by omega)]; omega
  have e2 : IntKind.u8.wrap (M : Int) = (M : Int) := by simp [IntKind.wrap, IntKind.bits, IntKind.signed]; omega
  clear hM
  go_enter Tryz.func4, Tryz.ntmps4
  go_wp2_with fail
  refine (knownS_any w).mono ?_
  rintro e w1 ⟨rfl, hq1⟩
  go_wp2_with fail
  refine (new_on w 400 w1 hq1 (by decide) (by decide)).mono ?_
  rintro e w2 ⟨p, kb, mb, rfl, H2, hq2, hF2⟩
  go_wp2_with fail
  refine (smake_sl w p kb mb 400 w2 H2 (by decide)).mono ?_
  rintro e w3 ⟨s, F, rfl, H3, hF3, ho3⟩
  clear H2 hq2 hF2 hF3 ho3 hq1
  go_wp2
  go_loopw [6] (fun iv wr => ∃ k F N, k ≤ M ∧ iv = .int .i64 (k : Nat) ∧ N ≤ 1 + k ∧ SL w wr s p kb mb 400 F (manyL k) N) (fun iv _ => M - (intOf iv).toNat)
  case atStart => exact ⟨0, F, 1, Nat.zero_le _, rfl, Nat.le_refl _, H3⟩
  case round =>
    clear H3
    obtain ⟨k, F, N, hk, rfl, hN, H⟩ := hrel
    by_cases hlt : k < M
    · have hltI : (k : Int) < (M : Int) := by omega
      have e3 : IntKind.u8.wrap (k : Int) = (k : Int) := by simp [IntKind.wrap, IntKind.bits, IntKind.signed]; omega
      have e4 : IntKind.u8.wrap (48 + (k : Int)) = ((48 + k : Nat) : Int) := by simp [IntKind.wrap, IntKind.bits, IntKind.signed]; omega
      go_wp2_with (first
        | (refine wpList_sliceB1 (by rfl) _ rfl (48 + k) (by omega) rfl ?_; intro w5 hB5 hq5 hs5)
        | (refine wpList_convS (by rfl) _ rfl (some ⟨wr.heap.size, 0, none⟩) 1 1 [UInt8.ofNat (48 + k)] rfl hB5 rfl ?_)
        | (refine wpList_catS (by rfl) _ _ rfl [107] [UInt8.ofNat (48 + k)] (by simp) rfl rfl ?_)
        | (refine build_wr2 (manyK k) [120] (by rfl) _ _ rfl rfl rfl ?_)
        | (refine wpList_slice_wrs1 (by rfl) _ rfl (manyW k) rfl ?_; intro w6 hW6 hq6 hs6)
        | fail)
      have H6 := (H.later hq5).later hq6
      by_cases h40 : k < 40
      · have hI40 : (k : Int) < 40 := by omega
        refine (sdo_sl w s p kb mb 400 F (manyL k) N (some ⟨w5.heap.size, 0, none⟩) 1 1 [manyW k] w6 H6 (by omega) hW6 rfl (fun ad had => by cases had; exact hs6) (many_is k (by omega)) (by rw [many_do k h40]; exact many_fits (k + 1) (by omega))).mono ?_
        rintro e w7 ⟨rfl, F7, H7, hF7, ho7⟩
        rw [many_do k h40] at H7
        clear H6 hW6 hq6 hs6 hB5 hq5 hs5 hF7 ho7 H
        go_wp2
        go_roundw
        case rel => exact ⟨k + 1, F7, N + 1, by omega, by go_num, by omega, H7⟩
        case measure => simp [intOf]; omega
      · have hI40 : ¬ (k : Int) < 40 := by omega
        refine (sroom_sl w s p kb mb 400 F (manyL k) N (some ⟨w5.heap.size, 0, none⟩) 1 1 [manyW k] w6 H6 hW6 rfl (fun ad had => by cases had; exact hs6) (many_is k (by omega)) (many_no k (by omega) (by omega))).mono ?_
        rintro e w7 ⟨rfl, H7, hq7⟩
        rw [← many_same k (by omega) (by omega)] at H7
        clear H6 hW6 hq6 hs6 hB5 hq5 hs5 hq7 H
        go_wp2
        go_roundw
        case rel => exact ⟨k + 1, F, N, by omega, by go_num, by omega, H7⟩
        case measure => simp [intOf]; omega
    · have hkM : k = M := by omega
      have hltI : ¬ (k : Int) < (M : Int) := by omega
      have hkM' : Hid (k = M) := hkM
      have hk4 := skeys_st s p kb mb 400 0 F (manyL k) N wr H.ok
      rw [many_len k] at hk4
      clear hkM hlt hk
      by_cases h40 : M < 40
      · have hmn : min k 40 = M := by rw [hkM'.out]; omega
        rw [hmn] at hk4
        replace hk4 : Hid _ := hk4
        have hI40 : (M : Int) < 40 := by omega
        have hmI : min (M : Int) 40 = (M : Int) := by omega
        clear hmn
        go_wp2_with fail
        refine Calls.mono hk4.out ?_
        rintro e w4 ⟨ao, ac, rfl, hS4, hlt4, hq4⟩
        have hB4 := (H.later hq4).below
        have hle4 := hS4.le
        have hcp4 := hS4.cap
        clear hk4 H hS4 hlt4 hq4
        go_wp2
        go_ret
        exact ⟨rfl, hB4⟩
      · have hmn : min k 40 = 40 := by rw [hkM'.out]; omega
        rw [hmn] at hk4
        replace hk4 : Hid _ := hk4
        have hI40 : ¬ (M : Int) < 40 := by omega
        have hmI : min (M : Int) 40 = 40 := by omega
        have hk51 : k < 51 := by have := hkM'.out; omega
        have hk40 : 40 ≤ k := by have := hkM'.out; omega
        clear hmn
        go_wp2_with fail
        refine Calls.mono hk4.out ?_
        rintro e w4 ⟨ao, ac, rfl, hS4, hlt4, hq4⟩
        have H4 := H.later hq4
        clear hk4 H hS4 hlt4 hq4
        go_wp2_with (first
          | (refine build_wr2 [110, 101, 119] [121] (by rfl) _ _ rfl rfl rfl ?_)
          | (refine wpList_slice_wrs1 (by rfl) _ rfl ⟨[110, 101, 119], [121], false⟩ rfl ?_; intro w5 hW5 hq5 hs5)
          | fail)
        have H5 := H4.later hq5
        refine (sroom_sl w s p kb mb 400 F (manyL k) N (some ⟨w4.heap.size, 0, none⟩) 1 1 manyN w5 H5 hW5 rfl (fun ad had => by cases had; exact hs5) many_new.1 (many_new.2 k hk51 hk40)).mono ?_
        rintro e w6 ⟨rfl, H6, hq6⟩
        clear H4 H5 hW5 hq5 hs5 hq6
        go_wp2_with (first
          | (refine build_wr02 [107, 48] true (by rfl) _ _ rfl rfl rfl ?_)
          | (refine build_wr2 [110, 101, 119] [121] (by rfl) _ _ rfl rfl rfl ?_)
          | (refine wpList_slice_wrs2 (by rfl) _ _ rfl ⟨[107, 48], [], true⟩ ⟨[110, 101, 119], [121], false⟩ rfl rfl ?_; intro w7 hW7 hq7 hs7)
          | fail)
        have H7 := H6.later hq7
        refine (sdo_sl w s p kb mb 400 F (manyL k) N (some ⟨w6.heap.size, 0, none⟩) 2 2 manyD w7 H7 (by omega) hW7 rfl (fun ad had => by cases had; exact hs7) many_drop.1 (many_drop.2 k hk51 hk40).1).mono ?_
        rintro e w8 ⟨rfl, F8, H8, hF8, ho8⟩
        have hk9 := skeys_st s p kb mb 400 0 F8 _ (N + 1) w8 H8.ok
        rw [(many_drop.2 k hk51 hk40).2] at hk9
        replace hk9 : Hid (Calls Tryz.prog _ _ _ _) := hk9
        have hB8 := H8.below
        clear H6 H7 hW7 hq7 hs7 hF8 ho8 H8
        go_wp2_with fail
        refine Calls.mono hk9.out ?_
        rintro e w9 ⟨bo, bc, rfl, hS9, hlt9, hq9⟩
        have hle9 := hS9.le
        have hcp9 := hS9.cap
        clear hk9 hS9 hlt9
        go_wp2
        go_ret
        exact ⟨rfl, hB8.trans (hq9.mono hB8.size)⟩
end Go.Proofs.YtpnpjblohijajaaGreat
