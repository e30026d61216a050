/- StoreLong's walk. -/
import Derived.Test.YtpnpjblohijajaaGreatGrp48
namespace Go.Proofs.YtpnpjblohijajaaGreat
set_option linter.unusedSimpArgs false
set_option linter.unusedVariables false
set_option maxRecDepth 100000
open Go.RowKit Go.MapKept

def longL (xs : List UInt8) : Nat → ConL
  | 0 => []
  | k + 1 => [([98], xs), ([110], [UInt8.ofNat k])]
def longT (xs : List UInt8) (k : Nat) : List WrV := [⟨[110], [UInt8.ofNat k], false⟩, ⟨[98], xs, false⟩]
theorem long_do (xs : List UInt8) (k : Nat) : doL (longL xs k) (longT xs k) = longL xs (k + 1) := by
  cases k with
  | zero => simp [longL, longT, doL, do1, putK, delK, insK, bytesBefore]
  | succ k => simp [longL, longT, doL, do1, putK, delK, insK, bytesBefore]
theorem long_fits (xs : List UInt8) (k : Nat) (h : xs.length ≤ 100) : FitsL (16 * 40) (longL xs (k + 1)) := ⟨by simp [longL], by simp [longL, sizeL]; omega⟩
theorem long_is (xs : List UInt8) (k : Nat) (h : xs.length ≤ 100) : IsTx (longT xs k) := by
  refine ⟨by simp [longT], by simp [longT], fun x hx => ?_⟩
  simp [longT] at hx
  rcases hx with rfl | rfl
  · exact ⟨by simp, by simp, by simp, fun h => by cases h⟩
  · exact ⟨by simp, by simp, by show xs.length ≤ 6000; omega, fun h => by cases h⟩
set_option maxHeartbeats 8000000 in
theorem slong_walk (n : Nat) (ao : Option Addr) (c : Nat) (xs : List UInt8) (w : World) (hn : n < 256) (hB : By w ao c xs) :
    Calls Tryz.prog 7 #[.int .u8 (n : Int), .slice ao xs.length c] w fun e w' => e = .returned (.bool true) ∧ Below w.heap.size w w' := by
  obtain ⟨L, hL⟩ : ∃ L, xs.length = L := ⟨_, rfl⟩
  rw [hL]
  have hle := hB.le
  have hcap := hB.cap
  rw [hL] at hle
  have hL' : Hid (xs.length = L) := hL
  clear hL
  by_cases hlen : 100 < L
  · have hI : (100 : Int) < (L : Int) := by omega
    go_enter Tryz.func7, Tryz.ntmps7
    go_wp2_with fail
    refine (knownS_any w).mono ?_
    rintro e w1 ⟨rfl, hq1⟩
    go_wp2
    go_ret
    exact ⟨rfl, hq1⟩
  · have hI : ¬ (100 : Int) < (L : Int) := by omega
    obtain ⟨M, hM⟩ : ∃ M, n % 120 = M := ⟨_, rfl⟩
    have hM1 : M < 120 := by omega
    have e1 : Int.tmod (n : Int) 120 = (M : Int) := by rw [Int.tmod_eq_emod_of_nonneg (by omega)]; omega
    have e2 : IntKind.u8.wrap (M : Int) = (M : Int) := by simp [IntKind.wrap, IntKind.bits, IntKind.signed]; omega
    have hxl : Hid (xs.length ≤ 100) := by show _ ≤ _; have := hL'.out; omega
    clear hM
    go_enter Tryz.func7, Tryz.ntmps7
    go_wp2_with fail
    refine (knownS_any w).mono ?_
    rintro e w1 ⟨rfl, hq1⟩
    go_wp2_with fail
    refine (new_on w 40 w1 hq1 (by decide) (by decide)).mono ?_
    rintro e w2 ⟨p, kb, mb, rfl, H2, hq2, hF2⟩
    go_wp2_with fail
    refine (smake_sl w p kb mb 40 w2 H2 (by decide)).mono ?_
    rintro e w3 ⟨s, F, rfl, H3, hF3, ho3⟩
    clear H2 hq2 hF2 hF3 ho3 hq1
    go_wp2
    go_loopw [8] (fun iv wr => ∃ k F, k ≤ M + 1 ∧ iv = .int .i64 (k : Nat) ∧ SL w wr s p kb mb 40 F (longL xs k) (1 + k)) (fun iv _ => M + 1 - (intOf iv).toNat)
    case atStart => exact ⟨0, F, Nat.zero_le _, rfl, H3⟩
    case round =>
      clear H3
      obtain ⟨k, F, hk, rfl, H⟩ := hrel
      by_cases hlt : k ≤ M
      · have hltI : (k : Int) ≤ (M : Int) := by omega
        have e3 : IntKind.u8.wrap (k : Int) = (k : Int) := by simp [IntKind.wrap, IntKind.bits, IntKind.signed]; omega
        have hBr := hB.later H.below
        go_wp2_with (first
          | (refine wpList_sliceB1 (by rfl) _ rfl k (by omega) rfl ?_; intro w5 hB5 hq5 hs5; replace hBr := hBr.later hq5)
          | (refine wpList_convS (by rfl) _ rfl (some ⟨wr.heap.size, 0, none⟩) 1 1 [UInt8.ofNat k] rfl hB5 rfl ?_)
          | (refine wpList_convS (by rfl) _ rfl ao L c xs rfl hBr hL'.out.symm ?_)
          | (refine build_wr2 [110] [UInt8.ofNat k] (by rfl) _ _ rfl rfl rfl ?_)
          | (refine build_wr2 [98] xs (by rfl) _ _ rfl rfl rfl ?_)
          | (refine wpList_slice_wrs2 (by rfl) _ _ rfl ⟨[110], [UInt8.ofNat k], false⟩ ⟨[98], xs, false⟩ rfl rfl ?_; intro w6 hW6 hq6 hs6)
          | fail)
        have H6 := (H.later hq5).later hq6
        refine (sdo_sl w s p kb mb 40 F (longL xs k) (1 + k) (some ⟨w5.heap.size, 0, none⟩) 2 2 (longT xs k) w6 H6 (by omega) hW6 rfl (fun ad had => by cases had; exact hs6) (long_is xs k hxl.out) (by rw [long_do]; exact long_fits xs k hxl.out)).mono ?_
        rintro e w7 ⟨rfl, F7, H7, hF7, ho7⟩
        rw [long_do] at H7
        clear H6 hW6 hq6 hs6 hB5 hq5 hs5 hF7 ho7 H hBr
        go_wp2
        go_roundw
        case rel => exact ⟨k + 1, F7, by omega, by go_num, H7⟩
        case measure => simp [intOf]; omega
      · have hkM : k = M + 1 := by omega
        have hltI : ¬ (k : Int) ≤ (M : Int) := by omega
        subst hkM
        go_wp2_with (first
          | (refine wpList_sliceB1 (by rfl) _ rfl 1 (by decide) rfl ?_; intro w5 hB5 hq5 hs5)
          | fail)
        have H5 := H.later hq5
        have hnF : ¬ F wr.heap.size := fun z => by have := H.ok.lt _ z; omega
        refine (scrash_sl w s p kb mb 40 F (longL xs (M + 1)) (1 + (M + 1)) (some ⟨wr.heap.size, 0, none⟩) 1 1 [UInt8.ofNat 1] w5 H5 hB5 rfl (fun ad had _ => by cases had; exact ⟨hs5, hnF⟩)).mono ?_
        rintro e w6 ⟨rfl, H6, ho6⟩
        clear H H5 hB5 hq5 hs5 ho6 hnF
        go_wp2_with fail
        refine (sopen_sl w p kb mb 40 (longL xs (M + 1)) (1 + (M + 1)) w6 H6).mono ?_
        rintro e w7 ⟨s7, F7, rfl, H7, hF7, hq7⟩
        clear H6 hF7 hq7
        have hg1 := sget_st s7 p kb mb 40 0 F7 (longL xs (M + 1)) (1 + (M + 1)) [110] w7 H7.ok (by decide)
        have a1 : (getK (longL xs (M + 1)) [110]).getD [] = [UInt8.ofNat M] := by simp [longL, getK]
        have a2 : (getK (longL xs (M + 1)) [110]).isSome = true := by simp [longL, getK]
        rw [a1, a2] at hg1
        unfold strV at hg1
        replace hg1 : Hid _ := hg1
        clear a1 a2
        go_wp2_with fail
        refine Calls.mono hg1.out ?_
        rintro e w8 ⟨rfl, hq8⟩
        have H8 := H7.later hq8
        have hg2 := sget_st s7 p kb mb 40 0 F7 (longL xs (M + 1)) (1 + (M + 1)) [98] w8 H8.ok (by decide)
        have a1 : (getK (longL xs (M + 1)) [98]).getD [] = xs := by simp [longL, getK]
        have a2 : (getK (longL xs (M + 1)) [98]).isSome = true := by simp [longL, getK]
        rw [a1, a2] at hg2
        unfold strV at hg2
        replace hg2 : Hid _ := hg2
        clear hg1 hq8 H7 a1 a2
        go_wp2_with fail
        refine Calls.mono hg2.out ?_
        rintro e w9 ⟨rfl, hq9⟩
        have H9 := H8.later hq9
        have hB9 := H9.below
        have hBr := hB.later hB9
        clear hg2 hq9 H8 H9
        go_wp2_with (first
          | (refine wpList_sliceB1 (by rfl) _ rfl M (by omega) rfl ?_; intro w10 hB10 hq10 hs10; replace hBr := hBr.later hq10)
          | (refine wpList_convS (by rfl) _ rfl (some ⟨w9.heap.size, 0, none⟩) 1 1 [UInt8.ofNat M] rfl hB10 rfl ?_)
          | (refine wpList_convS (by rfl) _ rfl ao L c xs rfl hBr hL'.out.symm ?_)
          | fail)
        go_ret
        exact ⟨rfl, hB9.trans (hq10.mono hB9.size)⟩
end Go.Proofs.YtpnpjblohijajaaGreat
