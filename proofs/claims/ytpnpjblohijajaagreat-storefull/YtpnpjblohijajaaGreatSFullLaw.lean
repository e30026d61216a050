/- StoreFull's walk. -/
import Derived.Test.YtpnpjblohijajaaGreatGrp48
namespace Go.Proofs.YtpnpjblohijajaaGreat
set_option linter.unusedSimpArgs false
set_option linter.unusedVariables false
set_option maxRecDepth 100000
open Go.RowKit Go.MapKept

theorem zero_hasS (n : Nat) (b : Nat) (w : World) (h : w.ownsRow b 5 1 (.slice (some ⟨b, 0, none⟩) n n) n (madeCells (Value.int .u8 0).cells (n * 1)).toList) (hn : n ≤ 1000000) : By w (some ⟨b, 0, none⟩) n (List.replicate n 0) := by
  rw [made0] at h
  have hG : Has w b 5 (Bs (List.replicate n 0)).toArray := bytes_has (by simp) h
  have := by_block hG (by simp; omega)
  simpa using this
def zs (n : Nat) : List UInt8 := List.replicate n 0
theorem zs_len (n : Nat) : (zs n).length = n := by unfold zs; simp
section
variable {ops : Array Oper} {rest : List Oper} {o : Oper} {a : Act} {w : World} {Q : Exit → Act → World → Prop}
theorem wpList_makeZ (hg : o.guard = none) (x : Operand) (hop : o.op = .makeSlice 34 x x) (n : Nat) (hn : n ≤ 1000000) (hx : a.eval x = .int .i64 (n : Int))
    (h : ∀ W, By W (some ⟨w.heap.size, 0, none⟩) n (zs n) → Below w.heap.size w W → w.heap.size < W.heap.size → wpList Tryz.prog ops Q rest (a.put o.dst (.slice (some ⟨w.heap.size, 0, none⟩) n n)) W) : wpList Tryz.prog ops Q (o :: rest) a w := by
  obtain ⟨i0, hi0, hz0, hz1, hz2⟩ := info_parts Tryz.infoByte
  refine wpList_make_full _ hg _ _ 34 hop w.heap.size 5 i0 (.int .u8 0) 1 Tryz.underlying34 hi0 hz0 hz1 _ _ _ _ n hx hx rfl rfl (by rw [hz2]; omega) (by unfold maxLen; omega) (Nat.le_refl _) ?_
  intro W hown hgrow
  have hB := zero_hasS n w.heap.size W hown hn
  have hb : Below w.heap.size w W := (Below.refl w.heap.size w).grown hgrow (Nat.le_refl _) (fun k hk => by cases hk)
  refine h W hB hb ?_
  rcases hown.2 with ⟨h0, _⟩ | ⟨g, cap, cur, hv, hb2, hc, _⟩
  · cases h0
  · cases hv
    exact (Array.getElem?_eq_some_iff.1 hc).1
end
def fullW (k : List UInt8) (n : Nat) : WrV := ⟨k, zs n, false⟩
theorem full_is (k : List UInt8) (n : Nat) (hk : k.length = 1) (hn : n ≤ 6000) : IsTx [fullW k n] := by
  refine ⟨by simp, by simp, fun x hx => ?_⟩
  rw [List.mem_singleton.1 hx]
  exact ⟨by show 1 ≤ k.length; omega, by show k.length ≤ 20; omega, by show (zs n).length ≤ 6000; rw [zs_len]; exact hn, fun h => by cases h⟩
theorem full_do1 (k b : List UInt8) : doL [] [⟨k, b, false⟩] = [(k, b)] := by simp [doL, do1, putK, delK, insK]
theorem full_size (k b : List UInt8) : sizeL [(k, b)] = k.length + b.length + 24 := by simp [sizeL]
theorem full_size2 (n m : Nat) : sizeL (doL [([97], zs n)] [fullW [98] m]) = n + m + 50 := by
  simp [doL, do1, putK, delK, insK, fullW, bytesBefore, sizeL, zs_len]
  omega
theorem full_do3 (n m : Nat) : doL [([97], zs n)] [⟨[97], [], true⟩, fullW [99] m] = [([99], zs m)] := by
  simp [doL, do1, putK, delK, insK, fullW]
theorem full_is2 (m : Nat) (hm : m ≤ 6000) : IsTx [⟨[97], [], true⟩, fullW [99] m] := by
  refine ⟨by simp, by simp, fun x hx => ?_⟩
  simp at hx
  rcases hx with rfl | rfl
  · exact ⟨by simp, by simp, by simp, fun _ => rfl⟩
  · exact ⟨by simp [fullW], by simp [fullW], by show (zs m).length ≤ 6000; rw [zs_len]; exact hm, fun h => by cases h⟩
set_option maxHeartbeats 8000000 in
theorem sfull_walk (n sc : Nat) (w : World) (hn : n < 65536) (hsc : sc < 256) :
    Calls Tryz.prog 6 #[.int .u16 (n : Int), .int .u8 (sc : Int)] w fun e w' => e = .returned (.bool true) ∧ Below w.heap.size w w' := by
  obtain ⟨M, hM⟩ : ∃ M, sc % 60 = M := ⟨_, rfl⟩
  have hM1 : M < 60 := by omega
  have e1 : Int.tmod (sc : Int) 60 = (M : Int) := by rw [Int.tmod_eq_emod_of_nonneg (by omega)]; omega
  have e2 : IntKind.u8.wrap (M : Int) = (M : Int) := by simp [IntKind.wrap, IntKind.bits, IntKind.signed]; omega
  obtain ⟨k, hk⟩ : ∃ k, M + 32 = k := ⟨_, rfl⟩
  have hk1 : 32 ≤ k := by omega
  have hk2 : k ≤ 91 := by omega
  have e3 : IntKind.i64.wrap ((M : Int) + 32) = (k : Int) := by rw [IntKind.wrap_i64]; omega
  obtain ⟨z, hz⟩ : ∃ z, n % 2000 = z := ⟨_, rfl⟩
  have hz1 : z < 2000 := by omega
  have e4 : Int.tmod (n : Int) 2000 = (z : Int) := by rw [Int.tmod_eq_emod_of_nonneg (by omega)]; omega
  have e5 : IntKind.u16.wrap (z : Int) = (z : Int) := by simp [IntKind.wrap, IntKind.bits, IntKind.signed]; omega
  obtain ⟨m, hm⟩ : ∃ m, 16 * k = m := ⟨_, rfl⟩
  have hm' : Hid (16 * k = m) := hm
  have hm1 : m ≤ 1456 := by omega
  have hm2 : 512 ≤ m := by omega
  have e6 : IntKind.i64.wrap (16 * (k : Int)) = (m : Int) := by rw [IntKind.wrap_i64]; omega
  have e7 : IntKind.i64.wrap ((z : Int) + 25) = ((z + 25 : Nat) : Int) := by rw [IntKind.wrap_i64]; omega
  obtain ⟨r, hr⟩ : ∃ r, m - 25 = r := ⟨_, rfl⟩
  have hr' : Hid (r + 25 = m) := by show _ = _; omega
  have hr1 : r ≤ 1456 := by omega
  have e8 : IntKind.i64.wrap ((m : Int) - 25) = (r : Int) := by rw [IntKind.wrap_i64]; omega
  clear hM hk hz hm hr
  have hfz : Hid (sizeL [([97], zs z)] = z + 25) := by show _ = _; rw [full_size, zs_len]; simp; omega
  obtain ⟨q, hq⟩ : ∃ q, z + 25 = q := ⟨_, rfl⟩
  rw [hq] at e7
  have hq' : Hid (z + 25 = q) := hq
  clear hq
  by_cases hfit : q ≤ m
  · have hI : (q : Int) ≤ (m : Int) := by omega
    have hd : decide ((q : Int) ≤ (m : Int)) = true := decide_eq_true hI
    go_enter Tryz.func6, Tryz.ntmps6
    go_wp2_with fail
    refine (knownS_any w).mono ?_
    rintro e w1 ⟨rfl, hq1⟩
    go_wp2_with fail
    refine (new_on w k w1 hq1 (by omega) (by omega)).mono ?_
    rintro e w2 ⟨p, kb, mb, rfl, H2, hq2, hF2⟩
    go_wp2_with fail
    refine (smake_sl w p kb mb k w2 H2 hk1).mono ?_
    rintro e w3 ⟨s, F, rfl, H3, hF3, ho3⟩
    clear H2 hq2 hF2 hF3 ho3 hq1
    go_wp2_with (first
      | (refine wpList_makeZ rfl _ rfl z (by omega) rfl ?_; intro w4 hB4 hq4 hs4)
      | (refine wpList_convS (by rfl) _ rfl (some ⟨w3.heap.size, 0, none⟩) z z (zs z) rfl hB4 (zs_len z).symm ?_)
      | (refine build_wr2 [97] (zs z) (by rfl) _ _ rfl rfl rfl ?_)
      | (refine wpList_slice_wrs1 (by rfl) _ rfl (fullW [97] z) rfl ?_; intro w5 hW5 hq5 hs5)
      | fail)
    have H5 := (H3.later hq4).later hq5
    have hdo : doL [] [fullW [97] z] = [([97], zs z)] := full_do1 _ _
    refine (sdo_sl w s p kb mb k F [] 1 (some ⟨w4.heap.size, 0, none⟩) 1 1 [fullW [97] z] w5 H5 (by decide) hW5 rfl (fun ad had => by cases had; exact hs5) (full_is _ _ rfl (by omega)) (by rw [hdo]; exact ⟨by simp, by rw [hfz.out, hq'.out, hm'.out]; exact hfit⟩)).mono ?_
    rintro e w6 ⟨rfl, F6, H6, hF6, ho6⟩
    rw [hdo] at H6
    clear H3 H5 hW5 hq5 hs5 hB4 hq4 hs4 hF6 ho6 hdo
    go_wp2_with (first
      | (refine wpList_makeZ rfl _ rfl m (by omega) rfl ?_; intro w7 hB7 hq7 hs7)
      | (refine wpList_convS (by rfl) _ rfl (some ⟨w6.heap.size, 0, none⟩) m m (zs m) rfl hB7 (zs_len m).symm ?_)
      | (refine build_wr2 [98] (zs m) (by rfl) _ _ rfl rfl rfl ?_)
      | (refine wpList_slice_wrs1 (by rfl) _ rfl (fullW [98] m) rfl ?_; intro w8 hW8 hq8 hs8)
      | fail)
    have H8 := (H6.later hq7).later hq8
    refine (sroom_sl w s p kb mb k F6 [([97], zs z)] (1 + 1) (some ⟨w7.heap.size, 0, none⟩) 1 1 [fullW [98] m] w8 H8 hW8 rfl (fun ad had => by cases had; exact hs8) (full_is _ _ rfl (by omega)) (fun h => by have := h.size; rw [full_size2, hm'.out] at this; omega)).mono ?_
    rintro e w9 ⟨rfl, H9, hq9⟩
    clear H6 H8 hW8 hq8 hs8 hB7 hq7 hs7 hq9
    go_wp2_with (first
      | (refine build_wr02 [97] true (by rfl) _ _ rfl rfl rfl ?_)
      | (refine wpList_makeZ rfl _ rfl r (by omega) rfl ?_; intro w10 hB10 hq10 hs10)
      | (refine wpList_convS (by rfl) _ rfl (some ⟨w9.heap.size, 0, none⟩) r r (zs r) rfl hB10 (zs_len r).symm ?_)
      | (refine build_wr2 [99] (zs r) (by rfl) _ _ rfl rfl rfl ?_)
      | (refine wpList_slice_wrs2 (by rfl) _ _ rfl ⟨[97], [], true⟩ (fullW [99] r) rfl rfl ?_; intro w11 hW11 hq11 hs11)
      | fail)
    have H11 := (H9.later hq10).later hq11
    have hsr : Hid (sizeL [([99], zs r)] = m) := by show _ = _; rw [full_size, zs_len]; have := hr'.out; simp; omega
    refine (sdo_sl w s p kb mb k F6 [([97], zs z)] (1 + 1) (some ⟨w10.heap.size, 0, none⟩) 2 2 [⟨[97], [], true⟩, fullW [99] r] w11 H11 (by decide) hW11 rfl (fun ad had => by cases had; exact hs11) (full_is2 r (by omega)) (by rw [full_do3]; exact ⟨by simp, by rw [hsr.out, hm'.out]; exact Nat.le_refl _⟩)).mono ?_
    rintro e w12 ⟨rfl, F12, H12, hF12, ho12⟩
    rw [full_do3] at H12
    have hz13 := ssize_st s p kb mb k 0 F12 [([99], zs r)] (1 + 1 + 1) w12 H12.ok
    rw [hsr.out] at hz13
    replace hz13 : Hid _ := hz13
    have hB12 := H12.below
    clear H9 H11 hW11 hq11 hs11 hB10 hq10 hs10 hF12 ho12 H12
    go_wp2_with fail
    refine Calls.mono hz13.out ?_
    rintro e w13 ⟨rfl, hq13⟩
    clear hz13
    go_wp2
    go_ret
    exact ⟨rfl, hB12.trans (hq13.mono hB12.size)⟩
  · have hI : ¬ (q : Int) ≤ (m : Int) := by omega
    have hd : decide ((q : Int) ≤ (m : Int)) = false := decide_eq_false hI
    go_enter Tryz.func6, Tryz.ntmps6
    go_wp2_with fail
    refine (knownS_any w).mono ?_
    rintro e w1 ⟨rfl, hq1⟩
    go_wp2_with fail
    refine (new_on w k w1 hq1 (by omega) (by omega)).mono ?_
    rintro e w2 ⟨p, kb, mb, rfl, H2, hq2, hF2⟩
    go_wp2_with fail
    refine (smake_sl w p kb mb k w2 H2 hk1).mono ?_
    rintro e w3 ⟨s, F, rfl, H3, hF3, ho3⟩
    clear H2 hq2 hF2 hF3 ho3 hq1
    go_wp2_with (first
      | (refine wpList_makeZ rfl _ rfl z (by omega) rfl ?_; intro w4 hB4 hq4 hs4)
      | (refine wpList_convS (by rfl) _ rfl (some ⟨w3.heap.size, 0, none⟩) z z (zs z) rfl hB4 (zs_len z).symm ?_)
      | (refine build_wr2 [97] (zs z) (by rfl) _ _ rfl rfl rfl ?_)
      | (refine wpList_slice_wrs1 (by rfl) _ rfl (fullW [97] z) rfl ?_; intro w5 hW5 hq5 hs5)
      | fail)
    have H5 := (H3.later hq4).later hq5
    have hdo : doL [] [fullW [97] z] = [([97], zs z)] := full_do1 _ _
    refine (sroom_sl w s p kb mb k F [] 1 (some ⟨w4.heap.size, 0, none⟩) 1 1 [fullW [97] z] w5 H5 hW5 rfl (fun ad had => by cases had; exact hs5) (full_is _ _ rfl (by omega)) (fun h => hfit (by have := h.size; rw [hdo, hfz.out, hq'.out, hm'.out] at this; exact this))).mono ?_
    rintro e w6 ⟨rfl, H6, hq6⟩
    clear H3 H5 hW5 hq5 hs5 hB4 hq4 hs4 hq6 hdo
    have hz7 := ssize_st s p kb mb k 0 F [] 1 w6 H6.ok
    replace hz7 : Hid (Calls Tryz.prog _ _ _ _) := hz7
    go_wp2_with fail
    refine Calls.mono hz7.out ?_
    rintro e w7 ⟨rfl, hq7⟩
    have H7 := H6.later hq7
    have e0 : sizeL [] = 0 := rfl
    rw [e0]
    have hk8 := skeys_st s p kb mb k 0 F [] 1 w7 H7.ok
    replace hk8 : Hid (Calls Tryz.prog _ _ _ _) := hk8
    clear hz7 H6 hq7 e0
    go_wp2_with fail
    refine Calls.mono hk8.out ?_
    rintro e w8 ⟨ao, ac, rfl, hS8, hlt8, hq8⟩
    have H8 := H7.later hq8
    have e0 : ([] : ConL).length = 0 := rfl
    rw [e0]
    clear hk8 H7 hS8 hlt8 hq8 e0
    go_wp2_with (first
      | (refine build_wr2 [97] [120] (by rfl) _ _ rfl rfl rfl ?_)
      | (refine wpList_slice_wrs1 (by rfl) _ rfl ⟨[97], [120], false⟩ rfl ?_; intro w9 hW9 hq9 hs9)
      | fail)
    have H9 := H8.later hq9
    refine (sdo_sl w s p kb mb k F [] 1 (some ⟨w8.heap.size, 0, none⟩) 1 1 [⟨[97], [120], false⟩] w9 H9 (by decide) hW9 rfl (fun ad had => by cases had; exact hs9) ((isTx_iff _).2 (by decide)) ⟨by decide, by rw [full_do1, full_size, hm'.out]; simp; omega⟩).mono ?_
    rintro e w10 ⟨rfl, F10, H10, hF10, ho10⟩
    have hB10 := H10.below
    clear H8 H9 hW9 hq9 hs9 hF10 ho10 H10
    go_wp2
    go_ret
    exact ⟨rfl, hB10⟩
end Go.Proofs.YtpnpjblohijajaaGreat
