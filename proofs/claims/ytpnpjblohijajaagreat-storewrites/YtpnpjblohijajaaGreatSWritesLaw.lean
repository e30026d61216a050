/- StoreWrites' walk. -/
import Derived.Test.YtpnpjblohijajaaGreatGrp48
namespace Go.Proofs.YtpnpjblohijajaaGreat
set_option linter.unusedSimpArgs false
set_option linter.unusedVariables false
set_option maxRecDepth 100000
open Go.RowKit Go.MapKept

theorem wrs_ownHas {w : World} {base g : Nat} {l : List WrV} (h : Has w g 41 (wrF l).toArray) (hb : base ≤ g) (hl : l.length ≤ 1000) : w.ownsRow base 41 3 (.slice (some ⟨g, 0, none⟩) l.length l.length) l.length (wrF l) := by
  refine ⟨by rw [wrF_len], .inr ⟨g, l.length, (wrF l).toArray, rfl, hb, h, Nat.le_refl _, by unfold maxLen; omega, by rw [List.size_toArray, wrF_len], ?_⟩⟩
  show (wrF l).toArray.toList.take (l.length * 3) = wrF l
  rw [List.take_of_length_le (by rw [Array.length_toList, List.size_toArray, wrF_len]; exact Nat.le_refl _)]
theorem wpList_slice_wrs3h {ops : Array Oper} {rest : List Oper} {o : Oper} {a : Act} {w : World} {Q : Exit → Act → World → Prop} (hw : Region.wanted o (yielded ops a.tmps) = true) (x y z : Operand) (ho : o.op = .buildSlice 33 3 #[(0, x), (1, y), (2, z)]) (e f g : WrV) (hx : a.eval x = .agg (wrC e)) (hy : a.eval y = .agg (wrC f)) (hz : a.eval z = .agg (wrC g))
    (h : ∀ W, Has W w.heap.size 41 (wrF [e, f, g]).toArray → Below w.heap.size w W → w.heap.size < W.heap.size → wpList Tryz.prog ops Q rest (a.put o.dst (.slice (some ⟨w.heap.size, 0, none⟩) 3 3)) W) : wpList Tryz.prog ops Q (o :: rest) a w := by
  refine BigFrame.wpList_want hw fun K hK => ?_
  have hp : (#[(0, x), (1, y), (2, z)] : Array (Nat × Operand)).map (fun (i, x) => (i, a.eval x)) = #[(0, .agg (wrC e)), (1, .agg (wrC f)), (2, .agg (wrC g))] := by simp [hx, hy, hz]
  have e1 : (execOp a.eval o).run Tryz.prog w = .ok (.value (.slice (some ⟨w.heap.size, 0, none⟩) 3 3)) (w.alloc (.cells (wrF [e, f, g]).toArray 41)) := by
    unfold execOp
    simp only [ho]
    simp only [hp, Sem.run_bind, slice_wr3_w e f g w, Result.andThen_ok, Sem.run_pure]
  unfold Oper.wp
  rw [e1]
  exact hK _ _ (h _ (Has.new _ _ _) ((Below.refl _ _).alloc (Nat.le_refl _) _) (by simp))
theorem StAt.parts {w : World} {s p kb mb n left : Nat} {F : Nat → Prop} {l : ConL} {N : Nat} (H : StAt w s p kb mb n left F l N) : ∃ j cb room, Has w s 69 (stoC j cb room) ∧ ContAt w cb l ∧ ¬ DF p kb mb s ∧ ¬ DF p kb mb cb := by
  obtain ⟨j, cb, lo, lc, ts, hX, hJ, hC, _, _, ⟨_, h2, h3⟩, _⟩ := H.ok
  exact ⟨j, cb, _, hX, hC, fun z => h2 (.inr (.inl z)), fun z => h3 (.inr (.inl z))⟩
def wriT (a b : List UInt8) (d : Bool) : List WrV := [⟨[107], a, false⟩, ⟨[109], b, false⟩, ⟨[107], b, false⟩] ++ if d then [⟨[109], [], true⟩] else []
def wriL (b : List UInt8) (d : Bool) : ConL := [([107], b)] ++ if d then [] else [([109], b)]
theorem wri_do (a b : List UInt8) (d : Bool) : doL [] (wriT a b d) = wriL b d := by
  cases d <;> simp [wriT, wriL, doL, do1, putK, delK, insK, bytesBefore]
theorem wri_is (a b : List UInt8) (d : Bool) (ha : a.length ≤ 300) (hb : b.length ≤ 300) : IsTx (wriT a b d) := by
  refine ⟨by cases d <;> simp [wriT], by cases d <;> simp [wriT], fun x hx => ?_⟩
  have h1 : IsWr ⟨[107], a, false⟩ := ⟨by simp, by simp, by show a.length ≤ 6000; omega, fun h => by cases h⟩
  have h2 : IsWr ⟨[109], b, false⟩ := ⟨by simp, by simp, by show b.length ≤ 6000; omega, fun h => by cases h⟩
  have h3 : IsWr ⟨[107], b, false⟩ := ⟨by simp, by simp, by show b.length ≤ 6000; omega, fun h => by cases h⟩
  have h4 : IsWr ⟨[109], [], true⟩ := ⟨by simp, by simp, by simp, fun _ => rfl⟩
  cases d <;> simp [wriT] at hx
  · rcases hx with rfl | rfl | rfl
    · exact h1
    · exact h2
    · exact h3
  · rcases hx with rfl | rfl | rfl | rfl
    · exact h1
    · exact h2
    · exact h3
    · exact h4
theorem wri_fits (b : List UInt8) (d : Bool) (hb : b.length ≤ 300) : FitsL (16 * 100) (wriL b d) := ⟨by cases d <;> simp [wriL], by cases d <;> simp [wriL, sizeL] <;> omega⟩
theorem wri_no : ¬ IsTx [⟨[107], [111, 116, 104, 101, 114], false⟩, ⟨[], [], false⟩] := by rw [isTx_iff]; decide
set_option maxHeartbeats 8000000 in
theorem swrites_no (a b : List UInt8) (w : World) (ha : a.length ≤ 9223372036854775807) (hb : b.length ≤ 9223372036854775807) :
    Calls Tryz.prog 5 #[strV a, strV b, .bool false] w fun e w' => e = .returned (.bool true) ∧ Below w.heap.size w w' := by
  have za := mkS_size a
  have zb := mkS_size b
  obtain ⟨la, hla⟩ : ∃ n, (mkS a).size = n := ⟨_, rfl⟩
  obtain ⟨lb, hlb⟩ : ∃ n, (mkS b).size = n := ⟨_, rfl⟩
  have hla' : Hid (a.length = la) := za.symm.trans hla
  have hlb' : Hid (b.length = lb) := zb.symm.trans hlb
  rw [hla'.out] at ha
  rw [hlb'.out] at hb
  clear za zb
  unfold strV
  by_cases h1 : 300 < la
  · have hI : (300 : Int) < (la : Int) := by omega
    go_enter Tryz.func5, Tryz.ntmps5
    go_wp2_with fail
    refine (knownS_any w).mono ?_
    rintro e w1 ⟨rfl, hq1⟩
    go_wp2
    go_ret
    exact ⟨rfl, hq1⟩
  · have hI : ¬ (300 : Int) < (la : Int) := by omega
    by_cases h2 : 300 < lb
    · have hI2 : (300 : Int) < (lb : Int) := by omega
      go_enter Tryz.func5, Tryz.ntmps5
      go_wp2_with fail
      refine (knownS_any w).mono ?_
      rintro e w1 ⟨rfl, hq1⟩
      go_wp2
      go_ret
      exact ⟨rfl, hq1⟩
    · have hI2 : ¬ (300 : Int) < (lb : Int) := by omega
      have hal : Hid (a.length ≤ 300) := by show _ ≤ _; rw [hla'.out]; omega
      have hbl : Hid (b.length ≤ 300) := by show _ ≤ _; rw [hlb'.out]; omega
      go_enter Tryz.func5, Tryz.ntmps5
      go_wp2_with fail
      refine (knownS_any w).mono ?_
      rintro e w1 ⟨rfl, hq1⟩
      go_wp2_with fail
      refine (new_on w 100 w1 hq1 (by decide) (by decide)).mono ?_
      rintro e w2 ⟨p, kb, mb, rfl, H2, hq2, hF2⟩
      go_wp2_with fail
      refine (smake_sl w p kb mb 100 w2 H2 (by decide)).mono ?_
      rintro e w3 ⟨s, F, rfl, H3, hF3, ho3⟩
      clear H2 hq2 hF2 hF3 ho3 hq1
      go_wp2_with (first
        | (refine build_wr2 [107] a (by rfl) _ _ rfl rfl rfl ?_)
        | (refine build_wr2 [109] b (by rfl) _ _ rfl rfl rfl ?_)
        | (refine build_wr2 [107] b (by rfl) _ _ rfl rfl rfl ?_)
        | (refine wpList_slice_wrs3h (by rfl) _ _ _ rfl ⟨[107], a, false⟩ ⟨[109], b, false⟩ ⟨[107], b, false⟩ rfl rfl rfl ?_; intro w4 hW4 hq4 hs4)
        | fail)
      have H5 := H3.later hq4
      have hq5 : True := trivial
      have hW5 : Wrs w4 (some ⟨w3.heap.size, 0, none⟩) 3 (wriT a b false) := wrs_of hW4 (by simp)
      refine (sdo_sl w s p kb mb 100 F [] 1 (some ⟨w3.heap.size, 0, none⟩) 3 3 (wriT a b false) w4 H5 (by decide) hW5 rfl (fun ad had => by cases had; exact hs4) (wri_is a b false hal.out hbl.out) (by rw [wri_do]; exact wri_fits b false hbl.out)).mono ?_
      rintro e w6 ⟨rfl, F6, H6, hF6, ho6⟩
      clear H3 H5 hW4 hq4 hs4
      rw [wri_do] at H6
      clear hW5 hq5
      go_wp2_with (first
        | (refine build_wr2 [107] [111, 116, 104, 101, 114] (by rfl) _ _ rfl rfl rfl ?_)
        | (refine build_wr1 [] (by rfl) _ rfl rfl ?_)
        | (refine wpList_slice_wrs2 (by rfl) _ _ rfl ⟨[107], [111, 116, 104, 101, 114], false⟩ ⟨[], [], false⟩ rfl rfl ?_; intro w7 hW7 hq7 hs7)
        | fail)
      have H7 := H6.later hq7
      refine (sform_sl w s p kb mb 100 F6 (wriL b false) (1 + 1) (some ⟨w6.heap.size, 0, none⟩) 2 2 _ w7 H7 hW7 rfl (fun x hx => by simp at hx; rcases hx with rfl | rfl <;> simp) wri_no).mono ?_
      rintro e w8 ⟨rfl, H8, hq8⟩
      clear H6 H7 hW7 hq7 hs7 hq8 ho6 hF6
      have hg1 := sget_st s p kb mb 100 0 F6 (wriL b false) (1 + 1) [107] w8 H8.ok (by decide)
      have a1 : (getK (wriL b false) [107]).getD [] = b := by simp [wriL, getK]
      have a2 : (getK (wriL b false) [107]).isSome = true := by simp [wriL, getK]
      rw [a1, a2] at hg1
      unfold strV at hg1
      replace hg1 : Hid _ := hg1
      clear a1 a2
      go_wp2_with fail
      refine Calls.mono hg1.out ?_
      rintro e w9 ⟨rfl, hq9⟩
      have H9 := H8.later hq9
      have hg2 := sget_st s p kb mb 100 0 F6 (wriL b false) (1 + 1) [109] w9 H9.ok (by decide)
      have a1 : (getK (wriL b false) [109]).getD [] = b := by simp [wriL, getK]
      have a2 : (getK (wriL b false) [109]).isSome = true := by simp [wriL, getK]
      rw [a1, a2] at hg2
      unfold strV at hg2
      replace hg2 : Hid _ := hg2
      clear hg1 hq9 H8 a1 a2
      go_wp2_with fail
      refine Calls.mono hg2.out ?_
      rintro e w10 ⟨rfl, hq10⟩
      have H10 := H9.later hq10
      clear hg2 hq10 H9
      go_wp2_with (first
        | (refine wpList_sliceB3 (by rfl) _ _ _ rfl 3 200 255 (by decide) (by decide) (by decide) rfl rfl rfl ?_; intro w11 hB11 hq11 hs11)
        | fail)
      have H11 := H10.later hq11
      have hnF : ¬ F6 w10.heap.size := fun z => by have := H10.ok.lt _ z; omega
      obtain ⟨j, cb, room, hX11, hC11, hn1, hn2⟩ := H11.ok.parts
      refine (scrash_sl w s p kb mb 100 F6 (wriL b false) (1 + 1) (some ⟨w10.heap.size, 0, none⟩) 3 3 [UInt8.ofNat 3, UInt8.ofNat 200, UInt8.ofNat 255] w11 H11 hB11 rfl (fun ad had _ => by cases had; exact ⟨hs11, hnF⟩)).mono ?_
      rintro e w12 ⟨rfl, H12, ho12⟩
      have hX12 := ho12.has hX11 hn1
      have hC12 := hC11.off ho12 hn2
      clear H10 H11 hB11 hq11 hs11 ho12 hnF hX11 hC11 hn1 hn2
      go_wp2_with fail
      refine (sopen_sl w p kb mb 100 (wriL b false) (1 + 1) w12 H12).mono ?_
      rintro e w13 ⟨t, F13, rfl, H13, hF13, hq13⟩
      have hX13 := hX12.later hq13
      have hC13 := hC12.later hq13
      clear H12 hF13 hq13 hX12 hC12
      have hg3 := sget_st t p kb mb 100 0 F13 (wriL b false) (1 + 1) [107] w13 H13.ok (by decide)
      have a1 : (getK (wriL b false) [107]).getD [] = b := by simp [wriL, getK]
      have a2 : (getK (wriL b false) [107]).isSome = true := by simp [wriL, getK]
      rw [a1, a2] at hg3
      unfold strV at hg3
      replace hg3 : Hid _ := hg3
      clear a1 a2
      go_wp2_with fail
      refine Calls.mono hg3.out ?_
      rintro e w14 ⟨rfl, hq14⟩
      have H14 := H13.later hq14
      have hX14 := hX13.later hq14
      have hC14 := hC13.later hq14
      have hk1 := skeys_st t p kb mb 100 0 F13 (wriL b false) (1 + 1) w14 H14.ok
      have hlen : (wriL b false).length = 2 := rfl
      rw [hlen] at hk1
      replace hk1 : Hid _ := hk1
      clear hg3 hq14 H13 hX13 hC13
      go_wp2_with fail
      refine Calls.mono hk1.out ?_
      rintro e w15 ⟨ao, ac, rfl, hS15, hlt15, hq15⟩
      have H15 := H14.later hq15
      have hX15 := hX14.later hq15
      have hC15 := hC14.later hq15
      have hk2 := skeys_any s j cb room (wriL b false) w15 hX15 hC15 (by rw [hlen]; decide)
      rw [hlen] at hk2
      replace hk2 : Hid _ := hk2
      replace hlen : Hid _ := hlen
      clear hk1 hS15 hlt15 hq15 H14 hX14 hC14
      go_wp2_with fail
      refine Calls.mono hk2.out ?_
      rintro e w16 ⟨bo, bc, rfl, hS16, hlt16, hq16⟩
      have H16 := H15.later hq16
      have hX16 := hX15.later hq16
      have hC16 := hC15.later hq16
      have hz1 := ssize_st t p kb mb 100 0 F13 (wriL b false) (1 + 1) w16 H16.ok
      have hsb := H16.ok.size_ok.1
      obtain ⟨T, hT⟩ : ∃ T, sizeL (wriL b false) = T := ⟨_, rfl⟩
      rw [hT] at hz1
      have hT' : Hid (sizeL (wriL b false) = T) := hT
      replace hz1 : Hid _ := hz1
      clear hk2 hS16 hlt16 hq16 H15 hX15 hC15 hT
      go_wp2_with fail
      refine Calls.mono hz1.out ?_
      rintro e w17 ⟨rfl, hq17⟩
      have H17 := H16.later hq17
      have hX17 := hX16.later hq17
      have hC17 := hC16.later hq17
      have hz2 := ssize_any s j cb room (wriL b false) w17 hX17 hC17 hsb
      rw [hT'.out] at hz2
      replace hz2 : Hid _ := hz2
      have hB17 := H17.below
      clear hz1 hq17 H16 hX16 hC16 H17 hX17 hC17 hsb
      go_wp2_with fail
      refine Calls.mono hz2.out ?_
      rintro e w18 ⟨rfl, hq18⟩
      clear hz2
      go_wp2
      go_ret
      exact ⟨rfl, hB17.trans (hq18.mono hB17.size)⟩
set_option maxHeartbeats 8000000 in
theorem swrites_yes (a b : List UInt8) (w : World) (ha : a.length ≤ 9223372036854775807) (hb : b.length ≤ 9223372036854775807) :
    Calls Tryz.prog 5 #[strV a, strV b, .bool true] w fun e w' => e = .returned (.bool true) ∧ Below w.heap.size w w' := by
  have za := mkS_size a
  have zb := mkS_size b
  obtain ⟨la, hla⟩ : ∃ n, (mkS a).size = n := ⟨_, rfl⟩
  obtain ⟨lb, hlb⟩ : ∃ n, (mkS b).size = n := ⟨_, rfl⟩
  have hla' : Hid (a.length = la) := za.symm.trans hla
  have hlb' : Hid (b.length = lb) := zb.symm.trans hlb
  rw [hla'.out] at ha
  rw [hlb'.out] at hb
  clear za zb
  unfold strV
  by_cases h1 : 300 < la
  · have hI : (300 : Int) < (la : Int) := by omega
    go_enter Tryz.func5, Tryz.ntmps5
    go_wp2_with fail
    refine (knownS_any w).mono ?_
    rintro e w1 ⟨rfl, hq1⟩
    go_wp2
    go_ret
    exact ⟨rfl, hq1⟩
  · have hI : ¬ (300 : Int) < (la : Int) := by omega
    by_cases h2 : 300 < lb
    · have hI2 : (300 : Int) < (lb : Int) := by omega
      go_enter Tryz.func5, Tryz.ntmps5
      go_wp2_with fail
      refine (knownS_any w).mono ?_
      rintro e w1 ⟨rfl, hq1⟩
      go_wp2
      go_ret
      exact ⟨rfl, hq1⟩
    · have hI2 : ¬ (300 : Int) < (lb : Int) := by omega
      have hal : Hid (a.length ≤ 300) := by show _ ≤ _; rw [hla'.out]; omega
      have hbl : Hid (b.length ≤ 300) := by show _ ≤ _; rw [hlb'.out]; omega
      go_enter Tryz.func5, Tryz.ntmps5
      go_wp2_with fail
      refine (knownS_any w).mono ?_
      rintro e w1 ⟨rfl, hq1⟩
      go_wp2_with fail
      refine (new_on w 100 w1 hq1 (by decide) (by decide)).mono ?_
      rintro e w2 ⟨p, kb, mb, rfl, H2, hq2, hF2⟩
      go_wp2_with fail
      refine (smake_sl w p kb mb 100 w2 H2 (by decide)).mono ?_
      rintro e w3 ⟨s, F, rfl, H3, hF3, ho3⟩
      clear H2 hq2 hF2 hF3 ho3 hq1
      go_wp2_with (first
        | (refine build_wr2 [107] a (by rfl) _ _ rfl rfl rfl ?_)
        | (refine build_wr2 [109] b (by rfl) _ _ rfl rfl rfl ?_)
        | (refine build_wr2 [107] b (by rfl) _ _ rfl rfl rfl ?_)
        | (refine wpList_slice_wrs3h (by rfl) _ _ _ rfl ⟨[107], a, false⟩ ⟨[109], b, false⟩ ⟨[107], b, false⟩ rfl rfl rfl ?_; intro w4 hW4 hq4 hs4)
        | (refine build_wr02 [109] true (by rfl) _ _ rfl rfl rfl ?_)
        | (refine wpList_slice_wrs1 (by rfl) _ rfl ⟨[109], [], true⟩ rfl ?_; intro w5 hW5a hq5 hs5; have hown5 : Hid (w5.ownsRow w3.heap.size 41 3 (.slice (some ⟨w3.heap.size, 0, none⟩) 3 3) ([⟨[107], a, false⟩, ⟨[109], b, false⟩, ⟨[107], b, false⟩] : List WrV).length (wrF [⟨[107], a, false⟩, ⟨[109], b, false⟩, ⟨[107], b, false⟩])) := wrs_keptW (wrs_ownHas hW4 (Nat.le_refl _) (by simp)) hq5; have hsz5 : w3.heap.size ≤ w5.heap.size := (Nat.le_trans hq4.size hq5.size))
        | (refine wpList_appendWr (by rfl) _ _ rfl w3.heap.size (.slice (some ⟨w3.heap.size, 0, none⟩) 3 3) [⟨[107], a, false⟩, ⟨[109], b, false⟩, ⟨[107], b, false⟩] [⟨[109], [], true⟩] rfl hown5.out (some ⟨w4.heap.size, 0, none⟩) 1 1 rfl rfl hW5a (by simp) hsz5 ?_; intro v' w5b hown5b hq5b hkp5b; obtain ⟨hkk, to, tc, rfl, hW5, hlt5⟩ := wrs_own hown5b; clear hkk hkp5b)
        | fail)
      have hqA : Below w3.heap.size w3 w5b := (hq4.trans (hq5.mono hq4.size)).trans hq5b
      have H5 := H3.later hqA
      refine (sdo_sl w s p kb mb 100 F [] 1 to tc 4 (wriT a b true) w5b H5 (by decide) hW5 rfl (fun ad had => (hlt5 ad had).2) (wri_is a b true hal.out hbl.out) (by rw [wri_do]; exact wri_fits b true hbl.out)).mono ?_
      rintro e w6 ⟨rfl, F6, H6, hF6, ho6⟩
      clear H3 H5 hW4 hq4 hs4 hW5a hs5 hown5 hown5b hq5b hlt5 hqA hsz5
      rw [wri_do] at H6
      clear hW5 hq5
      go_wp2_with (first
        | (refine build_wr2 [107] [111, 116, 104, 101, 114] (by rfl) _ _ rfl rfl rfl ?_)
        | (refine build_wr1 [] (by rfl) _ rfl rfl ?_)
        | (refine wpList_slice_wrs2 (by rfl) _ _ rfl ⟨[107], [111, 116, 104, 101, 114], false⟩ ⟨[], [], false⟩ rfl rfl ?_; intro w7 hW7 hq7 hs7)
        | fail)
      have H7 := H6.later hq7
      refine (sform_sl w s p kb mb 100 F6 (wriL b true) (1 + 1) (some ⟨w6.heap.size, 0, none⟩) 2 2 _ w7 H7 hW7 rfl (fun x hx => by simp at hx; rcases hx with rfl | rfl <;> simp) wri_no).mono ?_
      rintro e w8 ⟨rfl, H8, hq8⟩
      clear H6 H7 hW7 hq7 hs7 hq8 ho6 hF6
      have hg1 := sget_st s p kb mb 100 0 F6 (wriL b true) (1 + 1) [107] w8 H8.ok (by decide)
      have a1 : (getK (wriL b true) [107]).getD [] = b := by simp [wriL, getK]
      have a2 : (getK (wriL b true) [107]).isSome = true := by simp [wriL, getK]
      rw [a1, a2] at hg1
      unfold strV at hg1
      replace hg1 : Hid _ := hg1
      clear a1 a2
      go_wp2_with fail
      refine Calls.mono hg1.out ?_
      rintro e w9 ⟨rfl, hq9⟩
      have H9 := H8.later hq9
      have hg2 := sget_st s p kb mb 100 0 F6 (wriL b true) (1 + 1) [109] w9 H9.ok (by decide)
      have a1 : (getK (wriL b true) [109]).getD [] = [] := by simp [wriL, getK]
      have a2 : (getK (wriL b true) [109]).isSome = false := by simp [wriL, getK]
      rw [a1, a2] at hg2
      unfold strV at hg2
      replace hg2 : Hid _ := hg2
      clear hg1 hq9 H8 a1 a2
      go_wp2_with fail
      refine Calls.mono hg2.out ?_
      rintro e w10 ⟨rfl, hq10⟩
      have H10 := H9.later hq10
      clear hg2 hq10 H9
      go_wp2_with (first
        | (refine wpList_sliceB3 (by rfl) _ _ _ rfl 3 200 255 (by decide) (by decide) (by decide) rfl rfl rfl ?_; intro w11 hB11 hq11 hs11)
        | fail)
      have H11 := H10.later hq11
      have hnF : ¬ F6 w10.heap.size := fun z => by have := H10.ok.lt _ z; omega
      obtain ⟨j, cb, room, hX11, hC11, hn1, hn2⟩ := H11.ok.parts
      refine (scrash_sl w s p kb mb 100 F6 (wriL b true) (1 + 1) (some ⟨w10.heap.size, 0, none⟩) 3 3 [UInt8.ofNat 3, UInt8.ofNat 200, UInt8.ofNat 255] w11 H11 hB11 rfl (fun ad had _ => by cases had; exact ⟨hs11, hnF⟩)).mono ?_
      rintro e w12 ⟨rfl, H12, ho12⟩
      have hX12 := ho12.has hX11 hn1
      have hC12 := hC11.off ho12 hn2
      clear H10 H11 hB11 hq11 hs11 ho12 hnF hX11 hC11 hn1 hn2
      go_wp2_with fail
      refine (sopen_sl w p kb mb 100 (wriL b true) (1 + 1) w12 H12).mono ?_
      rintro e w13 ⟨t, F13, rfl, H13, hF13, hq13⟩
      have hX13 := hX12.later hq13
      have hC13 := hC12.later hq13
      clear H12 hF13 hq13 hX12 hC12
      have hg3 := sget_st t p kb mb 100 0 F13 (wriL b true) (1 + 1) [107] w13 H13.ok (by decide)
      have a1 : (getK (wriL b true) [107]).getD [] = b := by simp [wriL, getK]
      have a2 : (getK (wriL b true) [107]).isSome = true := by simp [wriL, getK]
      rw [a1, a2] at hg3
      unfold strV at hg3
      replace hg3 : Hid _ := hg3
      clear a1 a2
      go_wp2_with fail
      refine Calls.mono hg3.out ?_
      rintro e w14 ⟨rfl, hq14⟩
      have H14 := H13.later hq14
      have hX14 := hX13.later hq14
      have hC14 := hC13.later hq14
      have hk1 := skeys_st t p kb mb 100 0 F13 (wriL b true) (1 + 1) w14 H14.ok
      have hlen : (wriL b true).length = 1 := rfl
      rw [hlen] at hk1
      replace hk1 : Hid _ := hk1
      clear hg3 hq14 H13 hX13 hC13
      go_wp2_with fail
      refine Calls.mono hk1.out ?_
      rintro e w15 ⟨ao, ac, rfl, hS15, hlt15, hq15⟩
      have H15 := H14.later hq15
      have hX15 := hX14.later hq15
      have hC15 := hC14.later hq15
      have hk2 := skeys_any s j cb room (wriL b true) w15 hX15 hC15 (by rw [hlen]; decide)
      rw [hlen] at hk2
      replace hk2 : Hid _ := hk2
      replace hlen : Hid _ := hlen
      clear hk1 hS15 hlt15 hq15 H14 hX14 hC14
      go_wp2_with fail
      refine Calls.mono hk2.out ?_
      rintro e w16 ⟨bo, bc, rfl, hS16, hlt16, hq16⟩
      have H16 := H15.later hq16
      have hX16 := hX15.later hq16
      have hC16 := hC15.later hq16
      have hz1 := ssize_st t p kb mb 100 0 F13 (wriL b true) (1 + 1) w16 H16.ok
      have hsb := H16.ok.size_ok.1
      obtain ⟨T, hT⟩ : ∃ T, sizeL (wriL b true) = T := ⟨_, rfl⟩
      rw [hT] at hz1
      have hT' : Hid (sizeL (wriL b true) = T) := hT
      replace hz1 : Hid _ := hz1
      clear hk2 hS16 hlt16 hq16 H15 hX15 hC15 hT
      go_wp2_with fail
      refine Calls.mono hz1.out ?_
      rintro e w17 ⟨rfl, hq17⟩
      have H17 := H16.later hq17
      have hX17 := hX16.later hq17
      have hC17 := hC16.later hq17
      have hz2 := ssize_any s j cb room (wriL b true) w17 hX17 hC17 hsb
      rw [hT'.out] at hz2
      replace hz2 : Hid _ := hz2
      have hB17 := H17.below
      clear hz1 hq17 H16 hX16 hC16 H17 hX17 hC17 hsb
      go_wp2_with fail
      refine Calls.mono hz2.out ?_
      rintro e w18 ⟨rfl, hq18⟩
      clear hz2
      go_wp2
      go_ret
      exact ⟨rfl, hB17.trans (hq18.mono hB17.size)⟩
theorem swrites_walk (a b : List UInt8) (d : Bool) (w : World) (ha : a.length ≤ 9223372036854775807) (hb : b.length ≤ 9223372036854775807) :
    Calls Tryz.prog 5 #[strV a, strV b, .bool d] w fun e w' => e = .returned (.bool true) ∧ Below w.heap.size w w' := by
  cases d
  · exact swrites_no a b w ha hb
  · exact swrites_yes a b w ha hb
end Go.Proofs.YtpnpjblohijajaaGreat
