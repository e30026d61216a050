/- StoreKeys' walk. -/
import Derived.Test.YtpnpjblohijajabGreatGrp48
import Derived.Laws.Cover1
namespace Go.Proofs.YtpnpjblohijajabGreat
set_option linter.unusedSimpArgs false
set_option linter.unusedVariables false
set_option maxRecDepth 100000
open Go.RowKit Go.MapKept

theorem less_no (x y : List UInt8) (h : x < y) : (!Op.bytesLess (mkS x).toList (mkS y).toList) = false := by
  have e : ∀ l, (mkS l).toList = l := fun l => by rw [ByteArray.toList_eq]; unfold mkS; simp
  have k : ∀ (x y : List UInt8), Op.bytesLess x y = decide (x < y) := by
    intro x
    induction x with
    | nil => intro y; cases y <;> simp [Op.bytesLess]
    | cons a r ih => intro y; cases y with
      | nil => simp [Op.bytesLess]
      | cons b s => rw [Op.bytesLess, ih s, Bool.eq_iff_iff]; simp [List.cons_lt_cons_iff]
  rw [e, e, k, decide_eq_true h]
  rfl
def okK (k : List UInt8) : Bool := decide (1 ≤ k.length) && decide (k.length ≤ 20)
def stepK (c : ConL) (k : List UInt8) : ConL := if okK k then putK c k [120] else c
def kL (ks : List (List UInt8)) : ConL := ks.foldl stepK []
theorem okK_iff (k : List UInt8) : okK k = true ↔ 1 ≤ k.length ∧ k.length ≤ 20 := by unfold okK; simp
theorem kL_snoc (ks : List (List UInt8)) (k : List UInt8) : kL (ks ++ [k]) = stepK (kL ks) k := by unfold kL; rw [List.foldl_append]; rfl
structure GoodK (ks : List (List UInt8)) (c : ConL) : Prop where
  sorted : SortedL c
  mem : ∀ p, p ∈ c ↔ p.2 = [120] ∧ p.1 ∈ ks ∧ okK p.1 = true
  len : c.length ≤ ks.length
theorem good_rev (r : List (List UInt8)) : GoodK r.reverse (kL r.reverse) := by
  induction r with
  | nil => exact ⟨List.Pairwise.nil, fun p => by simp [kL], Nat.le_refl _⟩
  | cons k r ih =>
    rw [List.reverse_cons]
    generalize r.reverse = ks at ih ⊢
    rw [kL_snoc]
    unfold stepK
    cases hk : okK k with
    | false =>
      refine ⟨ih.sorted, fun p => ?_, by have := ih.len; simp; omega⟩
      rw [if_neg (by decide), ih.mem, List.mem_append, List.mem_singleton]
      constructor
      · exact fun h => ⟨h.1, .inl h.2.1, h.2.2⟩
      · rintro ⟨h1, h2 | h2, h3⟩
        · exact ⟨h1, h2, h3⟩
        · rw [h2, hk] at h3; cases h3
    | true =>
      rw [if_pos rfl]
      refine ⟨put_sorted ih.sorted _ _, fun p => ?_, by have := ih.len; have := put_length (kL ks) k [120]; simp; omega⟩
      rw [put_mem, ih.mem, List.mem_append, List.mem_singleton]
      obtain ⟨a, b⟩ := p
      constructor
      · rintro (h | h)
        · injection h with h1 h2
          subst h1 h2
          exact ⟨rfl, .inr rfl, hk⟩
        · exact ⟨h.1.1, .inl h.1.2.1, h.1.2.2⟩
      · rintro ⟨h1, h2 | h2, h3⟩
        · by_cases he : a = k
          · exact .inl (by rw [show a = k from he, show b = [120] from h1])
          · exact .inr ⟨⟨h1, h2, h3⟩, he⟩
        · exact .inl (by rw [show a = k from h2, show b = [120] from h1])
theorem good_kL (ks : List (List UInt8)) : GoodK ks (kL ks) := by
  have h := good_rev ks.reverse
  rwa [List.reverse_reverse] at h
theorem kL_fits (ks : List (List UInt8)) (h : ks.length ≤ 20) : FitsL (16 * 200) (kL ks) := by
  have g := good_kL ks
  have h1 := g.len
  refine ⟨by omega, ?_⟩
  have : ∀ c : ConL, (∀ p ∈ c, p.2 = [120] ∧ p.1.length ≤ 20) → sizeL c ≤ c.length * 45 := by
    intro c
    induction c with
    | nil => intro _; exact Nat.le_refl _
    | cons y r ih =>
      intro hc
      have h2 := ih fun p hp => hc p (List.mem_cons_of_mem _ hp)
      have h3 := hc y List.mem_cons_self
      unfold sizeL at *
      rw [List.map_cons, List.sum_cons, List.length_cons, h3.1]
      have := h3.2
      simp only [List.length_cons, List.length_nil]
      omega
  have h2 := this (kL ks) fun p hp => by
    have := (g.mem p).1 hp
    exact ⟨this.1, ((okK_iff _).1 this.2.2).2⟩
  omega
theorem kL_do (ks : List (List UInt8)) (k : List UInt8) (h : okK k = true) : doL (kL ks) [⟨k, [120], false⟩] = kL (ks ++ [k]) := by
  rw [kL_snoc]
  unfold stepK
  rw [h]
  simp [doL, do1]
theorem kL_skip (ks : List (List UInt8)) (k : List UInt8) (h : okK k = false) : kL (ks ++ [k]) = kL ks := by
  rw [kL_snoc]
  unfold stepK
  rw [h]
  rfl
theorem kL_is (k : List UInt8) (h : okK k = true) : IsTx [⟨k, [120], false⟩] := by
  have := (okK_iff k).1 h
  refine ⟨by simp, by simp, fun x hx => ?_⟩
  rw [List.mem_singleton.1 hx]
  exact ⟨this.1, this.2, by simp, fun h => by cases h⟩
theorem kL_no (k : List UInt8) (h : okK k = false) : ¬ IsTx [⟨k, [120], false⟩] := fun hx => by
  have := hx.each ⟨k, [120], false⟩ (by simp)
  rw [(okK_iff k).2 ⟨this.k1, this.k2⟩] at h
  cases h
theorem kL_get (ks : List (List UInt8)) (k : List UInt8) (hk : k ∈ ks) : (getK (kL ks) k).isSome = okK k := by
  have g := good_kL ks
  cases h : okK k with
  | true => rw [get_mem g.sorted ((g.mem (k, [120])).2 ⟨rfl, hk, h⟩)]; rfl
  | false =>
    rw [get_none fun p hp e => ?_]
    · rfl
    · have := ((g.mem p).1 hp).2.2
      rw [e, h] at this
      cases this
set_option maxHeartbeats 8000000 in
theorem skeys_walk (ao : Option Addr) (c : Nat) (l : List (List UInt8)) (w : World) (hS : Strs w ao c l) (hl : ∀ s ∈ l, s.length ≤ 140737488355328) :
    Calls Tryz.prog 3 #[.slice ao l.length c] w fun e w' => e = .returned (.bool true) ∧ Below w.heap.size w w' := by
  obtain ⟨L, hL⟩ : ∃ L, l.length = L := ⟨_, rfl⟩
  rw [hL]
  have hle := hS.le
  have hcap := hS.cap
  rw [hL] at hle
  replace hL : Hid _ := hL
  replace hl : Hid _ := hl
  by_cases hlen : 20 < L
  · have hI : (20 : Int) < (L : Int) := by omega
    go_enter Tryz.func3, Tryz.ntmps3
    go_wp2_with fail
    refine (knownS_any w).mono ?_
    rintro e w1 ⟨rfl, hq1⟩
    go_wp2
    go_ret
    exact ⟨rfl, hq1⟩
  · have hI : ¬ (20 : Int) < (L : Int) := by omega
    go_enter Tryz.func3, Tryz.ntmps3
    go_wp2_with fail
    refine (knownS_any w).mono ?_
    rintro e w1 ⟨rfl, hq1⟩
    go_wp2_with fail
    refine (new_on w 200 w1 hq1 (by decide) (by decide)).mono ?_
    rintro e w2 ⟨p, kb, mb, rfl, H2, hq2, hF2⟩
    go_wp2_with fail
    refine (smake_sl w p kb mb 200 w2 H2 (by decide)).mono ?_
    rintro e w3 ⟨s, F, rfl, H3, hF3, ho3⟩
    clear H2 hq2 hF2 hF3 ho3 hq1
    go_wp2
    go_loopw [5] (fun iv wr => ∃ k F N, k ≤ L ∧ iv = .int .i64 (k : Nat) ∧ N ≤ 1 + k ∧ SL w wr s p kb mb 200 F (kL (l.take k)) N) (fun iv _ => L - (intOf iv).toNat)
    case atStart => exact ⟨0, F, 1, Nat.zero_le _, rfl, Nat.le_refl _, H3⟩
    case round =>
      clear H3
      obtain ⟨k, F, N, hk, rfl, hN, H⟩ := hrel
      by_cases hlt : k < L
      · have hkl : k < l.length := by rw [hL.out]; exact hlt
        have hltI : (k : Int) < (L : Int) := by omega
        cases ao with
        | none => have := hS.nil rfl; omega
        | some ad =>
          have c0 := (hS.later H.below).cell ad rfl k hkl
          have hsn : Hid (l.take (k + 1) = l.take k ++ [l[k]]) := List.take_succ_eq_append_getElem hkl
          have hxl := hl.out _ (List.getElem_mem hkl)
          obtain ⟨x, hx⟩ : ∃ x, l[k] = x := ⟨_, rfl⟩
          rw [hx] at c0 hsn hxl
          replace c0 : wr.cell? (ad.add k) = some (.string (mkS x)) := c0
          have hz := mkS_size x
          obtain ⟨n, hn⟩ : ∃ n, (mkS x).size = n := ⟨_, rfl⟩
          have hnx : Hid (n = x.length) := hn.symm.trans hz
          have hln : Hid ((l.take k).length ≤ 20 ∧ (l.take (k + 1)).length ≤ 20) := by show _ ∧ _; simp; omega
          clear hx hz hkl
          by_cases h1 : n < 1
          · have h1I : ¬ (1 : Int) ≤ (n : Int) := by omega
            have hok : Hid (okK x = false) := by
              show _ = _
              cases h : okK x with
              | false => rfl
              | true => have := (okK_iff x).1 h; have := hnx.out; omega
            go_wp2_with (first
              | (refine build_wr2 x [120] (by rfl) _ _ rfl rfl rfl ?_)
              | (refine wpList_slice_wrs1 (by rfl) _ rfl ⟨x, [120], false⟩ rfl ?_; intro w6 hW6 hq6 hs6)
              | fail)
            have H6 := H.later hq6
            refine (sform_sl w s p kb mb 200 F (kL (l.take k)) N (some ⟨wr.heap.size, 0, none⟩) 1 1 [⟨x, [120], false⟩] w6 H6 hW6 rfl (fun y hy => by rw [List.mem_singleton.1 hy]; exact ⟨hxl, by simp⟩) (kL_no x hok.out)).mono ?_
            rintro e w7 ⟨rfl, H7, hq7⟩
            rw [← kL_skip _ x hok.out, ← hsn.out] at H7
            clear H6 hW6 hq6 hs6 hq7 H c0
            go_wp2
            go_roundw
            case rel => exact ⟨k + 1, F, N, by omega, by go_num, by omega, H7⟩
            case measure => simp [intOf]; omega
          · have h1I : (1 : Int) ≤ (n : Int) := by omega
            by_cases h2 : n ≤ 20
            · have h2I : (n : Int) ≤ 20 := by omega
              have hok : Hid (okK x = true) := (okK_iff x).2 ⟨by have := hnx.out; omega, by have := hnx.out; omega⟩
              go_wp2_with (first
                | (refine build_wr2 x [120] (by rfl) _ _ rfl rfl rfl ?_)
                | (refine wpList_slice_wrs1 (by rfl) _ rfl ⟨x, [120], false⟩ rfl ?_; intro w6 hW6 hq6 hs6)
                | fail)
              have H6 := H.later hq6
              refine (sdo_sl w s p kb mb 200 F (kL (l.take k)) N (some ⟨wr.heap.size, 0, none⟩) 1 1 [⟨x, [120], false⟩] w6 H6 (by omega) hW6 rfl (fun ad had => by cases had; exact hs6) (kL_is x hok.out) (by rw [kL_do _ x hok.out, ← hsn.out]; exact kL_fits _ hln.out.2)).mono ?_
              rintro e w7 ⟨rfl, F7, H7, hF7, ho7⟩
              rw [kL_do _ x hok.out, ← hsn.out] at H7
              clear H6 hW6 hq6 hs6 hF7 ho7 H c0
              go_wp2
              go_roundw
              case rel => exact ⟨k + 1, F7, N + 1, by omega, by go_num, by omega, H7⟩
              case measure => simp [intOf]; omega
            · have h2I : ¬ (n : Int) ≤ 20 := by omega
              have hok : Hid (okK x = false) := by
                show _ = _
                cases h : okK x with
                | false => rfl
                | true => have := (okK_iff x).1 h; have := hnx.out; omega
              go_wp2_with (first
                | (refine build_wr2 x [120] (by rfl) _ _ rfl rfl rfl ?_)
                | (refine wpList_slice_wrs1 (by rfl) _ rfl ⟨x, [120], false⟩ rfl ?_; intro w6 hW6 hq6 hs6)
                | fail)
              have H6 := H.later hq6
              refine (sform_sl w s p kb mb 200 F (kL (l.take k)) N (some ⟨wr.heap.size, 0, none⟩) 1 1 [⟨x, [120], false⟩] w6 H6 hW6 rfl (fun y hy => by rw [List.mem_singleton.1 hy]; exact ⟨hxl, by simp⟩) (kL_no x hok.out)).mono ?_
              rintro e w7 ⟨rfl, H7, hq7⟩
              rw [← kL_skip _ x hok.out, ← hsn.out] at H7
              clear H6 hW6 hq6 hs6 hq7 H c0
              go_wp2
              go_roundw
              case rel => exact ⟨k + 1, F, N, by omega, by go_num, by omega, H7⟩
              case measure => simp [intOf]; omega
      · have hkL : k = L := by omega
        have hltI : ¬ (k : Int) < (L : Int) := by omega
        have hkt : l.take k = l := List.take_of_length_le (by rw [hL.out]; omega)
        rw [hkt] at H
        have hk4 := skeys_st s p kb mb 200 0 F (kL l) N wr H.ok
        have hgood := good_kL l
        replace hgood : Hid _ := hgood
        obtain ⟨m, hm⟩ : ∃ m, (kL l).length = m := ⟨_, rfl⟩
        rw [hm] at hk4
        have hm' : Hid ((kL l).length = m) := hm
        have hm20 : m ≤ 20 := by have := hgood.out.len; rw [hm, hL.out] at this; omega
        replace hk4 : Hid _ := hk4
        clear hkL hlt hk hkt hm hN
        go_wp2_with fail
        refine Calls.mono hk4.out ?_
        rintro e w4 ⟨ko, kc, rfl, hS4, hlt4, hq4⟩
        have H4 := H.later hq4
        have hle4 := hS4.le
        have hcp4 := hS4.cap
        rw [List.length_map, hm'.out] at hle4
        clear hk4 H
        go_wp2
        go_loopw [9] (fun iv wr => ∃ i, 1 ≤ i ∧ (i ≤ m ∨ i = 1) ∧ iv = .int .i64 (i : Nat) ∧ Below w4.heap.size w4 wr) (fun iv _ => m - (intOf iv).toNat)
        case atStart => exact ⟨1, Nat.le_refl _, .inr rfl, rfl, Below.refl _ _⟩
        case round =>
          obtain ⟨i, hi1, hi2, rfl, hb⟩ := hrel
          by_cases him : i < m
          · have himI : (i : Int) < (m : Int) := by omega
            cases ko with
            | none => have := hS4.nil rfl; omega
            | some kd =>
              have hil : i < ((kL l).map (·.1)).length := by rw [List.length_map, hm'.out]; exact him
              have hil2 : i - 1 < ((kL l).map (·.1)).length := by omega
              have hS5 := hS4.later (hb.drew)
              have ca := hS5.cell kd rfl (i - 1) hil2
              have cb := hS5.cell kd rfl i hil
              have hlt2 : ((kL l).map (·.1))[i - 1] < ((kL l).map (·.1))[i] := by
                have h1 : ((kL l).map (·.1)).Pairwise (fun x y => x < y) := by
                  rw [List.pairwise_map]
                  exact hgood.out.sorted.imp (fun h => by rw [bb_lt, decide_eq_true_eq] at h; exact h)
                exact List.pairwise_iff_getElem.1 h1 (i - 1) i hil2 hil (by omega)
              obtain ⟨x, hx⟩ : ∃ x, ((kL l).map (·.1))[i - 1] = x := ⟨_, rfl⟩
              obtain ⟨y, hy⟩ : ∃ y, ((kL l).map (·.1))[i] = y := ⟨_, rfl⟩
              rw [hx] at ca hlt2
              rw [hy] at cb hlt2
              unfold strV at ca cb
              have e1 : IntKind.i64.wrap ((i : Int) - 1) = ((i - 1 : Nat) : Int) := by rw [IntKind.wrap_i64]; omega
              have hless := less_no x y hlt2
              obtain ⟨i', hi'⟩ : ∃ j, i - 1 = j := ⟨_, rfl⟩
              rw [hi'] at e1 ca
              have hi'm : i' < m := by omega
              have hb5 := hb.drew
              clear hil hil2 hS5 hx hy hi'
              go_wp2
              refine wp_region_plan (fun W => W = wr.drew) (Plan.of [(0, true), (1, true), (2, true), (3, true), (4, true), (5, true), (6, true), (7, true), (8, true), (9, true)] .done) (by kernel_rfl) (by kernel_rfl) (by kernel_rfl) (by kernel_rfl) rfl ?_
              iterate 10
                first
                  | (refine plan_pass _ rfl (by rfl) ?_)
                  | (refine plan_take _ _ rfl (.inl ⟨by rfl, fun W hS => by obtain rfl := hS; go_simp; try with_reducible rfl⟩) ?_)
                try simp only [Act.put, List.setIfInBounds_toArray, List.set_cons_zero, List.set_cons_succ]
              refine plan_done ?_
              go_wp2
              go_roundw
              case rel => exact ⟨i + 1, by omega, .inl (by omega), by go_num, hb5⟩
              case measure => simp [intOf]; omega
          · have himI : ¬ (i : Int) < (m : Int) := by omega
            go_wp2
            go_loopw [10] (fun iv wr => ∃ j, j ≤ L ∧ iv = .int .i64 (j : Nat) ∧ Below w4.heap.size w4 wr) (fun iv _ => L - (intOf iv).toNat)
            case atStart => exact ⟨0, Nat.zero_le _, rfl, hb⟩
            case round =>
              clear hb
              obtain ⟨j, hj, rfl, hb⟩ := hrel
              have H5 := H4.later hb
              by_cases hjl : j < L
              · have hjI : (j : Int) < (L : Int) := by omega
                have hjl' : j < l.length := by rw [hL.out]; exact hjl
                cases ao with
                | none => have := hS.nil rfl; omega
                | some ad =>
                  have c0 := (hS.later H5.below).cell ad rfl j hjl'
                  have hsg := sget_st s p kb mb 200 0 F (kL l) N l[j] wr H5.ok (hl.out _ (List.getElem_mem hjl'))
                  rw [kL_get l _ (List.getElem_mem hjl')] at hsg
                  obtain ⟨x, hx⟩ : ∃ x, l[j] = x := ⟨_, rfl⟩
                  have hxl := hl.out _ (List.getElem_mem hjl')
                  rw [hx] at c0 hsg hxl
                  replace c0 : wr.cell? (ad.add j) = some (.string (mkS x)) := c0
                  have hz := mkS_size x
                  obtain ⟨n, hn⟩ : ∃ n, (mkS x).size = n := ⟨_, rfl⟩
                  have hnx : Hid (n = x.length) := hn.symm.trans hz
                  obtain ⟨o, ho⟩ : ∃ o, okK x = o := ⟨_, rfl⟩
                  rw [ho] at hsg
                  replace hsg : Hid _ := hsg
                  replace ho : Hid _ := ho
                  replace hx : Hid _ := hx
                  clear hz
                  have c1 : ∀ W, Below wr.heap.size wr W → W.cell? (ad.add j) = some (.string (mkS x)) := fun W hW => by
                    have := ((hS.later H5.below).later hW).cell ad rfl j (by rw [hL.out]; exact hjl)
                    rw [hx.out] at this
                    exact this
                  have hb1 : ∀ W, Below wr.heap.size wr W → Below w4.heap.size w4 W := fun W hW => hb.trans (hW.mono hb.size)
                  by_cases h1 : n < 1
                  · have h1I : ¬ (1 : Int) ≤ (n : Int) := by omega
                    obtain rfl : o = false := by
                      rw [← ho.out]
                      exact Bool.eq_false_iff.2 fun h => by have := (okK_iff x).1 h; have := hnx.out; omega
                    go_wp2_with fail
                    refine Calls.mono hsg.out ?_
                    rintro e w6 ⟨rfl, hq6⟩
                    have c6 := c1 w6 hq6
                    have hb6 := hb1 w6 hq6
                    clear hsg
                    go_wp2
                    go_roundw
                    case rel => exact ⟨j + 1, by omega, by go_num, hb6⟩
                    case measure => simp [intOf]; omega
                  · have h1I : (1 : Int) ≤ (n : Int) := by omega
                    by_cases h2 : n ≤ 20
                    · have h2I : (n : Int) ≤ 20 := by omega
                      obtain rfl : o = true := by
                        rw [← ho.out]
                        exact (okK_iff x).2 ⟨by have := hnx.out; omega, by have := hnx.out; omega⟩
                      go_wp2_with fail
                      refine Calls.mono hsg.out ?_
                      rintro e w6 ⟨rfl, hq6⟩
                      have c6 := c1 w6 hq6
                      have hb6 := hb1 w6 hq6
                      clear hsg
                      go_wp2
                      go_roundw
                      case rel => exact ⟨j + 1, by omega, by go_num, hb6⟩
                      case measure => simp [intOf]; omega
                    · have h2I : ¬ (n : Int) ≤ 20 := by omega
                      obtain rfl : o = false := by
                        rw [← ho.out]
                        exact Bool.eq_false_iff.2 fun h => by have := (okK_iff x).1 h; have := hnx.out; omega
                      go_wp2_with fail
                      refine Calls.mono hsg.out ?_
                      rintro e w6 ⟨rfl, hq6⟩
                      have c6 := c1 w6 hq6
                      have hb6 := hb1 w6 hq6
                      clear hsg
                      go_wp2
                      go_roundw
                      case rel => exact ⟨j + 1, by omega, by go_num, hb6⟩
                      case measure => simp [intOf]; omega
              · have hjI : ¬ (j : Int) < (L : Int) := by omega
                have hbe := H5.below
                go_wp2
                go_ret
                exact ⟨rfl, hbe⟩
end Go.Proofs.YtpnpjblohijajabGreat
