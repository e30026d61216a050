/- paddocklaw1.BitsRows returns true, whatever the numbers and the text; nothing that was there is written. -/
import Derived.Test.YtikidllbbokboaaCut
import Derived.Test.YtikidllbbokboaaArgs
namespace Go.Proofs.Ytikidllbbokboaa
open Go.RowKit
set_option linter.unusedVariables false

/-- Numbers and texts one behind the other, from the i-th on. -/
def rowsL (s : ByteArray) : Nat → List Int → List UInt8
  | _, [] => []
  | i, z :: r => putB z.toNat (i % 9) ++ (txtB s ++ rowsL s (i + 1) r)

theorem rowsL_snoc (s : ByteArray) (l : List Int) (z : Int) : ∀ i, rowsL s i (l ++ [z]) = (rowsL s i l ++ putB z.toNat ((i + l.length) % 9)) ++ txtB s := by
  induction l with
  | nil => intro i; simp [rowsL]
  | cons a l ih =>
    intro i
    simp only [List.cons_append, rowsL, ih (i + 1), List.length_cons, List.append_assoc]
    have e : i + 1 + l.length = i + (l.length + 1) := by omega
    rw [e]

theorem rowsL_length (s : ByteArray) (l : List Int) : ∀ i, (rowsL s i l).length ≤ l.length * (s.size + 10) := by
  induction l with
  | nil => intro i; simp [rowsL]
  | cons a l ih =>
    intro i
    have := ih (i + 1)
    simp only [rowsL, List.length_append, putB_length, txtB_length, List.length_cons, Nat.add_mul]
    omega

theorem rowsL_take (s : ByteArray) (zs : List Int) (k : Nat) (hk : k < zs.length) : rowsL s 0 (zs.take (k + 1)) = (rowsL s 0 (zs.take k) ++ putB (zs[k]).toNat (k % 9)) ++ txtB s := by
  rw [List.take_succ_eq_append_getElem hk, rowsL_snoc, List.length_take, Nat.zero_add, Nat.min_eq_left (by omega)]

theorem rowsL_drop (s : ByteArray) (zs : List Int) (k : Nat) (hk : k < zs.length) : rowsL s k (zs.drop k) = putB (zs[k]).toNat (k % 9) ++ (txtB s ++ rowsL s (k + 1) (zs.drop (k + 1))) := by
  rw [List.drop_eq_getElem_cons hk]
  rfl

/-- Numbers of 64 bits that came in. -/
structure Nums (w : World) (a : Option Addr) (zs : List Int) : Prop where
  nil : a = none → zs.length = 0
  bd : ∀ i (h : i < zs.length), 0 ≤ zs[i] ∧ zs[i] < 18446744073709551616
  at' : ∀ ad, a = some ad → ∀ i (h : i < zs.length), w.cell? (ad.add i) = some (.int .u64 zs[i])

theorem nums_of_row {w : World} {a : Option Addr} {len cap : Nat} {zs : List Int} (h : IsRow .u64 w a len cap zs) : ∃ ys : List Int, ys.length = len ∧ Nums w a ys ∧ len ≤ 9223372036854775807 := by
  rcases h with ⟨rfl, rfl, rfl, rfl⟩ | ⟨x, rfl, hl, hm, hz, hc, hw⟩
  · exact ⟨[], rfl, ⟨fun _ => rfl, fun i h => absurd h (by simp), fun ad h => by cases h⟩, by decide⟩
  · unfold maxLen at hm
    refine ⟨zs.take len, by rw [List.length_take]; omega, ⟨(fun h => by cases h), fun i hi => ?_, fun ad had i hi => ?_⟩, by omega⟩
    · have hi2 : i < zs.length := by rw [List.length_take] at hi; omega
      have := bounds_u64 (hw zs[i] (List.getElem_mem hi2))
      rw [List.getElem_take]
      omega
    · obtain rfl := Option.some.inj had
      have hi2 : i < zs.length := by rw [List.length_take] at hi; omega
      rw [hc i hi2, List.getElem_take]
      simp [List.getD, hi2]

theorem Nums.later {w w' : World} {a : Option Addr} {zs : List Int} (h : Nums w a zs) (hb : Below w.heap.size w w') : Nums w' a zs := by
  refine ⟨h.nil, h.bd, fun ad had i hi => ?_⟩
  have hc := h.at' ad had i hi
  rw [hb.cell (World.block_lt_of_cell? w _ hc)]
  exact hc

/-- A number behind bytes. -/
theorem put_more (ao : Option Addr) (c : Nat) (xs : List UInt8) (x : Int) (r : Nat) (w : World) (h : By w ao c xs) (hl : xs.length ≤ 1099511627776) (hx0 : 0 ≤ x) (hx1 : x < 18446744073709551616) (hr : r ≤ 8) :
    Calls Try.prog 20 #[.slice ao xs.length c, .int .u64 x, .int .i64 r] w fun e w' =>
      e = .returned (.slice (some ⟨w.heap.size, 0, none⟩) (xs.length + r) (xs.length + r)) ∧ By w' (some ⟨w.heap.size, 0, none⟩) (xs.length + r) (xs ++ putB x.toNat r) ∧ Below w.heap.size w w' := by
  refine (put_any ao xs.length c xs x r w h rfl hl hx0 hx1).mono ?_
  rintro e w' ⟨m', hm', rfl, hB, hb⟩
  have e1 : (heldI r).toNat = r := by
    unfold heldI
    rw [if_neg (by omega), if_neg (by omega)]
    exact Int.toNat_natCast r
  rw [e1] at hm' hB
  rw [List.length_append, putB_length] at hm'
  subst hm'
  exact ⟨rfl, hB, hb⟩

/-- A text behind bytes. -/
theorem text_more (ao : Option Addr) (n c : Nat) (xs : List UInt8) (s : ByteArray) (w : World) (h : By w ao c xs) (hn : n = xs.length) (hl : n ≤ 1099511627776) (hs : s.size ≤ 65535) :
    Calls Try.prog 22 #[.slice ao n c, .string s] w fun e w' =>
      ∃ g c', e = .returned (.slice (some ⟨g, 0, none⟩) (xs ++ txtB s).length c') ∧ By w' (some ⟨g, 0, none⟩) c' (xs ++ txtB s) ∧ Below w.heap.size w w' := by
  refine (text_any ao n c xs s w h hn hl hs).mono ?_
  rintro e w' ⟨g, c', rfl, hB, hb⟩
  refine ⟨g, c', ?_, hB, hb⟩
  rw [List.length_append, txtB_length, hn]

/-- The lowest r bytes of a number. -/
def maskN (z r : Nat) : Nat := z % 256 ^ r

theorem bits_and_u64_nat (a b : Nat) (ha : a < 18446744073709551616) (hb : b < 18446744073709551616) :
    bits .and .u64 (a : Int) (b : Int) = ((a &&& b : Nat) : Int) := by
  have hx : a &&& b ≤ a := Nat.and_le_left
  have h1 : (BitVec.ofInt 64 (a : Int)).toNat = a := by
    rw [BitVec.ofInt_natCast, BitVec.toNat_ofNat]; exact Nat.mod_eq_of_lt (by omega)
  have h2 : (BitVec.ofInt 64 (b : Int)).toNat = b := by
    rw [BitVec.ofInt_natCast, BitVec.toNat_ofNat]; exact Nat.mod_eq_of_lt (by omega)
  show IntKind.u64.wrap ((BitVec.ofInt 64 (a : Int) &&& BitVec.ofInt 64 (b : Int)).toNat : Int) = _
  rw [BitVec.toNat_and, h1, h2, IntKind.wrap_u64]
  omega

theorem mask_is (z : Int) (r : Nat) (h0 : 0 ≤ z) (h1 : z < 18446744073709551616) (hr : r < 8) :
    bits .and .u64 z (IntKind.u64.wrap (IntKind.u64.wrap (2 ^ (8 * r)) - 1)) = (maskN z.toNat r : Int) := by
  obtain ⟨n, rfl⟩ := Int.eq_ofNat_of_zero_le h0
  have e : ((2 : Int) ^ (8 * r)) = ((2 ^ (8 * r) : Nat) : Int) := by rw [Int.natCast_pow]; rfl
  have hp : 2 ^ (8 * r) ≤ 2 ^ 56 := Nat.pow_le_pow_right (by decide) (by omega)
  have hq : 0 < 2 ^ (8 * r) := Nat.pow_pos (by decide)
  have e2 : IntKind.u64.wrap (IntKind.u64.wrap (2 ^ (8 * r)) - 1) = ((2 ^ (8 * r) - 1 : Nat) : Int) := by
    rw [e, IntKind.wrap_u64, IntKind.wrap_u64]
    generalize 2 ^ (8 * r) = p at *
    have : (2 : Nat) ^ 56 = 72057594037927936 := by decide
    omega
  rw [e2, bits_and_u64_nat n _ (by omega) (by
    have : (2 : Nat) ^ 56 = 72057594037927936 := by decide
    omega), Nat.and_two_pow_sub_one_eq_mod, Int.toNat_natCast, maskN, Nat.pow_mul]

/-- A number ahead of other bytes. -/
theorem get_row (ao : Option Addr) (n c : Nat) (z r : Nat) (t : List UInt8) (w : World) (h : By w ao c (putB z r ++ t)) (hn : n = (putB z r ++ t).length) (hl : n ≤ 1099511627776) (hr : r ≤ 8) :
    Calls Try.prog 10 #[.slice ao n c, .int .i64 r] w fun e w' =>
      ∃ g c', e = .returned (.tuple #[.int .u64 (maskN z r : Int), .slice (some ⟨g, 0, none⟩) t.length c', .int .i64 0]) ∧ By w' (some ⟨g, 0, none⟩) c' t ∧ Below w.heap.size w w' := by
  have e1 : heldI r = r := by
    unfold heldI
    rw [if_neg (by omega), if_neg (by omega)]
  have hn2 : n = r + t.length := by rw [hn, List.length_append, putB_length]
  refine (get_ok ao n c (putB z r ++ t) r w h hn hl (by rw [e1]; omega)).mono ?_
  rintro e w' ⟨g, c', rfl, hB, hb⟩
  rw [e1, Int.toNat_natCast, List.drop_append_of_le_length (by rw [putB_length]; exact Nat.le_refl _), List.drop_of_length_le (by rw [putB_length]; exact Nat.le_refl _), List.nil_append] at hB
  rw [e1, Int.toNat_natCast, List.take_append_of_le_length (by rw [putB_length]; exact Nat.le_refl _), List.take_of_length_le (by rw [putB_length]; exact Nat.le_refl _), get_put r z hr]
  have e3 : n - r = t.length := by omega
  rw [e3]
  exact ⟨g, c', rfl, hB, hb⟩

set_option maxRecDepth 100000 in
set_option maxHeartbeats 3200000 in
theorem rows_walk (a : Option Addr) (cap : Nat) (zs : List Int) (s : ByteArray) (w : World) (h : Nums w a zs) (hz : zs.length ≤ 9223372036854775807) (hs : s.size ≤ maxLen) :
    Calls Try.prog 5 #[.slice a zs.length cap, .string s] w fun e w' => e = .returned (.bool true) ∧ Below w.heap.size w w' := by
  unfold maxLen at hs
  by_cases h20 : 20 < zs.length
  · go_enter Try.func5, Try.ntmps5
    go_wp2_with (go_at_call 9; refine (known_any _).mono ?_; rintro e w1 ⟨rfl, hb1⟩)
    go_ret
    exact ⟨rfl, hb1⟩
  · by_cases h100 : 100 < s.size
    · go_enter Try.func5, Try.ntmps5
      go_wp2_with (go_at_call 9; refine (known_any _).mono ?_; rintro e w1 ⟨rfl, hb1⟩)
      go_ret
      exact ⟨rfl, hb1⟩
    · have HN : Hid (Nums w a zs) := h
      clear h
      go_enter Try.func5, Try.ntmps5
      go_wp2_with (go_at_call 9; refine (known_any _).mono ?_; rintro e w1 ⟨rfl, hb1⟩)
      go_loopw [5, 6] (fun v i wr => ∃ (k : Nat) (ao : Option Addr) (c : Nat) (xs : List UInt8), k ≤ zs.length ∧ i = .int .i64 k ∧ v = .slice ao xs.length c ∧ Hid (xs = rowsL s 0 (zs.take k)) ∧ By wr ao c xs ∧ Below w.heap.size w wr)
        (fun _ i _ => zs.length - (intOf i).toNat)
      case atStart => exact ⟨0, none, 0, [], Nat.zero_le _, rfl, rfl, rfl, By.nothing _, hb1⟩
      case round =>
        obtain ⟨k, ao, c, xs, hk, rfl, rfl, hX, hB, hb⟩ := hrel
        by_cases hlt : k < zs.length
        · cases a with
          | none => have := HN.out.nil rfl; omega
          | some ad =>
            have hc := (HN.out.later hb).at' ad rfl k hlt
            obtain ⟨hz0, hz1⟩ := HN.out.bd k hlt
            have hl : xs.length ≤ 2200 := by
              rw [hX.out]
              have h1 := rowsL_length s (zs.take k) 0
              have h2 : (zs.take k).length ≤ 20 := by rw [List.length_take]; omega
              have h3 : (zs.take k).length * (s.size + 10) ≤ 20 * 110 := Nat.mul_le_mul h2 (by omega)
              omega
            obtain ⟨r, hr, hr8, hrk⟩ : ∃ r : Nat, (k : Int) % 9 = r ∧ r ≤ 8 ∧ Hid (k % 9 = r) := ⟨k % 9, by omega, by omega, rfl⟩
            have HR : Hid (rowsL s 0 (zs.take (k + 1)) = (xs ++ putB (zs[k]).toNat r) ++ txtB s) := by
              show _ = _
              rw [hX.out, ← hrk.out]
              exact rowsL_take s zs k hlt
            go_wp2_with fail
            refine (put_more ao c xs _ r wr hB (by omega) hz0 hz1 hr8).mono ?_
            rintro e w2 ⟨rfl, hB2, hb2⟩
            replace hb2 := hb.trans (hb2.mono hb.size)
            go_wp2_with fail
            refine (text_more _ _ _ _ s w2 hB2 (by rw [List.length_append, putB_length]) (by omega) (by omega)).mono ?_
            rintro e w3 ⟨g3, c3, rfl, hB3, hb3⟩
            replace hb3 := hb2.trans (hb3.mono hb2.size)
            rw [← HR.out] at hB3 ⊢
            clear hB hB2 hb hb2 hc hX
            go_wp2
            go_roundw
            case rel => exact ⟨k + 1, _, c3, _, by omega, by go_num, rfl, rfl, hB3, hb3⟩
            case measure => simp [intOf]; omega
        · have hkz : k = zs.length := by omega
          subst hkz
          rw [List.take_length] at hX
          go_wp2_with fail
          go_loopw [5, 7] (fun v i wr => ∃ (k : Nat) (ao : Option Addr) (c : Nat) (xs : List UInt8), k ≤ zs.length ∧ i = .int .i64 k ∧ v = .slice ao xs.length c ∧ Hid (xs = rowsL s k (zs.drop k)) ∧ By wr ao c xs ∧ Below w.heap.size w wr)
            (fun _ i _ => zs.length - (intOf i).toNat)
          case atStart => exact ⟨0, ao, c, xs, Nat.zero_le _, rfl, rfl, hX, hB, hb⟩
          case round =>
            clear hX hB hb
            obtain ⟨k, ao, c, xs, hk, rfl, rfl, hX, hB, hb⟩ := hrel
            by_cases hlt : k < zs.length
            · cases a with
              | none => have := HN.out.nil rfl; omega
              | some ad =>
                have hc := (HN.out.later hb).at' ad rfl k hlt
                obtain ⟨hz0, hz1⟩ := HN.out.bd k hlt
                have hl : xs.length ≤ 2200 := by
                  rw [hX.out]
                  have h1 := rowsL_length s (zs.drop k) k
                  have h2 : (zs.drop k).length ≤ 20 := by rw [List.length_drop]; omega
                  have h3 : (zs.drop k).length * (s.size + 10) ≤ 20 * 110 := Nat.mul_le_mul h2 (by omega)
                  omega
                obtain ⟨r, hr, hr8, hrk⟩ : ∃ r : Nat, (k : Int) % 9 = r ∧ r ≤ 8 ∧ Hid (k % 9 = r) := ⟨k % 9, by omega, by omega, rfl⟩
                have HR : Hid (xs = putB (zs[k]).toNat r ++ (txtB s ++ rowsL s (k + 1) (zs.drop (k + 1)))) := by
                  show _ = _
                  rw [hX.out, ← hrk.out]
                  exact rowsL_drop s zs k hlt
                generalize hY : rowsL s (k + 1) (zs.drop (k + 1)) = ys at *
                have HY : Hid (rowsL s (k + 1) (zs.drop (k + 1)) = ys) := hY
                clear hY
                have hy : ys.length ≤ 2200 := by
                  have := congrArg List.length HR.out
                  rw [List.length_append, List.length_append] at this
                  omega
                have hB0 := hB
                rw [HR.out] at hB0
                have hM : Hid (r = 8 → ((maskN (zs[k]).toNat r : Nat) : Int) = zs[k]) := by
                  intro h8
                  subst h8
                  unfold maskN
                  omega
                by_cases hr7 : r < 8
                · have hK := mask_is zs[k] r hz0 hz1 hr7
                  go_wp2_with fail
                  refine (get_row ao xs.length c (zs[k]).toNat r _ wr hB0 (by rw [← HR.out]) (by omega) hr8).mono ?_
                  rintro e w2 ⟨g2, c2, rfl, hB2, hb2⟩
                  replace hb2 := hb.trans (hb2.mono hb.size)
                  go_wp2_with fail
                  refine (gett_all _ c2 _ s ys 100 w2 hB2 (by rw [txtB_length]) (by rw [txtB_length]; omega) (by omega) (by omega)).mono ?_
                  rintro e w3 ⟨g3, c3, rfl, hB3, hb3⟩
                  replace hb3 := hb2.trans (hb3.mono hb2.size)
                  clear hB hB0 hB2 hb hb2 hc
                  go_wp2
                  go_roundw
                  case rel => exact ⟨k + 1, _, c3, ys, by omega, by go_num, rfl, HY.out.symm, hB3, hb3⟩
                  case measure => simp [intOf]; omega
                · have hK := hM.out (by omega)
                  have hrI : ¬ (r : Int) < 8 := by omega
                  go_wp2_with fail
                  refine (get_row ao xs.length c (zs[k]).toNat r _ wr hB0 (by rw [← HR.out]) (by omega) hr8).mono ?_
                  rintro e w2 ⟨g2, c2, rfl, hB2, hb2⟩
                  replace hb2 := hb.trans (hb2.mono hb.size)
                  go_wp2_with fail
                  refine (gett_all _ c2 _ s ys 100 w2 hB2 (by rw [txtB_length]) (by rw [txtB_length]; omega) (by omega) (by omega)).mono ?_
                  rintro e w3 ⟨g3, c3, rfl, hB3, hb3⟩
                  replace hb3 := hb2.trans (hb3.mono hb2.size)
                  clear hB hB0 hB2 hb hb2 hc
                  go_wp2
                  go_roundw
                  case rel => exact ⟨k + 1, _, c3, ys, by omega, by go_num, rfl, HY.out.symm, hB3, hb3⟩
                  case measure => simp [intOf]; omega
            · have hkz : k = zs.length := by omega
              subst hkz
              have hx : xs = [] := by rw [hX.out, List.drop_length]; rfl
              subst hx
              clear hX
              go_wp2
              go_ret
              exact ⟨rfl, hb⟩
end Go.Proofs.Ytikidllbbokboaa
