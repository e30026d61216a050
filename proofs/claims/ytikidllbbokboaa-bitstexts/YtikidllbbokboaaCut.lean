/- paddocklaw1.BitsCut returns true, whatever the number, the text and the cut; nothing that was there is written. -/
import Derived.Test.YtikidllbbokboaaGetText
namespace Go.Proofs.Ytikidllbbokboaa
open Go.RowKit
set_option linter.unusedVariables false

theorem lenN_txt (s : ByteArray) (r : List UInt8) (h : s.size ≤ 65535) : lenN (txtB s ++ r) = s.size := by
  unfold lenN txtB
  rw [List.append_assoc, List.take_append_of_le_length (by rw [putB_length]; decide), List.take_of_length_le (by rw [putB_length]; decide), get_put 2 _ (by decide)]
  exact Nat.mod_eq_of_lt (by omega)

theorem lenN_cut (s : ByteArray) (j : Nat) (h : s.size ≤ 65535) (hj : 2 ≤ j) : lenN ((txtB s).take j) = s.size := by
  have := lenN_txt s [] h
  rw [List.append_nil] at this
  unfold lenN at this ⊢
  rw [List.take_take, Nat.min_eq_left hj]
  exact this

theorem drop_txt (s : ByteArray) (r : List UInt8) : (txtB s ++ r).drop 2 = strB s ++ r := by
  unfold txtB
  rw [List.append_assoc]
  have e : ∀ l : List UInt8, (putB s.size 2 ++ l).drop 2 = l := fun l => by
    rw [List.drop_append_of_le_length (by rw [putB_length]; decide), List.drop_of_length_le (by rw [putB_length]; decide), List.nil_append]
  exact e _

theorem txtOf_txt (s : ByteArray) (r : List UInt8) (h : s.size ≤ 65535) : txtOf (txtB s ++ r) = s := by
  unfold txtOf
  rw [drop_txt, lenN_txt s r h, List.take_append_of_le_length (by rw [strB_length]; exact Nat.le_refl _), List.take_of_length_le (by rw [strB_length]; exact Nat.le_refl _)]
  rfl

/-- bits.Text behind nothing. -/
theorem text_new (s : ByteArray) (w : World) (hs : s.size ≤ 65535) :
    Calls Try.prog 22 #[.slice none 0 0, .string s] w fun e w' =>
      ∃ g c', e = .returned (.slice (some ⟨g, 0, none⟩) (s.size + 2) c') ∧ By w' (some ⟨g, 0, none⟩) c' (txtB s) ∧ Below w.heap.size w w' := by
  refine (text_any none 0 0 [] s w (By.nothing w) rfl (by decide) hs).mono ?_
  rintro e w' ⟨g, c', rfl, hB, hb⟩
  rw [Nat.zero_add]
  exact ⟨g, c', rfl, hB, hb⟩

theorem gett_cut (ao : Option Addr) (c : Nat) (s : ByteArray) (j : Nat) (w : World) (hB : By w ao c ((txtB s).take j)) (hs : s.size ≤ 100) (hj : j < s.size + 2) :
    Calls Try.prog 23 #[.slice ao j c, .int .i64 200] w fun e w' =>
      ∃ g c', e = .returned (.tuple #[.string ⟨#[]⟩, .slice (some ⟨g, 0, none⟩) j c', .int .i64 11]) ∧ Below w.heap.size w w' := by
  have hl : j = ((txtB s).take j).length := by rw [List.length_take, txtB_length]; omega
  have he : textErr ((txtB s).take j) 200 = 11 := by
    unfold textErr
    rw [← hl]
    by_cases h2 : j < 2
    · rw [if_pos h2]
    · rw [if_neg h2, lenN_cut s j (by omega) (by omega), if_neg (by omega), if_pos hj]
  refine (gettext_err ao j c ((txtB s).take j) 200 w hB hl (by omega) (by rw [he]; decide)).mono ?_
  rintro e w' ⟨g, c', rfl, _, hb⟩
  rw [he]
  exact ⟨g, c', rfl, hb⟩

theorem gett_long (ao : Option Addr) (c : Nat) (s : ByteArray) (w : World) (hB : By w ao c (txtB s)) (hs : s.size ≤ 100) :
    Calls Try.prog 23 #[.slice ao (s.size + 2) c, .int .i64 ((s.size : Int) - 1)] w fun e w' =>
      ∃ v g c', e = .returned (.tuple #[v, .slice (some ⟨g, 0, none⟩) (s.size + 2) c', .int .i64 13]) ∧ Below w.heap.size w w' := by
  have hn := lenN_txt s [] (by omega)
  rw [List.append_nil] at hn
  have he : textErr (txtB s) ((s.size : Int) - 1) = 13 := by
    unfold textErr
    rw [txtB_length, hn, if_neg (by omega), if_pos (by omega)]
  refine (gettext_err ao (s.size + 2) c (txtB s) _ w hB (txtB_length s).symm (by omega) (by rw [he]; decide)).mono ?_
  rintro e w' ⟨g, c', rfl, _, hb⟩
  rw [he]
  exact ⟨_, g, c', rfl, hb⟩

theorem gett_all (ao : Option Addr) (c n : Nat) (s : ByteArray) (r : List UInt8) (most : Int) (w : World) (hB : By w ao c (txtB s ++ r)) (hn : n = s.size + 2 + r.length) (hl : n ≤ 1099511627776) (hs : s.size ≤ 65535) (hm : (s.size : Int) ≤ most) :
    Calls Try.prog 23 #[.slice ao n c, .int .i64 most] w fun e w' =>
      ∃ g c', e = .returned (.tuple #[.string s, .slice (some ⟨g, 0, none⟩) r.length c', .int .i64 0]) ∧ By w' (some ⟨g, 0, none⟩) c' r ∧ Below w.heap.size w w' := by
  have hN := lenN_txt s r hs
  have hL : n = (txtB s ++ r).length := by rw [List.length_append, txtB_length]; exact hn
  have he : textErr (txtB s ++ r) most = 0 := by
    unfold textErr
    rw [← hL, hN, if_neg (by omega), if_neg (by omega), if_neg (by omega)]
  refine (gettext_ok ao n c (txtB s ++ r) most w hB hL hl he).mono ?_
  rintro e w' ⟨g, c', rfl, hB', hb⟩
  rw [drop_txt, hN, List.drop_append_of_le_length (by rw [strB_length]; exact Nat.le_refl _), List.drop_of_length_le (by rw [strB_length]; exact Nat.le_refl _), List.nil_append] at hB'
  rw [txtOf_txt s r hs, hN]
  have e3 : n - 2 - s.size = r.length := by omega
  rw [e3]
  exact ⟨g, c', rfl, hB', hb⟩

theorem get_cut (g c : Nat) (n : Nat) (k : Nat) (w : World) (hB : By w (some ⟨g, 0, none⟩) c ((putB n 8).take k)) (hk : k < 8) :
    Calls Try.prog 10 #[.slice (some ⟨g, 0, none⟩) k c, .int .i64 8] w fun e w' =>
      ∃ g' c', e = .returned (.tuple #[.int .u64 0, .slice (some ⟨g', 0, none⟩) k c', .int .i64 11]) ∧ Below w.heap.size w w' := by
  have hl : k = ((putB n 8).take k).length := by rw [List.length_take, putB_length]; omega
  have e8 : heldI 8 = 8 := by decide
  refine (get_short _ k c ((putB n 8).take k) 8 w hB hl (by omega) (by rw [e8]; omega)).mono ?_
  rintro e w' ⟨g', c', rfl, _, hb⟩
  exact ⟨g', c', rfl, hb⟩

set_option maxRecDepth 100000 in
set_option maxHeartbeats 1600000 in
theorem cut_walk (n : Int) (s : ByteArray) (q : Nat) (w : World) (hn0 : 0 ≤ n) (hn1 : n < 18446744073709551616) (hs : s.size ≤ maxLen) (hq : q < 256) :
    Calls Try.prog 6 #[.int .u64 n, .string s, .int .u8 q] w fun e w' => e = .returned (.bool true) ∧ Below w.heap.size w w' := by
  unfold maxLen at hs
  by_cases h100 : 100 < s.size
  · go_enter Try.func6, Try.ntmps6
    go_wp2_with (go_at_call 9; refine (known_any _).mono ?_; rintro e w1 ⟨rfl, hb1⟩)
    go_ret
    exact ⟨rfl, hb1⟩
  · obtain ⟨k, hk, hk8⟩ : ∃ k : Nat, (q : Int) % 8 = k ∧ k < 8 := ⟨q % 8, by omega, by omega⟩
    obtain ⟨j, hj, hjs⟩ : ∃ j : Nat, (q : Int) % ((s.size : Int) + 2) = j ∧ j < s.size + 2 := ⟨q % (s.size + 2), by rw [Int.natCast_emod, Int.natCast_add]; rfl, Nat.mod_lt _ (by omega)⟩
    have hqI : (q : Int) < 256 := by omega
    have hkI : (k : Int) ≤ 8 := by omega
    go_enter Try.func6, Try.ntmps6
    go_wp2_with (go_at_call 9; refine (known_any _).mono ?_; rintro e w1 ⟨rfl, hb1⟩)
    refine (put_new n 8 8 w1 (by decide) hn0 hn1).mono ?_
    rintro e w2 ⟨rfl, hB2, hb2⟩
    replace hb2 := hb1.trans (hb2.mono hb1.size)
    clear hb1
    go_wp2_with fail
    refine (get_cut _ 8 n.toNat k w2 (hB2.first k) hk8).mono ?_
    rintro e w3 ⟨g3, c3, rfl, hb3⟩
    replace hb3 := hb2.trans (hb3.mono hb2.size)
    clear hb2 hB2
    go_wp2_with fail
    refine (text_new s w3 (by omega)).mono ?_
    rintro e w4 ⟨g4, c4, rfl, hB4, hb4⟩
    have hle4 := hB4.le
    rw [txtB_length] at hle4
    have hjI : (j : Int) ≤ (c4 : Int) := by omega
    have hcap := hB4.cap
    replace hb4 := hb3.trans (hb4.mono hb3.size)
    clear hb3
    go_wp2_with fail
    refine (gett_cut _ c4 s j w4 (hB4.first j) (by omega) hjs).mono ?_
    rintro e w5 ⟨g5, c5, rfl, hb5⟩
    have hB5 := hB4.later hb5
    replace hb5 := hb4.trans (hb5.mono hb4.size)
    clear hb4 hB4
    go_wp2_with fail
    refine (gett_long _ c4 s w5 hB5 (by omega)).mono ?_
    rintro e w6 ⟨v6, g6, c6, rfl, hb6⟩
    have hB6 := hB5.later hb6
    replace hb6 := hb5.trans (hb6.mono hb5.size)
    clear hb5 hB5
    go_wp2_with fail
    refine (gett_all _ c4 (s.size + 2) s [] s.size w6 (by rw [List.append_nil]; exact hB6) rfl (by omega) (by omega) (Int.le_refl _)).mono ?_
    rintro e w7 ⟨g7, c7, rfl, _, hb7⟩
    replace hb7 := hb6.trans (hb7.mono hb6.size)
    clear hb6 hB6
    go_wp2
    go_ret
    exact ⟨by simp, hb7⟩
end Go.Proofs.Ytikidllbbokboaa
