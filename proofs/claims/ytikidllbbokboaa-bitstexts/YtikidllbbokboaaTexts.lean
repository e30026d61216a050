/- paddocklaw1.BitsTexts returns true, whatever the bytes, the text and the most; nothing that was there is written. -/
import Derived.Test.YtikidllbbokboaaRef3
import Derived.Test.YtikidllbbokboaaCut
import Derived.Deep.RegionHeldLaw
namespace Go.Proofs.Ytikidllbbokboaa
open Go.RowKit
set_option linter.unusedVariables false

/-- The text that is read, or none. -/
def gotS (xs : List UInt8) (most : Int) : ByteArray := if textErr xs most = 0 then txtOf xs else ⟨#[]⟩

/-- What is left behind it. -/
def gotR (xs : List UInt8) (most : Int) : List UInt8 := if textErr xs most = 0 then (xs.drop 2).drop (lenN xs) else xs

theorem gotR_le (xs : List UInt8) (most : Int) : (gotR xs most).length ≤ xs.length := by
  unfold gotR
  split
  · rw [List.length_drop, List.length_drop]; omega
  · exact Nat.le_refl _

theorem gettext_any (ao : Option Addr) (n c : Nat) (xs : List UInt8) (most : Int) (w : World) (h : By w ao c xs) (hn : n = xs.length) (hl : n ≤ 1099511627776) :
    Calls Try.prog 23 #[.slice ao n c, .int .i64 most] w fun e w' =>
      ∃ A c', e = .returned (.tuple #[.string (gotS xs most), .slice A (gotR xs most).length c', .int .i64 (textErr xs most)]) ∧ By w' A c' (gotR xs most) ∧ Below w.heap.size w w' := by
  by_cases he : textErr xs most = 0
  · refine (gettext_ok ao n c xs most w h hn hl he).mono ?_
    rintro e w' ⟨g, c', rfl, hB, hb⟩
    refine ⟨some ⟨g, 0, none⟩, c', ?_, ?_, hb⟩
    · unfold gotS gotR
      rw [if_pos he, if_pos he, he, List.length_drop, List.length_drop, hn]
    · unfold gotR
      rw [if_pos he]
      exact hB
  · refine (gettext_err ao n c xs most w h hn hl he).mono ?_
    rintro e w' ⟨g, c', rfl, hB, hb⟩
    refine ⟨some ⟨g, 0, none⟩, c', ?_, ?_, hb⟩
    · unfold gotS gotR
      rw [if_neg he, if_neg he, hn]
    · unfold gotR
      rw [if_neg he]
      exact hB

theorem refgettext_any (ao : Option Addr) (n c : Nat) (xs : List UInt8) (most : Int) (w : World) (h : By w ao c xs) (hn : n = xs.length) (hl : n ≤ 1099511627776) (hm0 : -9223372036854775808 ≤ most) (hm1 : most ≤ 9223372036854775807) :
    Calls Try.prog 24 #[.slice ao n c, .int .i64 most] w fun e w' =>
      ∃ A c', e = .returned (.tuple #[.string (gotS xs most), .slice A (gotR xs most).length c', .int .i64 (textErr xs most)]) ∧ By w' A c' (gotR xs most) ∧ Below w.heap.size w w' := by
  by_cases he : textErr xs most = 0
  · refine (refgettext_ok ao n c xs most w h hn hl hm1 he).mono ?_
    rintro e w' ⟨A, c', rfl, hB, hb⟩
    refine ⟨A, c', ?_, ?_, hb⟩
    · unfold gotS gotR
      rw [if_pos he, if_pos he, he, List.length_drop, List.length_drop, hn]
    · unfold gotR
      rw [if_pos he]
      exact hB
  · refine (refgettext_err ao n c xs most w h hn hl hm0 hm1 he).mono ?_
    rintro e w' ⟨rfl, hb⟩
    refine ⟨ao, c, ?_, ?_, hb⟩
    · unfold gotS gotR
      rw [if_neg he, if_neg he, hn]
    · unfold gotR
      rw [if_neg he]
      exact h.later hb

attribute [local go_sem ↓] Go.wp_at_zero Go.wp_at_succ
set_option maxRecDepth 100000 in
set_option maxHeartbeats 8000000 in
theorem texts_walk (ao : Option Addr) (c : Nat) (xs : List UInt8) (s : ByteArray) (most : Int) (w : World) (h : By w ao c xs) (hs : s.size ≤ maxLen) (hm0 : -9223372036854775808 ≤ most) (hm1 : most ≤ 9223372036854775807) :
    Calls Try.prog 4 #[.slice ao xs.length c, .string s, .int .i64 most] w fun e w' => e = .returned (.bool true) ∧ Below w.heap.size w w' := by
  unfold maxLen at hs
  have hle := h.le
  have hcap := h.cap
  by_cases h300 : 300 < xs.length
  · go_enter Try.func4, Try.ntmps4
    go_wp2_with (go_at_call 9; refine (known_any _).mono ?_; rintro e w1 ⟨rfl, hb1⟩)
    go_ret
    exact ⟨rfl, hb1⟩
  · by_cases hs300 : 300 < s.size
    · go_enter Try.func4, Try.ntmps4
      go_wp2_with (go_at_call 9; refine (known_any _).mono ?_; rintro e w1 ⟨rfl, hb1⟩)
      go_ret
      exact ⟨rfl, hb1⟩
    · have hsl := fun g cb => slice_from (some ⟨g, 0, none⟩) (xs.length + (s.size + 2)) cb xs.length (xs.length : Int) rfl (by omega)
      have HSL : Hid (∀ g cb, xs.length + (s.size + 2) ≤ cb → ∀ W, (Instr.slice 22 (.slice (some ⟨g, 0, none⟩) (xs.length + (s.size + 2)) cb) (some (.int .i64 (xs.length : Int))) none none).run Try.prog W = .ok (.slice (restAddr (some ⟨g, 0, none⟩) cb xs.length) (xs.length + (s.size + 2) - xs.length) (cb - xs.length)) W) := hsl
      clear hsl
      go_enter Try.func4, Try.ntmps4
      go_wp2_with (first | (go_at_call 9; refine (known_any _).mono ?_; rintro e w1 ⟨rfl, hb1⟩; have hB1 := h.later hb1) | (at_builtin; refine wpList_copy _ rfl _ _ rfl w.heap.size ao xs.length c xs rfl rfl hB1 rfl (by omega) hb1.size ?_; intro ao2 c2 w2 hown2 hC2 hb2))
      refine (text_any ao2 xs.length c2 xs s w2 hC2 rfl (by omega) (by omega)).mono ?_
      rintro e w3 ⟨g3, c3, rfl, hT3, hb3⟩
      have hB3 := (hB1.later hb2).later hb3
      replace hb3 := (hb1.trans (hb2.mono hb1.size)).trans (hb3.mono (hb1.trans (hb2.mono hb1.size)).size)
      clear hown2 hC2 hb2 hb1 hB1
      have hle3 := hT3.le
      rw [List.length_append, txtB_length] at hle3
      have hsl := HSL.out g3 c3 hle3
      clear HSL
      go_wp2_with (at_builtin; refine wpList_copy _ rfl _ _ rfl w.heap.size ao xs.length c xs rfl rfl hB3 rfl (by omega) hb3.size ?_; intro ao4 c4 w4 hown4 hC4 hb4)
      refine (gettext_any ao4 xs.length c4 xs most w4 hC4 rfl (by omega)).mono ?_
      rintro e w5 ⟨A5, c5, rfl, hR5, hb5⟩
      have hB5 := (hB3.later hb4).later hb5
      have hT5 := (hT3.later hb4).later hb5
      replace hb5 := (hb3.trans (hb4.mono hb3.size)).trans (hb5.mono (hb3.trans (hb4.mono hb3.size)).size)
      clear hown4 hC4 hb4 hb3 hB3 hT3
      go_wp2_with fail
      refine (refgettext_any ao xs.length c xs most w5 hB5 rfl (by omega) hm0 hm1).mono ?_
      rintro e w6 ⟨A6, c6, rfl, hR6, hb6⟩
      have hB6 := hB5.later hb6
      have hT6 := hT5.later hb6
      replace hR5 := hR5.later hb6
      replace hb6 := hb5.trans (hb6.mono hb5.size)
      clear hb5 hB5 hT5
      go_wp2_with fail
      have hD6 := hT6.rest (k := xs.length) (by rw [List.length_append]; omega)
      rw [List.drop_left] at hD6
      refine (gett_all _ _ (s.size + 2) s [] 300 w6 (by rw [List.append_nil]; exact hD6) rfl (by omega) (by omega) (by omega)).mono ?_
      rintro e w7 ⟨g7, c7, rfl, _, hb7⟩
      have hB7 := by_drew2 (hB6.later hb7)
      have hT7 := by_drew2 (hT6.later hb7)
      have hL7 := by_drew2 (hR6.later hb7)
      have hR7 := by_drew2 (hR5.later hb7)
      replace hb7 := (hb6.trans (hb7.mono hb6.size)).drew
      have hbb : Below w7.drew.heap.size w7.drew w7.drew := Below.refl _ _
      have hT : Hid (xs.length + (s.size + 2) = (xs ++ txtB s).length) := by show _ = _; rw [List.length_append, txtB_length]
      clear hD6 hT6 hR6 hR5 hB6 hb6 hsl
      generalize gotR xs most = R at *
      generalize gotS xs most = T at *
      generalize textErr xs most = E at *
      go_wp2_with fail
      refine wp_region_noPanic ?_
      go_region_held_law (fun W => (convert 22 9 (.slice (some ⟨g3, 0, none⟩) (xs.length + (s.size + 2)) c3)).run Try.prog W = .ok (.string ⟨(xs ++ txtB s).toArray⟩) W ∧ (convert 22 9 (.slice A5 R.length c5)).run Try.prog W = .ok (.string ⟨R.toArray⟩) W ∧ (convert 22 9 (.slice A6 R.length c6)).run Try.prog W = .ok (.string ⟨R.toArray⟩) W)
        (exact ⟨str_of (hT7.later hbb) hT.out, str_of (hR7.later hbb) rfl, str_of (hL7.later hbb) rfl⟩)
        (first | (go_at_call 25; refine (reftext_any _ xs.length xs s _ w7.drew.heap.size hown8 (by omega) (by omega) hbb.size).mono ?_; rintro e w9 ⟨ao9, c9, rfl, hB9, hb9⟩; replace hbb := hbb.trans hb9; have hs9 := str_of hB9 hT.out) | (refine step_copy _ (by rfl) _ _ (by rfl) w7.drew.heap.size ao xs.length c xs (by rfl) (by rfl) (hB7.later hbb) rfl (by omega) hbb.size ?_; intro ao8 c8 w8 hown8 hC8 hb8; replace hbb := hbb.trans (hb8.mono hbb.size)))
      all_goals
        refine NoPanic.normal ?_
        go_wp2
        go_ret
        exact ⟨rfl, hb7.trans (hbb.mono hb7.size)⟩
end Go.Proofs.Ytikidllbbokboaa
