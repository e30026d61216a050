/- What paddocklaw1.BitsTell calls, in the forms that its walk wants. -/
import Derived.Test.YtikidllbbokboaaRef3
import Derived.Deep.RegionHeldLaw
namespace Go.Proofs.Ytikidllbbokboaa
open Go.RowKit
set_option linter.unusedVariables false

/-- The number that is read, or nought. -/
def gotN (xs : List UInt8) (q : Int) : Nat := if heldI q ≤ xs.length then getN (xs.take (heldI q).toNat) else 0

/-- What is left behind it. -/
def gotL (xs : List UInt8) (q : Int) : List UInt8 := if heldI q ≤ xs.length then xs.drop (heldI q).toNat else xs

/-- Its error. -/
def gotE (xs : List UInt8) (q : Int) : Int := if heldI q ≤ xs.length then 0 else 11

theorem get_any (ao : Option Addr) (n c : Nat) (xs : List UInt8) (q : Int) (w : World) (h : By w ao c xs) (hn : n = xs.length) (hl : n ≤ 1099511627776) :
    Calls Try.prog 10 #[.slice ao n c, .int .i64 q] w fun e w' =>
      ∃ A c', e = .returned (.tuple #[.int .u64 (gotN xs q : Int), .slice A (gotL xs q).length c', .int .i64 (gotE xs q)]) ∧ By w' A c' (gotL xs q) ∧ Below w.heap.size w w' := by
  by_cases he : heldI q ≤ xs.length
  · refine (get_ok ao n c xs q w h hn hl (by rw [hn]; exact he)).mono ?_
    rintro e w' ⟨g, c', rfl, hB, hb⟩
    unfold gotN gotL gotE
    rw [if_pos he, if_pos he, if_pos he]
    refine ⟨some ⟨g, 0, none⟩, c', ?_, hB, hb⟩
    rw [List.length_drop, hn]
  · refine (get_short ao n c xs q w h hn hl (by rw [hn]; omega)).mono ?_
    rintro e w' ⟨g, c', rfl, hB, hb⟩
    unfold gotN gotL gotE
    rw [if_neg he, if_neg he, if_neg he]
    refine ⟨some ⟨g, 0, none⟩, c', ?_, hB, hb⟩
    rw [hn]
    rfl

theorem refget_any (ao : Option Addr) (n c : Nat) (xs : List UInt8) (q : Int) (w : World) (h : By w ao c xs) (hn : n = xs.length) (hl : n ≤ 1099511627776) :
    Calls Try.prog 11 #[.slice ao n c, .int .i64 q] w fun e w' =>
      ∃ A c', e = .returned (.tuple #[.int .u64 (gotN xs q : Int), .slice A (gotL xs q).length c', .bool (decide (heldI q ≤ xs.length))]) ∧ By w' A c' (gotL xs q) ∧ Below w.heap.size w w' := by
  obtain ⟨hk0, hk8⟩ := heldI_bd q
  obtain ⟨m, hm⟩ := Int.eq_ofNat_of_zero_le hk0
  by_cases he : heldI q ≤ xs.length
  · refine (refget_ok ao n c xs q m w h hn hm (by omega)).mono ?_
    rintro e w' ⟨rfl, hb⟩
    unfold gotN gotL
    rw [if_pos he, if_pos he, decide_eq_true he, hm, Int.toNat_natCast]
    refine ⟨restAddr ao c m, c - m, ?_, (h.later hb).rest (by omega), hb⟩
    rw [List.length_drop, hn]
  · refine (refget_short ao n c q m w (by omega) hm (by omega)).mono ?_
    rintro e w' ⟨rfl, rfl⟩
    unfold gotN gotL
    rw [if_neg he, if_neg he, decide_eq_false he]
    refine ⟨ao, c, ?_, h, Below.refl _ _⟩
    rw [hn]
    rfl

theorem own_later {w w' : World} {base n : Nat} {v : Value} {xs : List Value} (h : w.ownsRow base 5 1 v n xs) (hb : Below w.heap.size w w') : w'.ownsRow base 5 1 v n xs := by
  refine ⟨h.1, ?_⟩
  rcases h.2 with h2 | ⟨g, cap, cur, hv, hg, hh, r⟩
  · exact Or.inl h2
  · exact Or.inr ⟨g, cap, cur, hv, hg, by rw [hb.block g (Array.getElem?_eq_some_iff.1 hh).1]; exact hh, r⟩

/-- Bytes with a number behind them. -/
def putZ (xs : List UInt8) (x q : Int) : List UInt8 := xs ++ putB x.toNat (heldI q).toNat

/-- bits.Put behind bytes. -/
theorem put_str (ao : Option Addr) (n c : Nat) (xs : List UInt8) (x q : Int) (w : World) (h : By w ao c xs) (hn : n = xs.length) (hl : n ≤ 1099511627776) (hx0 : 0 ≤ x) (hx1 : x < 18446744073709551616) :
    Calls Try.prog 20 #[.slice ao n c, .int .u64 x, .int .i64 q] w fun e w' =>
      ∃ A c', e = .returned (.slice A (putZ xs x q).length c') ∧ By w' A c' (putZ xs x q) ∧ Below w.heap.size w w' := by
  refine (put_any ao n c xs x q w h hn hl hx0 hx1).mono ?_
  rintro e w' ⟨m, hm, rfl, hB, hb⟩
  exact ⟨some ⟨w.heap.size, 0, none⟩, m, by rw [hm]; rfl, hB, hb⟩

/-- paddockref1.Put behind own bytes. -/
theorem refput_str (v : Value) (n : Nat) (xs : List UInt8) (x q : Int) (w : World) (base : Nat) (hown : w.ownsRow base 5 1 v n (Bs xs)) (hl : n ≤ 1099511627776) (hbase : base ≤ w.heap.size) (hx0 : 0 ≤ x) (hx1 : x < 18446744073709551616) :
    Calls Try.prog 21 #[v, .int .u64 x, .int .i64 q] w fun e w' =>
      ∃ A c', e = .returned (.slice A (putZ xs x q).length c') ∧ By w' A c' (putZ xs x q) ∧ Below base w w' := by
  obtain ⟨hk0, hk8⟩ := heldI_bd q
  obtain ⟨m, hm⟩ := Int.eq_ofNat_of_zero_le hk0
  refine (refput_held v n (Bs xs) x q m w base hx0 hx1 hm (by omega) hown hl hbase).mono ?_
  rintro e w' ⟨v', rfl, ho, hb⟩
  rw [← Bs_append] at ho
  obtain ⟨hlen, A, c', rfl, hB⟩ := own_by ho
  have e1 : putZ xs x q = xs ++ putB x.toNat m := by unfold putZ; rw [hm, Int.toNat_natCast]
  rw [e1]
  exact ⟨A, c', by rw [hlen], hB, hb⟩

end Go.Proofs.Ytikidllbbokboaa
