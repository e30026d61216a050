/- Text, joined. -/
import Derived.Test.YtpnpjblohijajabGreatGrp15
import Derived.Lib.AppendStr
namespace Go.Proofs.YtpnpjblohijajabGreat
section
set_option maxRecDepth 100000
open Go.RowKit
set_option linter.unusedVariables false

/-- A text's bytes. -/
def strB (s : ByteArray) : List UInt8 := s.data.toList

theorem strB_length (s : ByteArray) : (strB s).length = s.size := by
  unfold strB
  rw [Array.length_toList]
  rfl

/-- A text behind its length. -/
def txtB (s : ByteArray) : List UInt8 := putB s.size 2 ++ strB s

theorem txtB_length (s : ByteArray) : (txtB s).length = s.size + 2 := by
  unfold txtB
  rw [List.length_append, putB_length, strB_length]
  omega

theorem strCells_is (s : ByteArray) : Lib.strCells s = Bs (strB s) := rfl

/-- What a row of one's own that is not empty looks like. -/
theorem own_form {w : World} {base n : Nat} {v : Value} {xs : List Value} (h : w.ownsRow base 5 1 v n xs) (hn : n ≠ 0) : ∃ g cap, v = .slice (some ⟨g, 0, none⟩) n cap ∧ base ≤ g ∧ cap ≤ 9223372036854775807 := by
  rcases h.2 with ⟨_, h⟩ | ⟨g, cap, cur, hv, hg, _, _, hm, _⟩
  · exact absurd h hn
  · exact ⟨g, cap, hv, hg, hm⟩

theorem appnum2 (g n cap : Nat) (xs : List Value) (x : Nat) (w : World) (base : Nat) (hx1 : x < 18446744073709551616)
    (hown : w.ownsRow base 5 1 (.slice (some ⟨g, 0, none⟩) n cap) n xs) (hfit : n + 2 ≤ cap) (hg : base ≤ g) (hbase : base ≤ w.heap.size) :
    Calls Tryz.prog 96 #[.slice (some ⟨g, 0, none⟩) n cap, .int .u64 x, .int .i64 2] w fun e w' =>
      e = .returned (.slice (some ⟨g, 0, none⟩) (n + 2) cap) ∧ w'.ownsRow base 5 1 (.slice (some ⟨g, 0, none⟩) (n + 2) cap) (n + 2) (xs ++ Bs (putB x 2)) ∧ Below base w w' :=
  appnum_any g n cap xs x 2 w base (by omega) (by omega) (by decide) hown hfit hg hbase

set_option maxHeartbeats 800000 in
theorem text_any (ao : Option Addr) (n c : Nat) (xs : List UInt8) (s : ByteArray) (w : World) (h : By w ao c xs) (hn : n = xs.length) (hl : n ≤ 1099511627776) (hs : s.size ≤ 65535) :
    Calls Tryz.prog 70 #[.slice ao n c, .string s] w fun e w' =>
      ∃ g c', e = .returned (.slice (some ⟨g, 0, none⟩) (n + (s.size + 2)) c') ∧ By w' (some ⟨g, 0, none⟩) c' (xs ++ txtB s) ∧ Below w.heap.size w w' := by
  subst hn
  obtain ⟨i0, hi, hz0, hz1, hz2⟩ := info_parts Tryz.infoByte
  have hsI : (s.size : Int) ≤ 65535 := by omega
  go_enter Tryz.func70, Tryz.ntmps70
  go_wp2_with fail
  refine (grown_any ao xs.length c xs (2 + (s.size : Int)) w h rfl hl (by omega) (by omega)).mono ?_
  rintro e w1 ⟨rfl, hown1, hb1⟩
  have e1 : (2 + (s.size : Int)).toNat = 2 + s.size := by omega
  rw [e1] at hown1
  go_wp2_with fail
  refine (appnum2 _ xs.length (xs.length + (2 + s.size)) (Bs xs) s.size w1 _ (by omega) hown1 (by omega) (Nat.le_refl _) hb1.size).mono ?_
  rintro e w2 ⟨rfl, hown2, hb2⟩
  rw [← Bs_append] at hown2
  have hb3 : Below w.heap.size w w2 := hb1.trans hb2
  clear hown1 hb1 hb2 e1
  go_wp2_with (at_builtin; refine Lib.wpList_append_own_string _ rfl _ _ 60 9 rfl w.heap.size 5 i0 Tryz.underlying60 Tryz.underlying9 hi hz0 hz1 hz2 _ (xs.length + 2) _ rfl hown2 s rfl (by unfold maxLen; omega) (by omega) hb3.size ?_)
  intro v w3 hown3 hgrow hnil
  rw [strCells_is, ← Bs_append] at hown3
  have hb4 : Below w.heap.size w w3 := hb3.grown hgrow hb3.size (by intro k hk; simp [Value.ownBlock] at hk; omega)
  obtain ⟨g, cap, rfl, hg, hc2⟩ := own_form hown3 (by omega)
  have hB := By.own hown3 hc2
  clear hown2 hown3 hgrow hnil hb3
  go_wp2
  go_ret
  refine ⟨g, cap, ?_, ?_, hb4⟩
  · have e2 : xs.length + 2 + s.size = xs.length + (s.size + 2) := by omega
    rw [← e2]
    rfl
  · rw [txtB, ← List.append_assoc]
    exact hB

/-- The length of a text, as it stands. -/
def lenN (xs : List UInt8) : Nat := getN (xs.take 2)

theorem lenN_lt (xs : List UInt8) : lenN xs < 65536 := by
  unfold lenN
  match xs with
  | [] => decide
  | [a] =>
    have ha : a.toNat < 256 := a.toNat_lt
    simp [getN]
    omega
  | a :: b :: r =>
    have ha : a.toNat < 256 := a.toNat_lt
    have hb : b.toNat < 256 := b.toNat_lt
    simp [getN]
    omega

theorem number2_ok (p : Addr) (ao : Option Addr) (n c : Nat) (xs : List UInt8) (w : World) (h : By w ao c xs) (hn : n = xs.length) (hk : 2 ≤ n)
    (hp : w.cell? p = some (.slice ao n c)) (hz : w.frozen? p = false) (hne : ∀ ad, ao = some ad → 0 < xs.length → ad.block ≠ p.block) :
    Calls Tryz.prog 137 #[.pointer (some p), .int .i64 2] w fun e w' =>
      e = .returned (.int .u64 (lenN xs : Int)) ∧ w' = w.setCell p (.slice (restAddr ao c 2) (n - 2) (c - 2)) := number_ok p ao n c 2 xs w h hn hk hp hz hne

theorem number2_short (p : Addr) (ao : Option Addr) (n c : Nat) (w : World) (hk : n < 2) (hn : n ≤ c) (hc : c ≤ 9223372036854775807)
    (hp : w.cell? p = some (.slice ao n c)) :
    Calls Tryz.prog 137 #[.pointer (some p), .int .i64 2] w fun e w' =>
      e = .panicked [{ v := .iface 25 (.int .i64 11), recovered := false }] ∧ w' = w := number_short p ao n c 2 w hk (by decide) hn hc hp

/-- Bytes that lie elsewhere stay where a variable of another block is written. -/
theorem By.kept {w : World} {ao : Option Addr} {c : Nat} {xs : List UInt8} (h : By w ao c xs) {p : Addr} (hne : ∀ ad, ao = some ad → 0 < xs.length → ad.block ≠ p.block) (v : Value) : By (w.setCell p v) ao c xs := by
  refine ⟨h.le, h.cap, h.nil, fun ad had j u hu => ?_⟩
  have hj : j < xs.length := by
    have := (List.getElem?_eq_some_iff.1 hu).1
    rw [Bs_length] at this
    exact this
  rw [World.cell?_setCell_other]
  · exact h.at' ad had j u hu
  · intro e
    have := hne ad had (by omega)
    apply this
    rw [e]
    unfold Addr.add
    split <;> rfl

theorem rest_block {ao : Option Addr} {c k : Nat} {ad : Addr} (h : restAddr ao c k = some ad) : ∃ ad', ao = some ad' ∧ ad'.block = ad.block := by
  unfold restAddr at h
  split at h
  · exact ⟨ad, h, rfl⟩
  · obtain ⟨a, ha, rfl⟩ := Option.map_eq_some_iff.1 h
    refine ⟨a, ha, ?_⟩
    unfold Addr.add
    split <;> rfl

set_option maxHeartbeats 800000 in
theorem rtext_ok (p : Addr) (ao : Option Addr) (n c : Nat) (xs : List UInt8) (most : Int) (w : World) (h : By w ao c xs) (hn : n = xs.length) (hk : 2 ≤ n) (hm : (lenN xs : Int) ≤ most) (hl : lenN xs + 2 ≤ n)
    (hp : w.cell? p = some (.slice ao n c)) (hz : w.frozen? p = false) (hne : ∀ ad, ao = some ad → 0 < xs.length → ad.block ≠ p.block) :
    Calls Tryz.prog 113 #[.pointer (some p), .int .i64 most] w fun e w' =>
      e = .returned (.string ⟨((xs.drop 2).take (lenN xs)).toArray⟩) ∧ w' = (w.setCell p (.slice (restAddr ao c 2) (n - 2) (c - 2))).setCell p (.slice (restAddr (restAddr ao c 2) (c - 2) (lenN xs)) (n - 2 - lenN xs) (c - 2 - lenN xs)) := by
  subst hn
  have hlt := lenN_lt xs
  have hle := h.le
  have hcap := h.cap
  have hp2 : (w.setCell p (.slice (restAddr ao c 2) (xs.length - 2) (c - 2))).cell? p = some (.slice (restAddr ao c 2) (xs.length - 2) (c - 2)) := World.cell?_setCell_same _ _ _ hp
  have hz2 : (w.setCell p (.slice (restAddr ao c 2) (xs.length - 2) (c - 2))).frozen? p = false := (World.frozen?_setCell _ _ _ _).trans hz
  have hB2 := (h.rest (k := 2) (by omega)).first (lenN xs)
  have hne2 : ∀ ad, restAddr ao c 2 = some ad → 0 < ((xs.drop 2).take (lenN xs)).length → ad.block ≠ p.block := by
    intro ad had hpos
    obtain ⟨a', ha', hb⟩ := rest_block had
    rw [← hb]
    exact hne a' ha' (by omega)
  have hB3 := (hB2.kept hne2 (.slice (restAddr ao c 2) (xs.length - 2) (c - 2))).kept hne2 (.slice (restAddr (restAddr ao c 2) (c - 2) (lenN xs)) (xs.length - 2 - lenN xs) (c - 2 - lenN xs))
  have hs := str_of hB3 (n := lenN xs) (by rw [List.length_take, List.length_drop]; omega)
  go_enter Tryz.func113, Tryz.ntmps113
  go_wp2_with fail
  refine (number2_ok p ao xs.length c xs w h rfl hk hp hz hne).mono ?_
  rintro e w' ⟨rfl, rfl⟩
  go_wp2_with fail
  refine (take_ok p (restAddr ao c 2) (xs.length - 2) (c - 2) (lenN xs) _ (by omega) (by omega) (by omega) hp2 hz2).mono ?_
  rintro e w' ⟨rfl, rfl⟩
  go_wp2
  go_ret
  exact ⟨rfl, rfl⟩

/-- How reader.text fails: with this number. -/
def textErr (xs : List UInt8) (most : Int) : Int := if xs.length < 2 then 11 else if most < (lenN xs : Int) then 13 else if xs.length < lenN xs + 2 then 11 else 0

set_option maxHeartbeats 800000 in
theorem rtext_err (p : Addr) (ao : Option Addr) (n c : Nat) (xs : List UInt8) (most : Int) (w : World) (h : By w ao c xs) (hn : n = xs.length) (he : textErr xs most ≠ 0)
    (hp : w.cell? p = some (.slice ao n c)) (hz : w.frozen? p = false) (hne : ∀ ad, ao = some ad → 0 < xs.length → ad.block ≠ p.block) :
    Calls Tryz.prog 113 #[.pointer (some p), .int .i64 most] w fun e w' =>
      e = .panicked [{ v := .iface 25 (.int .i64 (textErr xs most)), recovered := false }] ∧ (w' = w ∨ ∃ V, w' = w.setCell p V) := by
  subst hn
  have hlt := lenN_lt xs
  have hle := h.le
  have hcap := h.cap
  unfold textErr at he ⊢
  by_cases h2 : xs.length < 2
  · rw [if_pos h2] at he ⊢
    go_enter Tryz.func113, Tryz.ntmps113
    go_wp2_with (go_at_call 137; refine (number2_short p ao xs.length c w h2 hle hcap hp).mono ?_; rintro e w' ⟨rfl, rfl⟩)
    exact ⟨rfl, rfl, Or.inl rfl⟩
  · rw [if_neg h2] at he ⊢
    by_cases hm : most < (lenN xs : Int)
    · rw [if_pos hm] at he ⊢
      go_enter Tryz.func113, Tryz.ntmps113
      go_wp2_with (go_at_call 137; refine (number2_ok p ao xs.length c xs w h rfl (by omega) hp hz hne).mono ?_; rintro e w' ⟨rfl, rfl⟩)
      exact ⟨rfl, rfl, Or.inr ⟨_, rfl⟩⟩
    · rw [if_neg hm] at he ⊢
      by_cases hl : xs.length < lenN xs + 2
      · rw [if_pos hl] at he ⊢
        have hp2 : (w.setCell p (.slice (restAddr ao c 2) (xs.length - 2) (c - 2))).cell? p = some (.slice (restAddr ao c 2) (xs.length - 2) (c - 2)) := World.cell?_setCell_same _ _ _ hp
        go_enter Tryz.func113, Tryz.ntmps113
        go_wp2_with fail
        refine (number2_ok p ao xs.length c xs w h rfl (by omega) hp hz hne).mono ?_
        rintro e w' ⟨rfl, rfl⟩
        go_wp2_with fail
        refine (take_short p (restAddr ao c 2) (xs.length - 2) (c - 2) (lenN xs) _ (by omega) (by omega) (by omega) (by omega) hp2).mono ?_
        rintro e w' ⟨rfl, rfl⟩
        go_wp2
        exact ⟨rfl, rfl, Or.inr ⟨_, rfl⟩⟩
      · rw [if_neg hl] at he
        exact absurd rfl he
end
end Go.Proofs.YtpnpjblohijajabGreat
