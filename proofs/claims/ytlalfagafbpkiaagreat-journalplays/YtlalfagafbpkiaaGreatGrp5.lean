/- Text, GetText, joined. -/
import Derived.Test.YtlalfagafbpkiaaGreatGrp4
import Derived.Lib.AppendStr
import Derived.Deep.RegionWith
namespace Go.Proofs.YtlalfagafbpkiaaGreat
section
set_option maxRecDepth 100000
open Go.RowKit
set_option linter.unusedVariables false

/-- A text's bytes. -/
def strB (s : ByteArray) : List UInt8 := s.data.toList

theorem strB_length (s : ByteArray) : (strB s).length = s.size := by
  unfold strB
  rw [Array.length_toList]
  rfl

/-- A text behind its length. -/
def txtB (s : ByteArray) : List UInt8 := putB s.size 2 ++ strB s

theorem txtB_length (s : ByteArray) : (txtB s).length = s.size + 2 := by
  unfold txtB
  rw [List.length_append, putB_length, strB_length]
  omega

theorem strCells_is (s : ByteArray) : Lib.strCells s = Bs (strB s) := rfl

/-- What a row of one's own that is not empty looks like. -/
theorem own_form {w : World} {base n : Nat} {v : Value} {xs : List Value} (h : w.ownsRow base 5 1 v n xs) (hn : n ≠ 0) : ∃ g cap, v = .slice (some ⟨g, 0, none⟩) n cap ∧ base ≤ g ∧ cap ≤ 9223372036854775807 := by
  rcases h.2 with ⟨_, h⟩ | ⟨g, cap, cur, hv, hg, _, _, hm, _⟩
  · exact absurd h hn
  · exact ⟨g, cap, hv, hg, hm⟩

theorem appnum2 (g n cap : Nat) (xs : List Value) (x : Nat) (w : World) (base : Nat) (hx1 : x < 18446744073709551616)
    (hown : w.ownsRow base 5 1 (.slice (some ⟨g, 0, none⟩) n cap) n xs) (hfit : n + 2 ≤ cap) (hg : base ≤ g) (hbase : base ≤ w.heap.size) :
    Calls Tryz.prog 79 #[.slice (some ⟨g, 0, none⟩) n cap, .int .u64 x, .int .i64 2] w fun e w' =>
      e = .returned (.slice (some ⟨g, 0, none⟩) (n + 2) cap) ∧ w'.ownsRow base 5 1 (.slice (some ⟨g, 0, none⟩) (n + 2) cap) (n + 2) (xs ++ Bs (putB x 2)) ∧ Below base w w' :=
  appnum_any g n cap xs x 2 w base (by omega) (by omega) (by decide) hown hfit hg hbase

set_option maxHeartbeats 800000 in
theorem text_any (ao : Option Addr) (n c : Nat) (xs : List UInt8) (s : ByteArray) (w : World) (h : By w ao c xs) (hn : n = xs.length) (hl : n ≤ 1099511627776) (hs : s.size ≤ 65535) :
    Calls Tryz.prog 62 #[.slice ao n c, .string s] w fun e w' =>
      ∃ g c', e = .returned (.slice (some ⟨g, 0, none⟩) (n + (s.size + 2)) c') ∧ By w' (some ⟨g, 0, none⟩) c' (xs ++ txtB s) ∧ Below w.heap.size w w' := by
  subst hn
  obtain ⟨i0, hi, hz0, hz1, hz2⟩ := info_parts Tryz.infoByte
  have hsI : (s.size : Int) ≤ 65535 := by omega
  go_enter Tryz.func62, Tryz.ntmps62
  go_wp2_with fail
  refine (grown_any ao xs.length c xs (2 + (s.size : Int)) w h rfl hl (by omega) (by omega)).mono ?_
  rintro e w1 ⟨rfl, hown1, hb1⟩
  have e1 : (2 + (s.size : Int)).toNat = 2 + s.size := by omega
  rw [e1] at hown1
  go_wp2_with fail
  refine (appnum2 _ xs.length (xs.length + (2 + s.size)) (Bs xs) s.size w1 _ (by omega) hown1 (by omega) (Nat.le_refl _) hb1.size).mono ?_
  rintro e w2 ⟨rfl, hown2, hb2⟩
  rw [← Bs_append] at hown2
  have hb3 : Below w.heap.size w w2 := hb1.trans hb2
  clear hown1 hb1 hb2 e1
  go_wp2_with (at_builtin; refine Lib.wpList_append_own_string _ rfl _ _ 31 9 rfl w.heap.size 5 i0 Tryz.underlying31 Tryz.underlying9 hi hz0 hz1 hz2 _ (xs.length + 2) _ rfl hown2 s rfl (by unfold maxLen; omega) (by omega) hb3.size ?_)
  intro v w3 hown3 hgrow hnil
  rw [strCells_is, ← Bs_append] at hown3
  have hb4 : Below w.heap.size w w3 := hb3.grown hgrow hb3.size (by intro k hk; simp [Value.ownBlock] at hk; omega)
  obtain ⟨g, cap, rfl, hg, hc2⟩ := own_form hown3 (by omega)
  have hB := By.own hown3 hc2
  clear hown2 hown3 hgrow hnil hb3
  go_wp2
  go_ret
  refine ⟨g, cap, ?_, ?_, hb4⟩
  · have e2 : xs.length + 2 + s.size = xs.length + (s.size + 2) := by omega
    rw [← e2]
    rfl
  · rw [txtB, ← List.append_assoc]
    exact hB

/-- The length of a text, as it stands. -/
def lenN (xs : List UInt8) : Nat := getN (xs.take 2)

theorem lenN_lt (xs : List UInt8) : lenN xs < 65536 := by
  unfold lenN
  match xs with
  | [] => decide
  | [a] =>
    have ha : a.toNat < 256 := a.toNat_lt
    simp [getN]
    omega
  | a :: b :: r =>
    have ha : a.toNat < 256 := a.toNat_lt
    have hb : b.toNat < 256 := b.toNat_lt
    simp [getN]
    omega

theorem number2_ok (p : Addr) (ao : Option Addr) (n c : Nat) (xs : List UInt8) (w : World) (h : By w ao c xs) (hn : n = xs.length) (hk : 2 ≤ n)
    (hp : w.cell? p = some (.slice ao n c)) (hz : w.frozen? p = false) (hne : ∀ ad, ao = some ad → 0 < xs.length → ad.block ≠ p.block) :
    Calls Tryz.prog 95 #[.pointer (some p), .int .i64 2] w fun e w' =>
      e = .returned (.int .u64 (lenN xs : Int)) ∧ w' = w.setCell p (.slice (restAddr ao c 2) (n - 2) (c - 2)) := number_ok p ao n c 2 xs w h hn hk hp hz hne

theorem number2_short (p : Addr) (ao : Option Addr) (n c : Nat) (w : World) (hk : n < 2) (hn : n ≤ c) (hc : c ≤ 9223372036854775807)
    (hp : w.cell? p = some (.slice ao n c)) :
    Calls Tryz.prog 95 #[.pointer (some p), .int .i64 2] w fun e w' =>
      e = .panicked [{ v := .iface 27 (.int .i64 11), recovered := false }] ∧ w' = w := number_short p ao n c 2 w hk (by decide) hn hc hp

/-- Bytes that lie elsewhere stay where a variable of another block is written. -/
theorem By.kept {w : World} {ao : Option Addr} {c : Nat} {xs : List UInt8} (h : By w ao c xs) {p : Addr} (hne : ∀ ad, ao = some ad → 0 < xs.length → ad.block ≠ p.block) (v : Value) : By (w.setCell p v) ao c xs := by
  refine ⟨h.le, h.cap, h.nil, fun ad had j u hu => ?_⟩
  have hj : j < xs.length := by
    have := (List.getElem?_eq_some_iff.1 hu).1
    rw [Bs_length] at this
    exact this
  rw [World.cell?_setCell_other]
  · exact h.at' ad had j u hu
  · intro e
    have := hne ad had (by omega)
    apply this
    rw [e]
    unfold Addr.add
    split <;> rfl

theorem rest_block {ao : Option Addr} {c k : Nat} {ad : Addr} (h : restAddr ao c k = some ad) : ∃ ad', ao = some ad' ∧ ad'.block = ad.block := by
  unfold restAddr at h
  split at h
  · exact ⟨ad, h, rfl⟩
  · obtain ⟨a, ha, rfl⟩ := Option.map_eq_some_iff.1 h
    refine ⟨a, ha, ?_⟩
    unfold Addr.add
    split <;> rfl

set_option maxHeartbeats 800000 in
theorem rtext_ok (p : Addr) (ao : Option Addr) (n c : Nat) (xs : List UInt8) (most : Int) (w : World) (h : By w ao c xs) (hn : n = xs.length) (hk : 2 ≤ n) (hm : (lenN xs : Int) ≤ most) (hl : lenN xs + 2 ≤ n)
    (hp : w.cell? p = some (.slice ao n c)) (hz : w.frozen? p = false) (hne : ∀ ad, ao = some ad → 0 < xs.length → ad.block ≠ p.block) :
    Calls Tryz.prog 73 #[.pointer (some p), .int .i64 most] w fun e w' =>
      e = .returned (.string ⟨((xs.drop 2).take (lenN xs)).toArray⟩) ∧ w' = (w.setCell p (.slice (restAddr ao c 2) (n - 2) (c - 2))).setCell p (.slice (restAddr (restAddr ao c 2) (c - 2) (lenN xs)) (n - 2 - lenN xs) (c - 2 - lenN xs)) := by
  subst hn
  have hlt := lenN_lt xs
  have hle := h.le
  have hcap := h.cap
  have hp2 : (w.setCell p (.slice (restAddr ao c 2) (xs.length - 2) (c - 2))).cell? p = some (.slice (restAddr ao c 2) (xs.length - 2) (c - 2)) := World.cell?_setCell_same _ _ _ hp
  have hz2 : (w.setCell p (.slice (restAddr ao c 2) (xs.length - 2) (c - 2))).frozen? p = false := (World.frozen?_setCell _ _ _ _).trans hz
  have hB2 := (h.rest (k := 2) (by omega)).first (lenN xs)
  have hne2 : ∀ ad, restAddr ao c 2 = some ad → 0 < ((xs.drop 2).take (lenN xs)).length → ad.block ≠ p.block := by
    intro ad had hpos
    obtain ⟨a', ha', hb⟩ := rest_block had
    rw [← hb]
    exact hne a' ha' (by omega)
  have hB3 := (hB2.kept hne2 (.slice (restAddr ao c 2) (xs.length - 2) (c - 2))).kept hne2 (.slice (restAddr (restAddr ao c 2) (c - 2) (lenN xs)) (xs.length - 2 - lenN xs) (c - 2 - lenN xs))
  have hs := str_of hB3 (n := lenN xs) (by rw [List.length_take, List.length_drop]; omega)
  go_enter Tryz.func73, Tryz.ntmps73
  go_wp2_with fail
  refine (number2_ok p ao xs.length c xs w h rfl hk hp hz hne).mono ?_
  rintro e w' ⟨rfl, rfl⟩
  go_wp2_with fail
  refine (take_ok p (restAddr ao c 2) (xs.length - 2) (c - 2) (lenN xs) _ (by omega) (by omega) (by omega) hp2 hz2).mono ?_
  rintro e w' ⟨rfl, rfl⟩
  go_wp2
  go_ret
  exact ⟨rfl, rfl⟩

/-- How reader.text fails: with this number. -/
def textErr (xs : List UInt8) (most : Int) : Int := if xs.length < 2 then 11 else if most < (lenN xs : Int) then 13 else if xs.length < lenN xs + 2 then 11 else 0

set_option maxHeartbeats 800000 in
theorem rtext_err (p : Addr) (ao : Option Addr) (n c : Nat) (xs : List UInt8) (most : Int) (w : World) (h : By w ao c xs) (hn : n = xs.length) (he : textErr xs most ≠ 0)
    (hp : w.cell? p = some (.slice ao n c)) (hz : w.frozen? p = false) (hne : ∀ ad, ao = some ad → 0 < xs.length → ad.block ≠ p.block) :
    Calls Tryz.prog 73 #[.pointer (some p), .int .i64 most] w fun e w' =>
      e = .panicked [{ v := .iface 27 (.int .i64 (textErr xs most)), recovered := false }] ∧ (w' = w ∨ ∃ V, w' = w.setCell p V) := by
  subst hn
  have hlt := lenN_lt xs
  have hle := h.le
  have hcap := h.cap
  unfold textErr at he ⊢
  by_cases h2 : xs.length < 2
  · rw [if_pos h2] at he ⊢
    go_enter Tryz.func73, Tryz.ntmps73
    go_wp2_with (go_at_call 95; refine (number2_short p ao xs.length c w h2 hle hcap hp).mono ?_; rintro e w' ⟨rfl, rfl⟩)
    exact ⟨rfl, rfl, Or.inl rfl⟩
  · rw [if_neg h2] at he ⊢
    by_cases hm : most < (lenN xs : Int)
    · rw [if_pos hm] at he ⊢
      go_enter Tryz.func73, Tryz.ntmps73
      go_wp2_with (go_at_call 95; refine (number2_ok p ao xs.length c xs w h rfl (by omega) hp hz hne).mono ?_; rintro e w' ⟨rfl, rfl⟩)
      exact ⟨rfl, rfl, Or.inr ⟨_, rfl⟩⟩
    · rw [if_neg hm] at he ⊢
      by_cases hl : xs.length < lenN xs + 2
      · rw [if_pos hl] at he ⊢
        have hp2 : (w.setCell p (.slice (restAddr ao c 2) (xs.length - 2) (c - 2))).cell? p = some (.slice (restAddr ao c 2) (xs.length - 2) (c - 2)) := World.cell?_setCell_same _ _ _ hp
        go_enter Tryz.func73, Tryz.ntmps73
        go_wp2_with fail
        refine (number2_ok p ao xs.length c xs w h rfl (by omega) hp hz hne).mono ?_
        rintro e w' ⟨rfl, rfl⟩
        go_wp2_with fail
        refine (take_short p (restAddr ao c 2) (xs.length - 2) (c - 2) (lenN xs) _ (by omega) (by omega) (by omega) (by omega) hp2).mono ?_
        rintro e w' ⟨rfl, rfl⟩
        go_wp2
        exact ⟨rfl, rfl, Or.inr ⟨_, rfl⟩⟩
      · rw [if_neg hl] at he
        exact absurd rfl he
end

section
set_option maxRecDepth 100000
open Go.RowKit
set_option linter.unusedVariables false

/-- What a text's bytes are. -/
def txtOf (xs : List UInt8) : ByteArray := ⟨((xs.drop 2).take (lenN xs)).toArray⟩

theorem gettext1_ok (r b q : Addr) (ao : Option Addr) (n c : Nat) (xs : List UInt8) (most : Int) (z : ByteArray) (w : World) (h : By w ao c xs) (hn : n = xs.length) (hk : 2 ≤ n) (hm : (lenN xs : Int) ≤ most) (hl : lenN xs + 2 ≤ n)
    (hr : w.cell? r = some (.slice ao n c)) (hb : w.cell? b = some (.int .i64 most)) (hq : w.cell? q = some (.string z)) (zr : w.frozen? r = false) (zq : w.frozen? q = false)
    (hne : ∀ ad, ao = some ad → 0 < xs.length → ad.block ≠ r.block) (hrq : r.block ≠ q.block) :
    Calls Tryz.prog 72 #[.pointer (some r), .pointer (some b), .pointer (some q)] w fun e w' =>
      e = .returned (.tuple #[]) ∧ w' = ((w.setCell r (.slice (restAddr ao c 2) (n - 2) (c - 2))).setCell r (.slice (restAddr (restAddr ao c 2) (c - 2) (lenN xs)) (n - 2 - lenN xs) (c - 2 - lenN xs))).setCell q (.string (txtOf xs)) := by
  subst hn
  have hrq' : r ≠ q := fun e => hrq (by rw [e])
  have hq' : ((w.setCell r (.slice (restAddr ao c 2) (xs.length - 2) (c - 2))).setCell r (.slice (restAddr (restAddr ao c 2) (c - 2) (lenN xs)) (xs.length - 2 - lenN xs) (c - 2 - lenN xs))).cell? q = some (.string z) := by
    rw [World.cell?_setCell_other _ _ _ _ hrq', World.cell?_setCell_other _ _ _ _ hrq']
    exact hq
  go_enter Tryz.func72, Tryz.ntmps72
  go_wp2_with (go_at_call 73; refine (rtext_ok r ao xs.length c xs most _ h rfl hk hm hl hr zr hne).mono ?_; rintro e w' ⟨rfl, rfl⟩)
  go_end0
  exact ⟨rfl, rfl⟩

theorem gettext1_err (r b q : Addr) (ao : Option Addr) (n c : Nat) (xs : List UInt8) (most : Int) (w : World) (h : By w ao c xs) (hn : n = xs.length) (he : textErr xs most ≠ 0)
    (hr : w.cell? r = some (.slice ao n c)) (hb : w.cell? b = some (.int .i64 most)) (zr : w.frozen? r = false) (hne : ∀ ad, ao = some ad → 0 < xs.length → ad.block ≠ r.block) :
    Calls Tryz.prog 72 #[.pointer (some r), .pointer (some b), .pointer (some q)] w fun e w' =>
      e = .panicked [{ v := .iface 27 (.int .i64 (textErr xs most)), recovered := false }] ∧ (w' = w ∨ ∃ V, w' = w.setCell r V) := by
  subst hn
  generalize hx : textErr xs most = x at *
  go_enter Tryz.func72, Tryz.ntmps72
  go_wp2_with fail
  have H := rtext_err r ao xs.length c xs most w h rfl (by rw [hx]; exact he) hr zr hne
  rw [hx] at H
  refine H.mono ?_
  rintro e w' ⟨rfl, hw⟩
  clear H
  go_wp2
  exact ⟨rfl, rfl, hw⟩

/-- bits.caught over GetText's closure, where that returns. -/
theorem caught_text_ok (a b q : Value) (w w1 : World)
    (hF : Calls Tryz.prog 72 #[a, b, q] (w.alloc (.cells #[.int .i64 0] 27)) fun e w' => e = .returned (.tuple #[]) ∧ w' = w1)
    (hc : w1.cell? ⟨w.heap.size, 0, none⟩ = some (.int .i64 0)) (hz : w1.frozen? ⟨w.heap.size, 0, none⟩ = false) :
    Calls Tryz.prog 71 #[.func (.func 72) #[] #[a, b, q]] w fun e w' => e = .returned (.int .i64 0) ∧ w' = w1.setCell ⟨w.heap.size, 0, none⟩ (.int .i64 0) := by
  have hmf : ∀ (fn : Fn) (first cap : Array Value) (w : World), (Instr.makeFunc fn first cap).run Tryz.prog w = .ok (.func fn first cap) w := fun _ _ _ _ => rfl
  have H : Hid (Calls Tryz.prog 72 #[a, b, q] (w.alloc (.cells #[.int .i64 0] 27)) fun e w' => e = .returned (.tuple #[]) ∧ w' = w1) := hF
  clear hF
  go_enter_defers Tryz.func71, Tryz.ntmps71
  go_wp2_with fail
  refine H.out.mono ?_
  rintro e w' ⟨rfl, rfl⟩
  go_wp2
  refine leaves_cons (f := 94) (args := #[.pointer (some ⟨w.heap.size, 0, none⟩)]) (by simp) (by simp [go_sem]) ?_
  refine (catch_idle ⟨w.heap.size, 0, none⟩ _).mono ?_
  rintro e u' w'' ⟨rfl, rfl, rfl⟩
  have hc2 : (w'.setCell ⟨w.heap.size, 0, none⟩ (.int .i64 0)).cell? ⟨w.heap.size, 0, none⟩ = some (.int .i64 0) := by
    rw [World.cell?_setCell_same _ _ _ hc]
  simp [Leaves, settle, results, Tryz.results71, go_sem, hc2]

/-- bits.caught over GetText's closure, where that panics with an error. -/
theorem caught_text_err (a b q : Value) (x : Int) (w : World) (R : World → Prop)
    (hF : Calls Tryz.prog 72 #[a, b, q] (w.alloc (.cells #[.int .i64 0] 27)) fun e w' => e = .panicked [{ v := .iface 27 (.int .i64 x), recovered := false }] ∧ R w')
    (hR : ∀ w1, R w1 → w1.cell? ⟨w.heap.size, 0, none⟩ = some (.int .i64 0) ∧ w1.frozen? ⟨w.heap.size, 0, none⟩ = false) :
    Calls Tryz.prog 71 #[.func (.func 72) #[] #[a, b, q]] w fun e w' => e = .returned (.int .i64 x) ∧ ∃ w1, R w1 ∧ w' = w1.setCell ⟨w.heap.size, 0, none⟩ (.int .i64 x) := by
  have hmf : ∀ (fn : Fn) (first cap : Array Value) (w : World), (Instr.makeFunc fn first cap).run Tryz.prog w = .ok (.func fn first cap) w := fun _ _ _ _ => rfl
  have H : Hid (Calls Tryz.prog 72 #[a, b, q] (w.alloc (.cells #[.int .i64 0] 27)) fun e w' => e = .panicked [{ v := .iface 27 (.int .i64 x), recovered := false }] ∧ R w') := hF
  have HR : Hid (∀ w1, R w1 → w1.cell? ⟨w.heap.size, 0, none⟩ = some (.int .i64 0) ∧ w1.frozen? ⟨w.heap.size, 0, none⟩ = false) := hR
  clear hF hR
  go_enter_defers Tryz.func71, Tryz.ntmps71
  go_wp2_with fail
  refine H.out.mono ?_
  rintro e w' ⟨rfl, hw⟩
  obtain ⟨hc, hz⟩ := HR.out w' hw
  have HW : Hid (R w') := hw
  clear hw
  go_wp2
  refine leaves_cons (f := 94) (args := #[.pointer (some ⟨w.heap.size, 0, none⟩)]) (by simp) (by simp [go_sem]) ?_
  refine (catch_panicking ⟨w.heap.size, 0, none⟩ x 0 [] _ hc hz).mono ?_
  rintro e u' w'' ⟨rfl, rfl, rfl⟩
  have hc2 : (w'.setCell ⟨w.heap.size, 0, none⟩ (.int .i64 x)).cell? ⟨w.heap.size, 0, none⟩ = some (.int .i64 x) := by
    rw [World.cell?_setCell_same _ _ _ hc]
  simp [Leaves, settle, results, Tryz.results71, go_sem, hc2]
  exact ⟨w', HW.out, rfl⟩

/-- GetText's world at the call of caught. -/
def gotT (w : World) (ao : Option Addr) (n c : Nat) (most : Int) : World :=
  ((w.alloc (.cells #[.int .i64 most] 3)).alloc (.cells #[.slice ao n c] 108)).alloc (.cells #[.string ⟨#[]⟩] 9)

theorem gotT_size (w : World) (ao : Option Addr) (n c : Nat) (k : Int) : (gotT w ao n c k).heap.size = w.heap.size + 3 := by simp [gotT]

theorem gotT_below (w : World) (ao : Option Addr) (n c : Nat) (k : Int) : Below w.heap.size w (gotT w ao n c k) := by
  unfold gotT
  exact (((Below.refl _ _).alloc (Nat.le_refl _) _).alloc (by simp) _).alloc (by simp; omega) _

theorem caught_gett_ok (w : World) (ao : Option Addr) (c : Nat) (xs : List UInt8) (most : Int) (h : By w ao c xs) (hk : 2 ≤ xs.length) (hm : (lenN xs : Int) ≤ most) (hl : lenN xs + 2 ≤ xs.length) :
    Calls Tryz.prog 71 #[.func (.func 72) #[] #[.pointer (some ⟨w.heap.size + 1, 0, none⟩), .pointer (some ⟨w.heap.size, 0, none⟩), .pointer (some ⟨w.heap.size + 1 + 1, 0, none⟩)]] (gotT w ao xs.length c most) fun e w' =>
      e = .returned (.int .i64 0) ∧ w'.cell? ⟨w.heap.size + 1, 0, none⟩ = some (.slice (restAddr (restAddr ao c 2) (c - 2) (lenN xs)) (xs.length - 2 - lenN xs) (c - 2 - lenN xs)) ∧
        w'.cell? ⟨w.heap.size + 1 + 1, 0, none⟩ = some (.string (txtOf xs)) ∧ Below w.heap.size w w' ∧ w.heap.size + 3 < w'.heap.size := by
  have hb := gotT_below w ao xs.length c most
  have hs := gotT_size w ao xs.length c most
  have cr : (gotT w ao xs.length c most).cell? ⟨w.heap.size + 1, 0, none⟩ = some (.slice ao xs.length c) := by simp [gotT, go_sem]
  have cb : (gotT w ao xs.length c most).cell? ⟨w.heap.size, 0, none⟩ = some (.int .i64 most) := by simp [gotT, go_sem]
  have cq : (gotT w ao xs.length c most).cell? ⟨w.heap.size + 1 + 1, 0, none⟩ = some (.string ⟨#[]⟩) := by simp [gotT, go_sem]
  have zr : (gotT w ao xs.length c most).frozen? ⟨w.heap.size + 1, 0, none⟩ = false := by simp [gotT, go_sem]
  have zq : (gotT w ao xs.length c most).frozen? ⟨w.heap.size + 1 + 1, 0, none⟩ = false := by simp [gotT, go_sem]
  have hW := h.later hb
  have hne : ∀ ad, ao = some ad → 0 < xs.length → ad.block ≠ w.heap.size + 1 := by
    intro ad had hl
    have := World.block_lt_of_cell? w _ (h.at' ad had 0 _ (Bs_at hl))
    simp [Addr.add] at this
    omega
  generalize gotT w ao xs.length c most = W at *
  have bE : Below w.heap.size w (W.alloc (.cells #[.int .i64 0] 27)) := hb.alloc (by omega) _
  have bE' : Below W.heap.size W (W.alloc (.cells #[.int .i64 0] 27)) := (Below.refl _ _).alloc (Nat.le_refl _) _
  have cr' := (World.cell?_alloc_past (w := W) (.cells #[.int .i64 0] 27) (w.heap.size + 1) 0 (by omega)).trans cr
  have cb' := (World.cell?_alloc_past (w := W) (.cells #[.int .i64 0] 27) w.heap.size 0 (by omega)).trans cb
  have cq' := (World.cell?_alloc_past (w := W) (.cells #[.int .i64 0] 27) (w.heap.size + 1 + 1) 0 (by omega)).trans cq
  have zr' := (World.frozen?_alloc_past (w := W) (.cells #[.int .i64 0] 27) (w.heap.size + 1) 0 (by omega)).trans zr
  have zq' := (World.frozen?_alloc_past (w := W) (.cells #[.int .i64 0] 27) (w.heap.size + 1 + 1) 0 (by omega)).trans zq
  have ce : (W.alloc (.cells #[.int .i64 0] 27)).cell? ⟨W.heap.size, 0, none⟩ = some (.int .i64 0) := by simp [go_sem]
  have ze : (W.alloc (.cells #[.int .i64 0] 27)).frozen? ⟨W.heap.size, 0, none⟩ = false := by simp [go_sem]
  have hF := gettext1_ok ⟨w.heap.size + 1, 0, none⟩ ⟨w.heap.size, 0, none⟩ ⟨w.heap.size + 1 + 1, 0, none⟩ ao xs.length c xs most ⟨#[]⟩ (W.alloc (.cells #[.int .i64 0] 27)) (hW.later bE') rfl hk hm hl cr' cb' cq' zr' zq' hne (by simp)
  generalize hV0 : Value.slice (restAddr ao c 2) (xs.length - 2) (c - 2) = V0 at *
  generalize hV1 : Value.slice (restAddr (restAddr ao c 2) (c - 2) (lenN xs)) (xs.length - 2 - lenN xs) (c - 2 - lenN xs) = V1 at *
  generalize hV2 : Value.string (txtOf xs) = V2 at *
  have ne1 : (⟨w.heap.size + 1, 0, none⟩ : Addr) ≠ ⟨w.heap.size + 1 + 1, 0, none⟩ := by simp
  have ne2 : (⟨W.heap.size, 0, none⟩ : Addr) ≠ ⟨w.heap.size + 1 + 1, 0, none⟩ := by simp [hs]
  have ne3 : (⟨W.heap.size, 0, none⟩ : Addr) ≠ ⟨w.heap.size + 1, 0, none⟩ := by simp [hs]
  refine (caught_text_ok _ _ _ W _ hF ?_ ?_).mono ?_
  · rw [World.cell?_setCell_other _ _ _ _ ne2.symm, World.cell?_setCell_other _ _ _ _ ne3.symm, World.cell?_setCell_other _ _ _ _ ne3.symm]
    exact ce
  · rw [World.frozen?_setCell, World.frozen?_setCell, World.frozen?_setCell]
    exact ze
  · rintro e w' ⟨rfl, rfl⟩
    refine ⟨rfl, ?_, ?_, ?_, ?_⟩
    · rw [World.cell?_setCell_other _ _ _ _ ne3, World.cell?_setCell_other _ _ _ _ ne1.symm, World.cell?_setCell_same _ _ _ (World.cell?_setCell_same _ _ _ cr')]
    · rw [World.cell?_setCell_other _ _ _ _ ne2, World.cell?_setCell_same _ _ _ ((World.cell?_setCell_other _ _ _ _ ne1).trans ((World.cell?_setCell_other _ _ _ _ ne1).trans cq'))]
    · exact (((bE.setCell (by simp) _).setCell (by simp) _).setCell (by simp; omega) _).setCell (by simp; omega) _
    · simp [World.setCell]; omega

theorem caught_gett_err (w : World) (ao : Option Addr) (c : Nat) (xs : List UInt8) (most : Int) (h : By w ao c xs) (he : textErr xs most ≠ 0) :
    Calls Tryz.prog 71 #[.func (.func 72) #[] #[.pointer (some ⟨w.heap.size + 1, 0, none⟩), .pointer (some ⟨w.heap.size, 0, none⟩), .pointer (some ⟨w.heap.size + 1 + 1, 0, none⟩)]] (gotT w ao xs.length c most) fun e w' =>
      e = .returned (.int .i64 (textErr xs most)) ∧ Below w.heap.size w w' := by
  have hb := gotT_below w ao xs.length c most
  have hs := gotT_size w ao xs.length c most
  have cr : (gotT w ao xs.length c most).cell? ⟨w.heap.size + 1, 0, none⟩ = some (.slice ao xs.length c) := by simp [gotT, go_sem]
  have cb : (gotT w ao xs.length c most).cell? ⟨w.heap.size, 0, none⟩ = some (.int .i64 most) := by simp [gotT, go_sem]
  have zr : (gotT w ao xs.length c most).frozen? ⟨w.heap.size + 1, 0, none⟩ = false := by simp [gotT, go_sem]
  have hW := h.later hb
  have hne : ∀ ad, ao = some ad → 0 < xs.length → ad.block ≠ w.heap.size + 1 := by
    intro ad had hl
    have := World.block_lt_of_cell? w _ (h.at' ad had 0 _ (Bs_at hl))
    simp [Addr.add] at this
    omega
  generalize gotT w ao xs.length c most = W at *
  have bE : Below w.heap.size w (W.alloc (.cells #[.int .i64 0] 27)) := hb.alloc (by omega) _
  have bE' : Below W.heap.size W (W.alloc (.cells #[.int .i64 0] 27)) := (Below.refl _ _).alloc (Nat.le_refl _) _
  have cr' := (World.cell?_alloc_past (w := W) (.cells #[.int .i64 0] 27) (w.heap.size + 1) 0 (by omega)).trans cr
  have cb' := (World.cell?_alloc_past (w := W) (.cells #[.int .i64 0] 27) w.heap.size 0 (by omega)).trans cb
  have zr' := (World.frozen?_alloc_past (w := W) (.cells #[.int .i64 0] 27) (w.heap.size + 1) 0 (by omega)).trans zr
  have ce : (W.alloc (.cells #[.int .i64 0] 27)).cell? ⟨W.heap.size, 0, none⟩ = some (.int .i64 0) := by simp [go_sem]
  have ze : (W.alloc (.cells #[.int .i64 0] 27)).frozen? ⟨W.heap.size, 0, none⟩ = false := by simp [go_sem]
  have ne3 : (⟨W.heap.size, 0, none⟩ : Addr) ≠ ⟨w.heap.size + 1, 0, none⟩ := by simp [hs]
  have hF := gettext1_err ⟨w.heap.size + 1, 0, none⟩ ⟨w.heap.size, 0, none⟩ ⟨w.heap.size + 1 + 1, 0, none⟩ ao xs.length c xs most (W.alloc (.cells #[.int .i64 0] 27)) (hW.later bE') rfl he cr' cb' zr' hne
  refine (caught_text_err _ _ _ _ W _ hF ?_).mono ?_
  · rintro w1 (rfl | ⟨V, rfl⟩)
    · exact ⟨ce, ze⟩
    · exact ⟨(World.cell?_setCell_other _ _ _ _ ne3.symm).trans ce, (World.frozen?_setCell _ _ _ _).trans ze⟩
  · rintro e w' ⟨rfl, w1, hw1, rfl⟩
    refine ⟨rfl, ?_⟩
    rcases hw1 with rfl | ⟨V, rfl⟩
    · exact bE.setCell (by simp; omega) _
    · exact (bE.setCell (by simp) _).setCell (by simp; omega) _

set_option maxHeartbeats 800000 in
theorem gettext_ok (ao : Option Addr) (n c : Nat) (xs : List UInt8) (most : Int) (w : World) (h : By w ao c xs) (hn : n = xs.length) (hl : n ≤ 1099511627776) (he : textErr xs most = 0) :
    Calls Tryz.prog 53 #[.slice ao n c, .int .i64 most] w fun e w' =>
      ∃ g c', e = .returned (.tuple #[.string (txtOf xs), .slice (some ⟨g, 0, none⟩) (n - 2 - lenN xs) c', .int .i64 0]) ∧ By w' (some ⟨g, 0, none⟩) c' ((xs.drop 2).drop (lenN xs)) ∧ Below w.heap.size w w' := by
  have hmf : ∀ (fn : Fn) (first cap : Array Value) (w : World), (Instr.makeFunc fn first cap).run Tryz.prog w = .ok (.func fn first cap) w := fun _ _ _ _ => rfl
  subst hn
  obtain ⟨hk, hm, hL⟩ : 2 ≤ xs.length ∧ (lenN xs : Int) ≤ most ∧ lenN xs + 2 ≤ xs.length := by
    unfold textErr at he
    split at he
    · cases he
    · split at he
      · cases he
      · split at he
        · cases he
        · refine ⟨by omega, by omega, by omega⟩
  clear he
  go_enter Tryz.func53, Tryz.ntmps53
  go_wp2_with fail
  refine (caught_gett_ok w ao c xs most h hk hm hL).mono ?_
  rintro e w1 ⟨rfl, cr, cq, hb, hs⟩
  have hR := ((h.later hb).rest (k := 2) (by omega)).rest (k := lenN xs) (by rw [List.length_drop]; omega)
  have hLL : Hid (xs.length - 2 - lenN xs = ((xs.drop 2).drop (lenN xs)).length) := by show _ = _; rw [List.length_drop, List.length_drop]
  generalize restAddr (restAddr ao c 2) (c - 2) (lenN xs) = A at *
  go_wp2_with fail
  go_region_with (go_at_call 74; refine (grown_any _ _ _ _ 0 _ (hR.later ?_) hLL.out (by omega) (by decide) (by decide)).mono ?_; exact (Below.refl _ _).drew; rintro e w2 ⟨rfl, hown, hb2⟩; have cq2 := (hb2.cell (p := ⟨w.heap.size + 1 + 1, 0, none⟩) (by simp; omega)).trans cq)
  all_goals
    have hb3 : Below w.heap.size w w2 := hb.trans ((of_drew hb2).mono (by show w.heap.size ≤ w1.heap.size; omega))
    have R := By.own hown (by simp; omega)
    clear hown hb2 cq2
    go_wp2
    go_ret3
    exact ⟨_, _, rfl, R, hb3⟩

set_option maxHeartbeats 800000 in
theorem gettext_err (ao : Option Addr) (n c : Nat) (xs : List UInt8) (most : Int) (w : World) (h : By w ao c xs) (hn : n = xs.length) (hl : n ≤ 1099511627776) (he : textErr xs most ≠ 0) :
    Calls Tryz.prog 53 #[.slice ao n c, .int .i64 most] w fun e w' =>
      ∃ g c', e = .returned (.tuple #[.string ⟨#[]⟩, .slice (some ⟨g, 0, none⟩) n c', .int .i64 (textErr xs most)]) ∧ By w' (some ⟨g, 0, none⟩) c' xs ∧ Below w.heap.size w w' := by
  have hmf : ∀ (fn : Fn) (first cap : Array Value) (w : World), (Instr.makeFunc fn first cap).run Tryz.prog w = .ok (.func fn first cap) w := fun _ _ _ _ => rfl
  subst hn
  have hc := caught_gett_err w ao c xs most h he
  have hne : (textErr xs most != 0) = true := by rw [bne_iff_ne]; exact he
  clear he
  generalize textErr xs most = x at *
  have HC : Hid (Calls Tryz.prog 71 #[.func (.func 72) #[] #[.pointer (some ⟨w.heap.size + 1, 0, none⟩), .pointer (some ⟨w.heap.size, 0, none⟩), .pointer (some ⟨w.heap.size + 1 + 1, 0, none⟩)]] (gotT w ao xs.length c most) fun e w' => e = .returned (.int .i64 x) ∧ Below w.heap.size w w') := hc
  clear hc
  go_enter Tryz.func53, Tryz.ntmps53
  go_wp2_with fail
  refine HC.out.mono ?_
  rintro e w1 ⟨rfl, hb⟩
  clear HC
  go_wp2_with fail
  refine (grown_any ao xs.length c xs 0 w1 (h.later hb) rfl hl (by decide) (by decide)).mono ?_
  rintro e w2 ⟨rfl, hown, hb2⟩
  have hb3 : Below w.heap.size w w2 := hb.trans (hb2.mono hb.size)
  have R := By.own hown (by simp; omega)
  clear hown hb2
  go_wp2
  go_ret3
  exact ⟨_, _, rfl, R, hb3⟩
end
end Go.Proofs.YtlalfagafbpkiaaGreat
