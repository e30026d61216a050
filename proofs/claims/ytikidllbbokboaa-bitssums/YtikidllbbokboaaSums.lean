/- paddocklaw1.BitsSums returns true, whatever the bytes, the place and what is turned there; nothing that was there is written. -/
import Derived.Test.YtikidllbbokboaaKnown
import Derived.Test.YtikidllbbokboaaInj
namespace Go.Proofs.Ytikidllbbokboaa
open Go.RowKit
set_option linter.unusedVariables false

theorem by_drew {w : World} {ao : Option Addr} {c : Nat} {xs : List UInt8} (h : By w ao c xs) : By w.drew ao c xs := ⟨h.le, h.cap, h.nil, h.at'⟩

/-- A byte of a row of one's own is turned. -/
theorem own_set {w : World} {base g n cap : Nat} {xs : List UInt8} (h : w.ownsRow base 5 1 (.slice (some ⟨g, 0, none⟩) n cap) n (Bs xs)) (i : Nat) (hi : i < xs.length) (y : UInt8) (hcap : cap ≤ 9223372036854775807) :
    By (w.setCell ⟨g, i, none⟩ (B y)) (some ⟨g, 0, none⟩) cap (xs.set i y) := by
  have hB := By.own h hcap
  refine ⟨by rw [List.length_set]; exact hB.le, hcap, (fun h => by cases h), fun ad had j u hu => ?_⟩
  obtain rfl := Option.some.inj had
  have hj : j < xs.length := by
    have := (List.getElem?_eq_some_iff.1 hu).1
    rw [Bs_length, List.length_set] at this
    exact this
  have hc := hB.cell j hj
  rw [Addr.add_lit, Nat.zero_add] at hc ⊢
  by_cases hij : i = j
  · subst hij
    rw [World.cell?_setCell_same _ _ _ hc]
    simp [Bs, hj] at hu
    rw [hu]
  · rw [World.cell?_setCell_other _ _ _ _ (by simp), hc]
    simp [Bs, B, hj, hij] at hu
    rw [← hu]

theorem turned (a : UInt8) (b : Int) (h0 : 0 ≤ b) (h1 : b ≤ 255) : Value.int .u8 (bits .xor .u8 (a.toNat : Int) b) = B (UInt8.ofNat (a.toNat ^^^ b.toNat)) := by
  obtain ⟨n, rfl⟩ := Int.eq_ofNat_of_zero_le h0
  have hx : a.toNat < 256 := a.toNat_lt
  have hl : a.toNat ^^^ n < 2 ^ 8 := Nat.xor_lt_two_pow (by omega) (by omega)
  rw [bits_xor_u8_nat _ _ hx (by omega), B, Int.toNat_natCast, UInt8.toNat_ofNat', Nat.mod_eq_of_lt hl]

theorem turned_eq (xs : List UInt8) (i : Nat) (hi : i < xs.length) (b : Int) (h0 : 0 ≤ b) (h1 : b ≤ 255) :
    ((sumN xs : Int) == (sumN (xs.set i (UInt8.ofNat (xs[i].toNat ^^^ b.toNat))) : Int)) = (b == 0) := by
  obtain ⟨n, rfl⟩ := Int.eq_ofNat_of_zero_le h0
  have hx : xs[i].toNat < 256 := xs[i].toNat_lt
  have hl : xs[i].toNat ^^^ n < 2 ^ 8 := Nat.xor_lt_two_pow (by omega) (by omega)
  rw [Bool.eq_iff_iff, beq_iff_eq, beq_iff_eq, Int.toNat_natCast]
  constructor
  · intro e
    have e1 := (sum_set xs _ i hi).1 (Int.ofNat_inj.1 e)
    have e2 : xs[i].toNat = xs[i].toNat ^^^ n := by
      have := congrArg UInt8.toNat e1
      rwa [UInt8.toNat_ofNat', Nat.mod_eq_of_lt hl] at this
    have e3 : xs[i].toNat ^^^ xs[i].toNat = xs[i].toNat ^^^ (xs[i].toNat ^^^ n) := congrArg (fun z => xs[i].toNat ^^^ z) e2
    rw [Nat.xor_self, ← Nat.xor_assoc, Nat.xor_self, Nat.zero_xor] at e3
    omega
  · intro e
    have e0 : n = 0 := by omega
    subst e0
    congr 1
    refine (sum_set xs _ i hi).2 ?_
    rw [Nat.xor_zero, UInt8.ofNat_toNat]

set_option maxHeartbeats 800000 in
theorem sums_walk (ao : Option Addr) (c : Nat) (xs : List UInt8) (p b : Int) (w : World) (h : By w ao c xs) (hp0 : 0 ≤ p) (hp1 : p ≤ 65535) (hb0 : 0 ≤ b) (hb255 : b ≤ 255) :
    Calls Try.prog 8 #[.slice ao xs.length c, .int .u16 p, .int .u8 b] w fun e w' => e = .returned (.bool true) ∧ Below w.heap.size w w' := by
  have hle := h.le
  have hcap := h.cap
  obtain ⟨i0, hi, hz0, hz1, hz2⟩ := info_parts Try.infoByte
  by_cases h0 : xs.length = 0
  · go_enter Try.func8, Try.ntmps8
    go_wp2_with (go_at_call 9; refine (known_any _).mono ?_; rintro e w1 ⟨rfl, hb1⟩)
    go_ret
    exact ⟨rfl, hb1⟩
  · have h0' : ((xs.length : Int) == 0) = false := by rw [beq_eq_false_iff_ne]; omega
    by_cases h300 : 300 < xs.length
    · go_enter Try.func8, Try.ntmps8
      go_wp2_with (go_at_call 9; refine (known_any _).mono ?_; rintro e w1 ⟨rfl, hb1⟩)
      go_ret
      exact ⟨rfl, hb1⟩
    · cases ao with
      | none => have := h.nil rfl; omega
      | some ad =>
        go_enter Try.func8, Try.ntmps8
        go_wp2_with (first | (go_at_call 9; refine (known_any _).mono ?_; rintro e w1 ⟨rfl, hb1⟩; have hB1 := h.later hb1) | (at_builtin; refine wpList_append_own _ rfl _ _ 22 rfl w.heap.size 5 i0 (.int .u8 0) 1 1 Try.underlying22 hi hz0 hz1 hz2 rfl (by decide) (.slice none 0 0) 0 [] rfl (World.ownsRow_nil _ _ _ _) ad xs.length c (Bs xs) rfl (by rw [Bs_length, Nat.mul_one]) (hB1.at' ad rfl) (Bs_one _) (by unfold maxLen; omega) (by omega) hb1.size ?_))
        intro v w2 hown hgrow hnil
        have hb2 : Below w.heap.size w w2 := hb1.grown hgrow hb1.size (by intro k hk; cases hk)
        have hB2 := hB1.later ((Below.refl _ _).grown hgrow (Nat.le_refl _) (by intro k hk; cases hk))
        obtain ⟨g, cap, hv, hg, hc2⟩ : ∃ g cap, v = .slice (some ⟨g, 0, none⟩) xs.length cap ∧ w.heap.size ≤ g ∧ cap ≤ 9223372036854775807 := by
          rcases hown.2 with ⟨_, h⟩ | ⟨g, cap, cur, hv, hg, _, _, hm, _⟩
          · exact absurd h h0
          · exact ⟨g, cap, hv, hg, hm⟩
        subst hv
        clear hgrow hnil
        obtain ⟨q, rfl⟩ := Int.eq_ofNat_of_zero_le hp0
        have hlt : q % xs.length < xs.length := Nat.mod_lt _ (by omega)
        have hB3 := By.own hown hc2
        have hcell := hB3.cell (q % xs.length) hlt
        rw [Addr.add_lit, Nat.zero_add] at hcell
        have hz := hown.frozenAt (q % xs.length)
        go_wp2_with fail
        rw [turned _ b hb0 hb255]
        have hb3 := hb2.setCell (p := ⟨g, q % xs.length, none⟩) hg (B (UInt8.ofNat (xs[q % xs.length].toNat ^^^ b.toNat)))
        have hA := h.later hb3
        have hC := own_set hown (q % xs.length) hlt (UInt8.ofNat (xs[q % xs.length].toNat ^^^ b.toNat)) hc2
        have hE := turned_eq xs (q % xs.length) hlt b hb0 hb255
        generalize UInt8.ofNat (xs[q % xs.length].toNat ^^^ b.toNat) = y at *
        generalize w2.setCell ⟨g, q % xs.length, none⟩ (B y) = w3 at *
        clear hown hB1 hB2 hB3 hcell hz hb2 hb1
        refine (sum_any _ _ _ xs _ hA rfl).mono ?_
        rintro e w' ⟨rfl, rfl⟩
        go_wp2_with fail
        refine (sum_any _ _ _ _ _ hC (by rw [List.length_set])).mono ?_
        rintro e w' ⟨rfl, rfl⟩
        go_wp2
        go_ret
        exact ⟨by simp, hb3⟩
end Go.Proofs.Ytikidllbbokboaa
