/- Plain mathematics: mixing and summing lose nothing. -/
import Derived.Test.YtecilienolabfaaGreatDoorPackStraw
namespace Go.Proofs.YtecilienolabfaaGreatDoor

theorem mul_back (a P Q M : Nat) (h : P * Q % M = 1) (ha : a < M) : (a * P % M) * Q % M = a := by
  rw [Nat.mul_mod (a * P % M), Nat.mod_mod, ← Nat.mul_mod, Nat.mul_assoc, Nat.mul_mod, h, Nat.mul_one, Nat.mod_mod, Nat.mod_eq_of_lt ha]

theorem mul_inj (P Q M a b : Nat) (h : P * Q % M = 1) (ha : a < M) (hb : b < M) (e : a * P % M = b * P % M) : a = b := by
  have := mul_back a P Q M h ha
  rw [e, mul_back b P Q M h hb] at this
  exact this.symm

theorem shift_back (x : Nat) (h : x < 18446744073709551616) : (x ^^^ x / 8589934592) ^^^ (x ^^^ x / 8589934592) / 8589934592 = x := by
  have e : ∀ y : Nat, y / 8589934592 = y >>> 33 := fun y => by rw [Nat.shiftRight_eq_div_pow]
  rw [e, e, Nat.shiftRight_xor_distrib, ← Nat.shiftRight_add]
  have z : x >>> (33 + 33) = 0 := by
    rw [Nat.shiftRight_eq_div_pow]
    exact Nat.div_eq_of_lt (Nat.lt_of_lt_of_le h (by decide))
  rw [z, Nat.xor_zero, Nat.xor_assoc, Nat.xor_self, Nat.xor_zero]

theorem shift_lt (x : Nat) (h : x < 18446744073709551616) : x ^^^ x / 8589934592 < 18446744073709551616 := by
  have : x ^^^ x / 8589934592 < 2 ^ 64 := Nat.xor_lt_two_pow (by omega) (by omega)
  exact this

theorem shift_inj (a b : Nat) (ha : a < 18446744073709551616) (hb : b < 18446744073709551616) (e : a ^^^ a / 8589934592 = b ^^^ b / 8589934592) : a = b := by
  have := shift_back a ha
  rw [e, shift_back b hb] at this
  exact this.symm

theorem mix_inj (x y : Nat) (hx : x < 18446744073709551616) (hy : y < 18446744073709551616) (e : mixN x = mixN y) : x = y := by
  unfold mixN at e
  have h1 := shift_inj _ _ (Nat.mod_lt _ (by decide)) (Nat.mod_lt _ (by decide)) e
  have h2 := mul_inj 14181476777654086739 11291846944257947611 18446744073709551616 _ _ (by decide) (shift_lt _ (Nat.mod_lt _ (by decide))) (shift_lt _ (Nat.mod_lt _ (by decide))) h1
  have h3 := shift_inj _ _ (Nat.mod_lt _ (by decide)) (Nat.mod_lt _ (by decide)) h2
  have h4 := mul_inj 18397679294719823053 5725274745694666757 18446744073709551616 _ _ (by decide) (shift_lt _ hx) (shift_lt _ hy) h3
  exact shift_inj _ _ hx hy h4

theorem xor_lt (h : Nat) (c : UInt8) (hh : h < 18446744073709551616) : h ^^^ c.toNat < 18446744073709551616 := by
  have hx : c.toNat < 256 := c.toNat_lt
  have : h ^^^ c.toNat < 2 ^ 64 := Nat.xor_lt_two_pow (by omega) (by omega)
  exact this

theorem xor_cancel_right (a b c : Nat) (e : a ^^^ c = b ^^^ c) : a = b := by
  have : (a ^^^ c) ^^^ c = (b ^^^ c) ^^^ c := by rw [e]
  rwa [Nat.xor_assoc, Nat.xor_self, Nat.xor_zero, Nat.xor_assoc, Nat.xor_self, Nat.xor_zero] at this

theorem sumStep_lt (h : Nat) (c : UInt8) : sumStep h c < 18446744073709551616 := by
  unfold sumStep
  exact Nat.mod_lt _ (by decide)

theorem step_xor (h h' : Nat) (c c' : UInt8) (hh : h < 18446744073709551616) (hh' : h' < 18446744073709551616) (e : sumStep h c = sumStep h' c') : h ^^^ c.toNat = h' ^^^ c'.toNat := by
  unfold sumStep at e
  exact mul_inj 1099511628211 14886173955864302971 18446744073709551616 _ _ (by decide) (xor_lt _ _ hh) (xor_lt _ _ hh') e

theorem fold_inj (l : List UInt8) : ∀ (h h' : Nat), h < 18446744073709551616 → h' < 18446744073709551616 → l.foldl sumStep h = l.foldl sumStep h' → h = h' := by
  induction l with
  | nil => intro h h' _ _ e; exact e
  | cons c l ih =>
    intro h h' hh hh' e
    rw [List.foldl_cons, List.foldl_cons] at e
    have e2 := ih _ _ (sumStep_lt _ _) (sumStep_lt _ _) e
    exact xor_cancel_right _ _ _ (step_xor _ _ _ _ hh hh' e2)

theorem fold_lt (l : List UInt8) : ∀ h, h < 18446744073709551616 → l.foldl sumStep h < 18446744073709551616 := by
  induction l with
  | nil => intro h hh; exact hh
  | cons c l ih => intro h _; rw [List.foldl_cons]; exact ih _ (sumStep_lt _ _)

theorem fold_set (l : List UInt8) (y : UInt8) : ∀ (i : Nat) (hi : i < l.length) (h : Nat), h < 18446744073709551616 → l.foldl sumStep h = (l.set i y).foldl sumStep h → l[i] = y := by
  induction l with
  | nil => intro i hi; exact absurd hi (by simp)
  | cons c l ih =>
    intro i hi h hh e
    match i, hi with
    | 0, hi =>
      rw [List.set_cons_zero, List.foldl_cons, List.foldl_cons] at e
      have e2 := fold_inj l _ _ (sumStep_lt _ _) (sumStep_lt _ _) e
      have e3 := step_xor _ _ _ _ hh hh e2
      rw [Nat.xor_comm h, Nat.xor_comm h] at e3
      have e4 := xor_cancel_right _ _ _ e3
      exact UInt8.toNat_inj.1 e4
    | j + 1, hi =>
      rw [List.set_cons_succ, List.foldl_cons, List.foldl_cons] at e
      exact ih j (by simpa using hi) _ (sumStep_lt _ _) e

theorem sum_set (l : List UInt8) (y : UInt8) (i : Nat) (hi : i < l.length) : sumN l = sumN (l.set i y) ↔ l[i] = y := by
  constructor
  · intro e
    unfold sumN at e
    exact fold_set l y i hi _ (by decide) e
  · intro e
    rw [← e, List.set_getElem_self]

theorem bits_xor_u8_nat (a b : Nat) (ha : a < 256) (hb : b < 256) : bits .xor .u8 (a : Int) (b : Int) = ((a ^^^ b : Nat) : Int) := by
  have hx : a ^^^ b < 2 ^ 8 := Nat.xor_lt_two_pow (by omega) (by omega)
  have h1 : (BitVec.ofInt 8 (a : Int)).toNat = a := by
    rw [BitVec.ofInt_natCast, BitVec.toNat_ofNat]; exact Nat.mod_eq_of_lt (by omega)
  have h2 : (BitVec.ofInt 8 (b : Int)).toNat = b := by
    rw [BitVec.ofInt_natCast, BitVec.toNat_ofNat]; exact Nat.mod_eq_of_lt (by omega)
  have hw : ∀ n : Int, IntKind.u8.wrap n = n % 256 := fun n => by simp [IntKind.wrap, IntKind.bits, IntKind.signed]
  show IntKind.u8.wrap ((BitVec.ofInt 8 (a : Int) ^^^ BitVec.ofInt 8 (b : Int)).toNat : Int) = _
  rw [BitVec.toNat_xor, h1, h2, hw]
  omega
end Go.Proofs.YtecilienolabfaaGreatDoor
