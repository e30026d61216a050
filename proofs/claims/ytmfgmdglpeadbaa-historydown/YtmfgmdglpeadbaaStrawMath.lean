/- Plain mathematics: the logarithm by squaring, straws. Nothing of the program is in it. -/
import Derived.Below
import Derived.OwnWalk
import Derived.Laws.Bits64
import Derived.Laws.MathBits
namespace Go.Proofs.Ytmfgmdglpeadbaa
open Go.RowKit

/-- A number squared, its point 31 bits ahead of its end. -/
def sqN (x : Nat) : Nat := x * x / 2147483648

/-- The next bit of a logarithm. -/
def bitN (x : Nat) : Nat := if 4294967296 ≤ sqN x then 1 else 0

/-- The number that is left behind it. -/
def nxtN (x : Nat) : Nat := if 4294967296 ≤ sqN x then sqN x / 2 else sqN x

/-- The number that is left behind so many bits. -/
def xN (x : Nat) : Nat → Nat
  | 0 => x
  | i + 1 => nxtN (xN x i)

/-- So many bits of the logarithm. -/
def tN (x : Nat) : Nat → Nat
  | 0 => 0
  | i + 1 => 2 * tN x i + bitN (xN x i)

theorem xN_succ (x i : Nat) : xN x (i + 1) = nxtN (xN x i) := rfl

theorem tN_succ (x i : Nat) : tN x (i + 1) = 2 * tN x i + bitN (xN x i) := rfl

def Norm (x : Nat) : Prop := 2147483648 ≤ x ∧ x < 4294967296

theorem sq_bd {x : Nat} (h : Norm x) : 2147483648 ≤ sqN x ∧ sqN x < 8589934592 ∧ x * x < 18446744073709551616 := by
  unfold sqN
  have h1 : 2147483648 * 2147483648 ≤ x * x := Nat.mul_le_mul h.1 h.1
  have h2 : x * x ≤ 4294967295 * 4294967295 := Nat.mul_le_mul (by have := h.2; omega) (by have := h.2; omega)
  generalize x * x = z at *
  omega

theorem nxt_norm {x : Nat} (h : Norm x) : Norm (nxtN x) := by
  have := sq_bd h
  unfold nxtN Norm
  split <;> omega

theorem xN_norm {x : Nat} (h : Norm x) (i : Nat) : Norm (xN x i) := by
  induction i with
  | zero => exact h
  | succ i ih => exact nxt_norm ih

theorem bitN_le (x : Nat) : bitN x ≤ 1 := by
  unfold bitN
  split <;> omega

theorem tN_lt (x i : Nat) : tN x i < 2 ^ i := by
  induction i with
  | zero => exact Nat.one_pos
  | succ i ih =>
    have := bitN_le (xN x i)
    rw [tN_succ, Nat.pow_succ]
    omega

theorem sq_mono {x y : Nat} (h : x ≤ y) : sqN x ≤ sqN y := Nat.div_le_div_right (Nat.mul_le_mul h h)

theorem lex_mono {x y : Nat} (h : x ≤ y) (i : Nat) : tN x i < tN y i ∨ (tN x i = tN y i ∧ xN x i ≤ xN y i) := by
  induction i with
  | zero => exact .inr ⟨rfl, h⟩
  | succ i ih =>
    have b1 := bitN_le (xN x i)
    have b2 := bitN_le (xN y i)
    rw [tN_succ, tN_succ, xN_succ, xN_succ]
    rcases ih with ih | ⟨e, ih⟩
    · exact .inl (by omega)
    · have := sq_mono ih
      rw [e]
      unfold bitN nxtN
      generalize sqN (xN x i) = a at *
      generalize sqN (xN y i) = b at *
      split <;> split <;> omega

theorem tN_mono {x y : Nat} (h : x ≤ y) (i : Nat) : tN x i ≤ tN y i := by
  rcases lex_mono h i with h | ⟨h, _⟩ <;> omega

/-- A number held from 1 to 65536. -/
def holdU (u : Nat) : Nat := if u < 1 then 1 else if 65536 < u then 65536 else u

theorem holdU_bd (u : Nat) : 1 ≤ holdU u ∧ holdU u ≤ 65536 := by
  unfold holdU
  split
  · omega
  · split <;> omega

/-- A number shifted so that its highest bit is that of 2 to the 31. -/
def upN (v : Nat) : Nat := v * 2 ^ (31 - v.log2)

/-- The document's logarithm. -/
def logN (u : Nat) : Nat := (holdU u).log2 * 65536 + tN (upN (holdU u)) 16

theorem log2_le {v : Nat} (h1 : 1 ≤ v) (h2 : v ≤ 65536) : v.log2 ≤ 16 := by
  have := (Nat.log2_lt (n := v) (k := 17) (by omega)).2 (by omega)
  omega

theorem up_norm {v : Nat} (h1 : 1 ≤ v) (h2 : v ≤ 65536) : Norm (upN v) := by
  have hk := log2_le h1 h2
  have a := Nat.log2_self_le (n := v) (by omega)
  have b : v < 2 ^ (v.log2 + 1) := Nat.lt_log2_self
  have e : 2 ^ v.log2 * 2 ^ (31 - v.log2) = 2147483648 := by
    rw [← Nat.pow_add, show v.log2 + (31 - v.log2) = 31 by omega]
  have e2 : 2 ^ (v.log2 + 1) * 2 ^ (31 - v.log2) = 4294967296 := by
    rw [← Nat.pow_add, show v.log2 + 1 + (31 - v.log2) = 32 by omega]
  have hp : 0 < 2 ^ (31 - v.log2) := Nat.two_pow_pos _
  unfold upN Norm
  refine ⟨?_, ?_⟩
  · rw [← e]; exact Nat.mul_le_mul_right _ a
  · rw [← e2]; exact Nat.mul_lt_mul_of_pos_right b hp

theorem log2_mono {a b : Nat} (ha : 1 ≤ a) (h : a ≤ b) : a.log2 ≤ b.log2 := by
  rw [Nat.le_log2 (by omega)]
  exact Nat.le_trans (Nat.log2_self_le (by omega)) h

theorem logN_mono {a b : Nat} (ha : 1 ≤ a) (h : a ≤ b) (hb : b ≤ 65536) : logN a ≤ logN b := by
  have ea : holdU a = a := by unfold holdU; rw [if_neg (by omega), if_neg (by omega)]
  have eb : holdU b = b := by unfold holdU; rw [if_neg (by omega), if_neg (by omega)]
  unfold logN
  rw [ea, eb]
  have hl := log2_mono ha h
  have t := tN_lt (upN a) 16
  by_cases e : a.log2 = b.log2
  · have : upN a ≤ upN b := by unfold upN; rw [e]; exact Nat.mul_le_mul_right _ h
    have := tN_mono this 16
    omega
  · omega

theorem logN_two {a : Nat} (ha : 1 ≤ a) (hb : a ≤ 32768) : logN (2 * a) = logN a + 65536 := by
  have ea : holdU a = a := by unfold holdU; rw [if_neg (by omega), if_neg (by omega)]
  have eb : holdU (2 * a) = 2 * a := by unfold holdU; rw [if_neg (by omega), if_neg (by omega)]
  have hk : a.log2 ≤ 15 := by
    have := (Nat.log2_lt (n := a) (k := 16) (by omega)).2 (by omega)
    omega
  have el : (2 * a).log2 = a.log2 + 1 := Nat.log2_two_mul (by omega)
  have eu : upN (2 * a) = upN a := by
    unfold upN
    rw [el, show 31 - a.log2 = (31 - (a.log2 + 1)) + 1 by omega, Nat.pow_succ]
    generalize 2 ^ (31 - (a.log2 + 1)) = z
    rw [Nat.mul_comm 2 a, Nat.mul_assoc, Nat.mul_comm 2 z]
  unfold logN
  rw [ea, eb, eu, el]
  omega

theorem tN_one : tN 2147483648 16 = 0 := by decide +kernel

theorem logN_pow {k : Nat} (h : k ≤ 16) : logN (2 ^ k) = k * 65536 := by
  have h1 : 1 ≤ 2 ^ k := Nat.two_pow_pos k
  have h2 : 2 ^ k ≤ 2 ^ 16 := Nat.pow_le_pow_right (by decide) h
  have ea : holdU (2 ^ k) = 2 ^ k := by unfold holdU; rw [if_neg (by omega), if_neg (by omega)]
  have eu : upN (2 ^ k) = 2147483648 := by
    unfold upN
    rw [Nat.log2_two_pow, ← Nat.pow_add, show k + (31 - k) = 31 by omega]
  unfold logN
  rw [ea, eu, Nat.log2_two_pow, tN_one, Nat.add_zero]

theorem logN_0 : logN 0 = 0 := by
  have e : logN 0 = logN 1 := rfl
  rw [e]
  exact logN_pow (k := 0) (by decide)

theorem logN_top {u : Nat} (h : 65536 ≤ u) : logN u = 1048576 := by
  have e : holdU u = 65536 := by
    unfold holdU
    rw [if_neg (by omega)]
    split <;> omega
  have e2 : logN u = logN 65536 := by unfold logN; rw [e]; rfl
  rw [e2]
  exact logN_pow (k := 16) (by decide)

theorem logN_le (u : Nat) : logN u ≤ 1048576 := by
  by_cases h : 65536 ≤ u
  · rw [logN_top h]; decide
  · by_cases h0 : u = 0
    · rw [h0, logN_0]; omega
    · have := logN_mono (a := u) (b := 65536) (by omega) (by omega) (by omega)
      rw [logN_top (Nat.le_refl _)] at this
      exact this

/-- A weight held from 1 to 16. -/
def heldW (w : Int) : Int := if w < 1 then 1 else if 16 < w then 16 else w

theorem heldW_bd (w : Int) : 1 ≤ heldW w ∧ heldW w ≤ 16 := by
  unfold heldW
  split
  · omega
  · split <;> omega

theorem heldW_of {w : Int} (h1 : 1 ≤ w) (h2 : w ≤ 16) : heldW w = w := by
  unfold heldW
  rw [if_neg (by omega), if_neg (by omega)]

/-- What a hash lacks of the greatest logarithm, in straws' measure. -/
def lackN (h : Nat) : Nat := (1048576 - logN (h % 65536 + 1)) * 4096

theorem lackN_le (h : Nat) : lackN h ≤ 4294967296 := by unfold lackN; omega

/-- The document's straw. -/
def strawI (h : Nat) (w : Int) : Int := -((lackN h : Int) / heldW w)

theorem strawI_bd (h : Nat) (w : Int) : -4294967296 ≤ strawI h w ∧ strawI h w ≤ 0 := by
  have := heldW_bd w
  have := lackN_le h
  unfold strawI
  have a : 0 ≤ (lackN h : Int) / heldW w := Int.ediv_nonneg (by omega) (by omega)
  have b : (lackN h : Int) / heldW w ≤ lackN h := Int.ediv_le_self _ (by omega)
  omega

theorem strawI_mono (h : Nat) {a b : Int} (ha : 1 ≤ a) (hab : a ≤ b) (hb : b ≤ 16) : strawI h a ≤ strawI h b := by
  unfold strawI
  rw [heldW_of ha (by omega), heldW_of (by omega) hb]
  obtain ⟨m, rfl⟩ := Int.eq_ofNat_of_zero_le (by omega : 0 ≤ a)
  obtain ⟨n, rfl⟩ := Int.eq_ofNat_of_zero_le (by omega : 0 ≤ b)
  have : lackN h / n ≤ lackN h / m := Nat.div_le_div_left (by omega) (by omega)
  have e1 : (lackN h : Int) / (m : Int) = (lackN h / m : Nat) := rfl
  have e2 : (lackN h : Int) / (n : Int) = (lackN h / n : Nat) := rfl
  rw [e1, e2]
  omega
end Go.Proofs.Ytmfgmdglpeadbaa
