/- Several texts in one, in build order: Math, StrawMath, HashOnly, Len, Step, Log, Straws, Best. -/
import Derived.Below
import Derived.OwnWalk
import Derived.Laws.Bits64
import Derived.Laws.MathBits
import Derived.Test.YtlbokkbngbpmiaaChecked
import Derived.WalkKit
import Derived.WalkSpells
import Derived.WalkLawsBesides
import Derived.Shelf.Small.Bits

/- Math: Plain mathematics: bytes of numbers, sums, mixing. Nothing of the program is in it. -/
namespace Go.Proofs.Ytlbokkbngbpmiaa
open Go.RowKit

/-- A byte as a value. -/
def B (x : UInt8) : Value := .int .u8 (x.toNat : Int)

/-- Bytes as values. -/
def Bs (xs : List UInt8) : List Value := xs.map B

theorem Bs_length (xs : List UInt8) : (Bs xs).length = xs.length := by simp [Bs]

theorem Bs_append (xs ys : List UInt8) : Bs (xs ++ ys) = Bs xs ++ Bs ys := by simp [Bs]

theorem Bs_one (xs : List UInt8) : ∀ u ∈ Bs xs, u.oneCell' = true := by
  intro u hu
  obtain ⟨_, _, rfl⟩ := List.mem_map.1 hu
  rfl

theorem Bs_at {xs : List UInt8} {j : Nat} (h : j < xs.length) : (Bs xs)[j]? = some (.int .u8 (xs[j].toNat : Int)) := by simp [Bs, B, h]

/-- What a slice of bytes reads as: the bytes xs lie where it points. -/
structure By (w : World) (ao : Option Addr) (c : Nat) (xs : List UInt8) : Prop where
  le : xs.length ≤ c
  cap : c ≤ 9223372036854775807
  nil : ao = none → c = 0
  at' : ∀ ad, ao = some ad → ∀ j u, (Bs xs)[j]? = some u → w.cell? (ad.add j) = some u

theorem By.nothing (w : World) : By w none 0 [] := ⟨Nat.le_refl _, by decide, fun _ => rfl, fun _ h => by cases h⟩

theorem By.cell {w : World} {ad : Addr} {c : Nat} {xs : List UInt8} (h : By w (some ad) c xs) (j : Nat) (hj : j < xs.length) : w.cell? (ad.add j) = some (.int .u8 (xs[j].toNat : Int)) :=
  h.at' ad rfl j _ (Bs_at hj)

theorem By.later {w w' : World} {ao : Option Addr} {c : Nat} {xs : List UInt8} (h : By w ao c xs) (hb : Below w.heap.size w w') : By w' ao c xs := by
  refine ⟨h.le, h.cap, h.nil, fun ad had j u hu => ?_⟩
  have hc := h.at' ad had j u hu
  have hlt := World.block_lt_of_cell? w _ hc
  rw [hb.cell hlt]
  exact hc

theorem By.own {w : World} {base g n cap : Nat} {xs : List UInt8} (h : w.ownsRow base 5 1 (.slice (some ⟨g, 0, none⟩) n cap) n (Bs xs)) (hc : cap ≤ 9223372036854775807) : By w (some ⟨g, 0, none⟩) cap xs := by
  have hl : n = xs.length := by have := h.1; rw [Bs_length] at this; omega
  refine ⟨?_, hc, (fun h => by cases h), fun ad had j u hu => ?_⟩
  · rcases h.2 with ⟨h, _⟩ | ⟨g', cap', cur, hv, _, _, hle, _⟩
    · cases h
    · injection hv with _ _ h3
      subst h3
      omega
  · obtain rfl := Option.some.inj had
    exact h.cells (g := g) rfl j u hu

theorem of_drew {B : Nat} {w w' : World} (h : Below B w.drew w') : Below B w w' := ⟨h.os, h.tape, h.output, h.size, h.block⟩

/-- A number of bytes, held from 0 to 8. -/
def heldI (n : Int) : Int := if n < 0 then 0 else if 8 < n then 8 else n

theorem heldI_bd (n : Int) : 0 ≤ heldI n ∧ heldI n ≤ 8 := by
  unfold heldI
  split
  · omega
  · split <;> omega

/-- The lowest k bytes of x, the highest of them first. -/
def putB (x k : Nat) : List UInt8 := (List.range k).map fun m => UInt8.ofNat (x / 2 ^ (8 * (k - 1 - m)))

theorem putB_length (x k : Nat) : (putB x k).length = k := by simp [putB]

theorem put_take (x : Int) (hx : 0 ≤ x) (k m : Nat) (h : m < k) :
    (Bs (putB x.toNat k)).take (m + 1) = (Bs (putB x.toNat k)).take m ++ [Value.int .u8 (x / 2 ^ (8 * (k - 1 - m)) % 256)] := by
  obtain ⟨n, rfl⟩ := Int.eq_ofNat_of_zero_le hx
  rw [List.take_succ_eq_append_getElem (by simp [putB, Bs]; exact h)]
  simp [putB, B, Bs]

theorem put_step {w1 : World} {base g n cap : Nat} {xs : List Value} {x : Int} {k m : Nat} (hx : 0 ≤ x) (h : m < k)
    (ho : w1.ownsRow base 5 1 (.slice (some ⟨g, 0, none⟩) (n + m + 1) cap) (n + m + 1) (xs ++ ((Bs (putB x.toNat k)).take m ++ [Value.int .u8 (x / 2 ^ (8 * (k - 1 - m)) % 256)]))) :
    w1.ownsRow base 5 1 (.slice (some ⟨g, 0, none⟩) (n + (m + 1)) cap) (n + (m + 1)) (xs ++ (Bs (putB x.toNat k)).take (m + 1)) := by
  rw [put_take x hx k m h]
  exact ho

/-- A number out of its bytes, the highest first. -/
def getN (l : List UInt8) : Nat := l.foldl (fun n c => n * 256 % 18446744073709551616 + c.toNat) 0

theorem getN_snoc (l : List UInt8) (c : UInt8) : getN (l ++ [c]) = getN l * 256 % 18446744073709551616 + c.toNat := by
  unfold getN
  rw [List.foldl_append]
  rw [List.foldl_cons, List.foldl_nil]

theorem getN_lt (l : List UInt8) : getN l < 18446744073709551616 := by
  rcases List.eq_nil_or_concat l with rfl | ⟨l', c, rfl⟩
  · decide
  · rw [List.concat_eq_append, getN_snoc]
    have hx : c.toNat < 256 := c.toNat_lt
    generalize getN l' = z
    omega

theorem bits_or_u64_nat (a b : Nat) (ha : a < 18446744073709551616) (hb : b < 18446744073709551616) :
    bits .or .u64 (a : Int) (b : Int) = ((a ||| b : Nat) : Int) := by
  have hx : a ||| b < 2 ^ 64 := Nat.or_lt_two_pow (by omega) (by omega)
  have h1 : (BitVec.ofInt 64 (a : Int)).toNat = a := by
    rw [BitVec.ofInt_natCast, BitVec.toNat_ofNat]; exact Nat.mod_eq_of_lt (by omega)
  have h2 : (BitVec.ofInt 64 (b : Int)).toNat = b := by
    rw [BitVec.ofInt_natCast, BitVec.toNat_ofNat]; exact Nat.mod_eq_of_lt (by omega)
  show IntKind.u64.wrap ((BitVec.ofInt 64 (a : Int) ||| BitVec.ofInt 64 (b : Int)).toNat : Int) = _
  rw [BitVec.toNat_or, h1, h2, IntKind.wrap_u64]
  omega

theorem or_low (q b : Nat) (hb : b < 256) : q * 256 % 18446744073709551616 ||| b = q * 256 % 18446744073709551616 + b := by
  have e : q * 256 % 18446744073709551616 = 2 ^ 8 * (q % 72057594037927936) := by omega
  rw [e, ← Nat.two_pow_add_eq_or_of_lt (by omega : b < 2 ^ 8)]

theorem get_take (l : List UInt8) (k : Nat) (h : k < l.length) :
    (getN (l.take (k + 1)) : Int) = bits .or .u64 (IntKind.u64.wrap ((getN (l.take k) : Int) * 256)) (l[k].toNat : Int) := by
  have hx : l[k].toNat < 256 := l[k].toNat_lt
  rw [List.take_succ_eq_append_getElem h, getN_snoc]
  generalize getN (l.take k) = g
  generalize l[k].toNat = b at *
  have e : IntKind.u64.wrap ((g : Int) * 256) = ((g * 256 % 18446744073709551616 : Nat) : Int) := by
    rw [IntKind.wrap_u64]; omega
  rw [e, bits_or_u64_nat _ _ (Nat.mod_lt _ (by decide)) (by omega), or_low g b hx]

theorem putB_succ (n k : Nat) : putB n (k + 1) = putB (n / 256) k ++ [UInt8.ofNat n] := by
  unfold putB
  rw [List.range_succ, List.map_append]
  congr 1
  · apply List.map_congr_left
    intro m hm
    have hm : m < k := by simpa using hm
    have e : k + 1 - 1 - m = (k - 1 - m) + 1 := by omega
    rw [e, Nat.mul_add, Nat.pow_add, Nat.mul_comm (2 ^ _), ← Nat.div_div_eq_div_mul]
  · simp

theorem get_put (k : Nat) : ∀ (n : Nat), k ≤ 8 → getN (putB n k) = n % 256 ^ k := by
  induction k with
  | zero => intro n _; simp [putB, getN, Nat.mod_one]
  | succ k ih =>
    intro n hk
    have h64 : 256 ^ (k + 1) ≤ 18446744073709551616 := by
      have := Nat.pow_le_pow_right (n := 256) (by decide) hk
      exact Nat.le_trans this (by decide)
    rw [putB_succ, getN_snoc, ih (n / 256) (by omega)]
    have hm : n / 256 % 256 ^ k < 256 ^ k := Nat.mod_lt _ (Nat.pow_pos (by decide))
    have e3 : (UInt8.ofNat n).toNat = n % 256 := by simp
    rw [e3, Nat.pow_succ] at *
    have e1 : n % (256 ^ k * 256) = n % 256 + 256 * (n / 256 % 256 ^ k) := by
      rw [Nat.mul_comm, Nat.mod_mul]
    rw [e1]
    generalize n / 256 % 256 ^ k = q at *
    generalize 256 ^ k = z at *
    have : q * 256 < 18446744073709551616 := by omega
    rw [Nat.mod_eq_of_lt this]
    omega

theorem put_drop (n j : Nat) (hj : j ≤ 8) : (putB n 8).drop (8 - j) = putB n j := by
  unfold putB
  rw [← List.map_drop]
  have e : (List.range 8).drop (8 - j) = (List.range j).map (fun m => m + (8 - j)) := by
    match j, hj with
    | 0, _ => rfl
    | 1, _ => rfl
    | 2, _ => rfl
    | 3, _ => rfl
    | 4, _ => rfl
    | 5, _ => rfl
    | 6, _ => rfl
    | 7, _ => rfl
    | 8, _ => rfl
  rw [e, List.map_map]
  apply List.map_congr_left
  intro m hm
  have hm : m < j := by simpa using hm
  have e2 : 8 - 1 - (m + (8 - j)) = j - 1 - m := by omega
  simp only [Function.comp, e2]

/-- Mixing. -/
def mixN (x : Nat) : Nat :=
  let a := (x ^^^ x / 8589934592) * 18397679294719823053 % 18446744073709551616
  let b := (a ^^^ a / 8589934592) * 14181476777654086739 % 18446744073709551616
  b ^^^ b / 8589934592

theorem mixN_lt (x : Nat) : mixN x < 18446744073709551616 := by
  unfold mixN
  have h : ∀ b : Nat, b < 18446744073709551616 → b ^^^ b / 8589934592 < 2 ^ 64 := fun b hb => Nat.xor_lt_two_pow (by omega) (by omega)
  exact h _ (Nat.mod_lt _ (by decide))

theorem mix_is (x : Int) (h0 : 0 ≤ x) (h1 : x < 18446744073709551616) :
    bits .xor .u64
      (IntKind.u64.wrap (bits .xor .u64 (IntKind.u64.wrap (bits .xor .u64 x (x / 8589934592) * 18397679294719823053)) (IntKind.u64.wrap (bits .xor .u64 x (x / 8589934592) * 18397679294719823053) / 8589934592) * 14181476777654086739))
      (IntKind.u64.wrap (bits .xor .u64 (IntKind.u64.wrap (bits .xor .u64 x (x / 8589934592) * 18397679294719823053)) (IntKind.u64.wrap (bits .xor .u64 x (x / 8589934592) * 18397679294719823053) / 8589934592) * 14181476777654086739) / 8589934592)
      = (mixN x.toNat : Int) := by
  obtain ⟨n, rfl⟩ := Int.eq_ofNat_of_zero_le h0
  have hn : n < 18446744073709551616 := by omega
  have e1 := mixStep_u64 n 8589934592 18397679294719823053 hn
  have c1 : ((8589934592 : Nat) : Int) = 8589934592 := rfl
  have c2 : ((18397679294719823053 : Nat) : Int) = 18397679294719823053 := rfl
  have c3 : ((14181476777654086739 : Nat) : Int) = 14181476777654086739 := rfl
  rw [c1, c2] at e1
  rw [e1]
  generalize ha : (n ^^^ n / 8589934592) * 18397679294719823053 % 18446744073709551616 = a
  have hal : a < 18446744073709551616 := by rw [← ha]; exact Nat.mod_lt _ (by decide)
  have e2 := mixStep_u64 a 8589934592 14181476777654086739 hal
  rw [c1, c3] at e2
  rw [e2]
  generalize hb : (a ^^^ a / 8589934592) * 14181476777654086739 % 18446744073709551616 = b
  have hbl : b < 18446744073709551616 := by rw [← hb]; exact Nat.mod_lt _ (by decide)
  have e3 := xorShift_u64 b 8589934592 hbl
  rw [c1] at e3
  rw [e3]
  simp only [mixN, Int.toNat_natCast, ha, hb]

/-- One byte more of a sum. -/
def sumStep (h : Nat) (c : UInt8) : Nat := (h ^^^ c.toNat) * 1099511628211 % 18446744073709551616

/-- The sum of bytes. -/
def sumN (l : List UInt8) : Nat := l.foldl sumStep 14695981039346656037

theorem sumN_lt (l : List UInt8) : sumN l < 18446744073709551616 := by
  unfold sumN
  have : ∀ (l : List UInt8) (h : Nat), h < 18446744073709551616 → l.foldl sumStep h < 18446744073709551616 := by
    intro l
    induction l with
    | nil => intro h hh; exact hh
    | cons c l ih => intro h hh; exact ih _ (Nat.mod_lt _ (by decide))
  exact this _ _ (by decide)

theorem sumN_snoc (l : List UInt8) (c : UInt8) : sumN (l ++ [c]) = sumStep (sumN l) c := by
  unfold sumN
  rw [List.foldl_append]
  rw [List.foldl_cons, List.foldl_nil]

theorem sumStep_int (h : Nat) (c : UInt8) (hh : h < 18446744073709551616) : (sumStep h c : Int) = IntKind.u64.wrap (bits .xor .u64 (h : Int) (c.toNat : Int) * 1099511628211) := by
  have hx : c.toNat < 256 := c.toNat_lt
  rw [bits_xor_u64_nat h c.toNat hh (by omega), IntKind.wrap_u64]
  unfold sumStep
  generalize h ^^^ c.toNat = z
  omega

theorem sum_take (l : List UInt8) (k : Nat) (h : k < l.length) :
    (sumN (l.take (k + 1)) : Int) = IntKind.u64.wrap (bits .xor .u64 (sumN (l.take k) : Int) (l[k].toNat : Int) * 1099511628211) := by
  rw [List.take_succ_eq_append_getElem h, sumN_snoc]
  exact sumStep_int _ _ (sumN_lt _)
end Go.Proofs.Ytlbokkbngbpmiaa

/- StrawMath: Plain mathematics: the logarithm by squaring, straws. Nothing of the program is in it. -/
namespace Go.Proofs.Ytlbokkbngbpmiaa
open Go.RowKit

/-- A number squared, its point 31 bits ahead of its end. -/
def sqN (x : Nat) : Nat := x * x / 2147483648

/-- The next bit of a logarithm. -/
def bitN (x : Nat) : Nat := if 4294967296 ≤ sqN x then 1 else 0

/-- The number that is left behind it. -/
def nxtN (x : Nat) : Nat := if 4294967296 ≤ sqN x then sqN x / 2 else sqN x

/-- The number that is left behind so many bits. -/
def xN (x : Nat) : Nat → Nat
  | 0 => x
  | i + 1 => nxtN (xN x i)

/-- So many bits of the logarithm. -/
def tN (x : Nat) : Nat → Nat
  | 0 => 0
  | i + 1 => 2 * tN x i + bitN (xN x i)

theorem xN_succ (x i : Nat) : xN x (i + 1) = nxtN (xN x i) := rfl

theorem tN_succ (x i : Nat) : tN x (i + 1) = 2 * tN x i + bitN (xN x i) := rfl

def Norm (x : Nat) : Prop := 2147483648 ≤ x ∧ x < 4294967296

theorem sq_bd {x : Nat} (h : Norm x) : 2147483648 ≤ sqN x ∧ sqN x < 8589934592 ∧ x * x < 18446744073709551616 := by
  unfold sqN
  have h1 : 2147483648 * 2147483648 ≤ x * x := Nat.mul_le_mul h.1 h.1
  have h2 : x * x ≤ 4294967295 * 4294967295 := Nat.mul_le_mul (by have := h.2; omega) (by have := h.2; omega)
  generalize x * x = z at *
  omega

theorem nxt_norm {x : Nat} (h : Norm x) : Norm (nxtN x) := by
  have := sq_bd h
  unfold nxtN Norm
  split <;> omega

theorem xN_norm {x : Nat} (h : Norm x) (i : Nat) : Norm (xN x i) := by
  induction i with
  | zero => exact h
  | succ i ih => exact nxt_norm ih

theorem bitN_le (x : Nat) : bitN x ≤ 1 := by
  unfold bitN
  split <;> omega

theorem tN_lt (x i : Nat) : tN x i < 2 ^ i := by
  induction i with
  | zero => exact Nat.one_pos
  | succ i ih =>
    have := bitN_le (xN x i)
    rw [tN_succ, Nat.pow_succ]
    omega

theorem sq_mono {x y : Nat} (h : x ≤ y) : sqN x ≤ sqN y := Nat.div_le_div_right (Nat.mul_le_mul h h)

theorem lex_mono {x y : Nat} (h : x ≤ y) (i : Nat) : tN x i < tN y i ∨ (tN x i = tN y i ∧ xN x i ≤ xN y i) := by
  induction i with
  | zero => exact .inr ⟨rfl, h⟩
  | succ i ih =>
    have b1 := bitN_le (xN x i)
    have b2 := bitN_le (xN y i)
    rw [tN_succ, tN_succ, xN_succ, xN_succ]
    rcases ih with ih | ⟨e, ih⟩
    · exact .inl (by omega)
    · have := sq_mono ih
      rw [e]
      unfold bitN nxtN
      generalize sqN (xN x i) = a at *
      generalize sqN (xN y i) = b at *
      split <;> split <;> omega

theorem tN_mono {x y : Nat} (h : x ≤ y) (i : Nat) : tN x i ≤ tN y i := by
  rcases lex_mono h i with h | ⟨h, _⟩ <;> omega

/-- A number held from 1 to 65536. -/
def holdU (u : Nat) : Nat := if u < 1 then 1 else if 65536 < u then 65536 else u

theorem holdU_bd (u : Nat) : 1 ≤ holdU u ∧ holdU u ≤ 65536 := by
  unfold holdU
  split
  · omega
  · split <;> omega

/-- A number shifted so that its highest bit is that of 2 to the 31. -/
def upN (v : Nat) : Nat := v * 2 ^ (31 - v.log2)

/-- The document's logarithm. -/
def logN (u : Nat) : Nat := (holdU u).log2 * 65536 + tN (upN (holdU u)) 16

theorem log2_le {v : Nat} (h1 : 1 ≤ v) (h2 : v ≤ 65536) : v.log2 ≤ 16 := by
  have := (Nat.log2_lt (n := v) (k := 17) (by omega)).2 (by omega)
  omega

theorem up_norm {v : Nat} (h1 : 1 ≤ v) (h2 : v ≤ 65536) : Norm (upN v) := by
  have hk := log2_le h1 h2
  have a := Nat.log2_self_le (n := v) (by omega)
  have b : v < 2 ^ (v.log2 + 1) := Nat.lt_log2_self
  have e : 2 ^ v.log2 * 2 ^ (31 - v.log2) = 2147483648 := by
    rw [← Nat.pow_add, show v.log2 + (31 - v.log2) = 31 by omega]
  have e2 : 2 ^ (v.log2 + 1) * 2 ^ (31 - v.log2) = 4294967296 := by
    rw [← Nat.pow_add, show v.log2 + 1 + (31 - v.log2) = 32 by omega]
  have hp : 0 < 2 ^ (31 - v.log2) := Nat.two_pow_pos _
  unfold upN Norm
  refine ⟨?_, ?_⟩
  · rw [← e]; exact Nat.mul_le_mul_right _ a
  · rw [← e2]; exact Nat.mul_lt_mul_of_pos_right b hp

theorem log2_mono {a b : Nat} (ha : 1 ≤ a) (h : a ≤ b) : a.log2 ≤ b.log2 := by
  rw [Nat.le_log2 (by omega)]
  exact Nat.le_trans (Nat.log2_self_le (by omega)) h

theorem logN_mono {a b : Nat} (ha : 1 ≤ a) (h : a ≤ b) (hb : b ≤ 65536) : logN a ≤ logN b := by
  have ea : holdU a = a := by unfold holdU; rw [if_neg (by omega), if_neg (by omega)]
  have eb : holdU b = b := by unfold holdU; rw [if_neg (by omega), if_neg (by omega)]
  unfold logN
  rw [ea, eb]
  have hl := log2_mono ha h
  have t := tN_lt (upN a) 16
  by_cases e : a.log2 = b.log2
  · have : upN a ≤ upN b := by unfold upN; rw [e]; exact Nat.mul_le_mul_right _ h
    have := tN_mono this 16
    omega
  · omega

theorem logN_two {a : Nat} (ha : 1 ≤ a) (hb : a ≤ 32768) : logN (2 * a) = logN a + 65536 := by
  have ea : holdU a = a := by unfold holdU; rw [if_neg (by omega), if_neg (by omega)]
  have eb : holdU (2 * a) = 2 * a := by unfold holdU; rw [if_neg (by omega), if_neg (by omega)]
  have hk : a.log2 ≤ 15 := by
    have := (Nat.log2_lt (n := a) (k := 16) (by omega)).2 (by omega)
    omega
  have el : (2 * a).log2 = a.log2 + 1 := Nat.log2_two_mul (by omega)
  have eu : upN (2 * a) = upN a := by
    unfold upN
    rw [el, show 31 - a.log2 = (31 - (a.log2 + 1)) + 1 by omega, Nat.pow_succ]
    generalize 2 ^ (31 - (a.log2 + 1)) = z
    rw [Nat.mul_comm 2 a, Nat.mul_assoc, Nat.mul_comm 2 z]
  unfold logN
  rw [ea, eb, eu, el]
  omega

theorem tN_one : tN 2147483648 16 = 0 := by decide +kernel

theorem logN_pow {k : Nat} (h : k ≤ 16) : logN (2 ^ k) = k * 65536 := by
  have h1 : 1 ≤ 2 ^ k := Nat.two_pow_pos k
  have h2 : 2 ^ k ≤ 2 ^ 16 := Nat.pow_le_pow_right (by decide) h
  have ea : holdU (2 ^ k) = 2 ^ k := by unfold holdU; rw [if_neg (by omega), if_neg (by omega)]
  have eu : upN (2 ^ k) = 2147483648 := by
    unfold upN
    rw [Nat.log2_two_pow, ← Nat.pow_add, show k + (31 - k) = 31 by omega]
  unfold logN
  rw [ea, eu, Nat.log2_two_pow, tN_one, Nat.add_zero]

theorem logN_0 : logN 0 = 0 := by
  have e : logN 0 = logN 1 := rfl
  rw [e]
  exact logN_pow (k := 0) (by decide)

theorem logN_top {u : Nat} (h : 65536 ≤ u) : logN u = 1048576 := by
  have e : holdU u = 65536 := by
    unfold holdU
    rw [if_neg (by omega)]
    split <;> omega
  have e2 : logN u = logN 65536 := by unfold logN; rw [e]; rfl
  rw [e2]
  exact logN_pow (k := 16) (by decide)

theorem logN_le (u : Nat) : logN u ≤ 1048576 := by
  by_cases h : 65536 ≤ u
  · rw [logN_top h]; decide
  · by_cases h0 : u = 0
    · rw [h0, logN_0]; omega
    · have := logN_mono (a := u) (b := 65536) (by omega) (by omega) (by omega)
      rw [logN_top (Nat.le_refl _)] at this
      exact this

/-- A weight held from 1 to 16. -/
def heldW (w : Int) : Int := if w < 1 then 1 else if 16 < w then 16 else w

theorem heldW_bd (w : Int) : 1 ≤ heldW w ∧ heldW w ≤ 16 := by
  unfold heldW
  split
  · omega
  · split <;> omega

theorem heldW_of {w : Int} (h1 : 1 ≤ w) (h2 : w ≤ 16) : heldW w = w := by
  unfold heldW
  rw [if_neg (by omega), if_neg (by omega)]

/-- What a hash lacks of the greatest logarithm, in straws' measure. -/
def lackN (h : Nat) : Nat := (1048576 - logN (h % 65536 + 1)) * 4096

theorem lackN_le (h : Nat) : lackN h ≤ 4294967296 := by unfold lackN; omega

/-- The document's straw. -/
def strawI (h : Nat) (w : Int) : Int := -((lackN h : Int) / heldW w)

theorem strawI_bd (h : Nat) (w : Int) : -4294967296 ≤ strawI h w ∧ strawI h w ≤ 0 := by
  have := heldW_bd w
  have := lackN_le h
  unfold strawI
  have a : 0 ≤ (lackN h : Int) / heldW w := Int.ediv_nonneg (by omega) (by omega)
  have b : (lackN h : Int) / heldW w ≤ lackN h := Int.ediv_le_self _ (by omega)
  omega

theorem strawI_mono (h : Nat) {a b : Int} (ha : 1 ≤ a) (hab : a ≤ b) (hb : b ≤ 16) : strawI h a ≤ strawI h b := by
  unfold strawI
  rw [heldW_of ha (by omega), heldW_of (by omega) hb]
  obtain ⟨m, rfl⟩ := Int.eq_ofNat_of_zero_le (by omega : 0 ≤ a)
  obtain ⟨n, rfl⟩ := Int.eq_ofNat_of_zero_le (by omega : 0 ≤ b)
  have : lackN h / n ≤ lackN h / m := Nat.div_le_div_left (by omega) (by omega)
  have e1 : (lackN h : Int) / (m : Int) = (lackN h / m : Nat) := rfl
  have e2 : (lackN h : Int) / (n : Int) = (lackN h / n : Nat) := rfl
  rw [e1, e2]
  omega
end Go.Proofs.Ytlbokkbngbpmiaa

/- HashOnly: Contracts of bits.Mix and bits.Hash, and of the document's own two, over this seat's program. -/
namespace Go.Proofs.Ytlbokkbngbpmiaa
open Go.RowKit
set_option linter.unusedVariables false

theorem mix_any (x : Int) (w : World) (h0 : 0 ≤ x) (h1 : x < 18446744073709551616) :
    Calls Try.prog 105 #[.int .u64 x] w fun e w' => e = .returned (.int .u64 (mixN x.toNat : Int)) ∧ w' = w := by
  rw [← mix_is x h0 h1]
  go_enter Try.func105, Try.ntmps105
  go_wp2
  go_ret
  exact ⟨rfl, rfl⟩

/-- A sum of two numbers of 64 bits. -/
def addN (a b : Nat) : Nat := (a + b) % 18446744073709551616

theorem addN_lt (a b : Nat) : addN a b < 18446744073709551616 := by
  unfold addN
  exact Nat.mod_lt _ (by decide)

theorem addN_wrap (a b : Nat) : IntKind.u64.wrap ((a : Int) + (b : Int)) = (addN a b : Int) := by
  rw [IntKind.wrap_u64]
  unfold addN
  omega

/-- Three numbers hashed. -/
def hashN (a b c : Nat) : Nat := mixN (addN (mixN (addN (mixN a) b)) c) % 4294967296

set_option maxHeartbeats 400000 in
theorem hash_any (a b c : Nat) (w : World) (a1 : a < 4294967296) (b1 : b < 4294967296) (c1 : c < 4294967296) :
    Calls Try.prog 101 #[.int .u32 a, .int .u32 b, .int .u32 c] w fun e w' => e = .returned (.int .u32 (hashN a b c : Int)) ∧ w' = w := by
  have m1 := mixN_lt a
  go_enter Try.func101, Try.ntmps101
  go_wp2_with fail
  refine (mix_any _ _ (by omega) (by omega)).mono ?_
  rintro e w' ⟨rfl, rfl⟩
  rw [Int.toNat_natCast]
  go_wp2_with fail
  rw [addN_wrap]
  have m2 := addN_lt (mixN a) b
  refine (mix_any _ _ (by omega) (by omega)).mono ?_
  rintro e w' ⟨rfl, rfl⟩
  rw [Int.toNat_natCast]
  have m3 := mixN_lt (addN (mixN a) b)
  go_wp2_with fail
  rw [addN_wrap]
  have m4 := addN_lt (mixN (addN (mixN a) b)) c
  refine (mix_any _ _ (by omega) (by omega)).mono ?_
  rintro e w' ⟨rfl, rfl⟩
  rw [Int.toNat_natCast]
  have m5 := mixN_lt (addN (mixN (addN (mixN a) b)) c)
  go_wp2
  go_ret
  exact ⟨rfl, rfl⟩

theorem refmix_any (x : Int) (w : World) (h0 : 0 ≤ x) (h1 : x < 18446744073709551616) :
    Calls Try.prog 103 #[.int .u64 x] w fun e w' => e = .returned (.int .u64 (mixN x.toNat : Int)) ∧ w' = w := by
  rw [← mix_is x h0 h1]
  go_enter Try.func103, Try.ntmps103
  go_wp2
  go_ret
  exact ⟨rfl, rfl⟩

set_option maxHeartbeats 400000 in
theorem refhash_any (a b c : Nat) (w : World) (a1 : a < 4294967296) (b1 : b < 4294967296) (c1 : c < 4294967296) :
    Calls Try.prog 94 #[.int .u32 a, .int .u32 b, .int .u32 c] w fun e w' => e = .returned (.int .u32 (hashN a b c : Int)) ∧ w' = w := by
  have m1 := mixN_lt a
  go_enter Try.func94, Try.ntmps94
  go_wp2_with fail
  refine (refmix_any _ _ (by omega) (by omega)).mono ?_
  rintro e w' ⟨rfl, rfl⟩
  rw [Int.toNat_natCast]
  go_wp2_with fail
  rw [addN_wrap]
  have m2 := addN_lt (mixN a) b
  refine (refmix_any _ _ (by omega) (by omega)).mono ?_
  rintro e w' ⟨rfl, rfl⟩
  rw [Int.toNat_natCast]
  have m3 := mixN_lt (addN (mixN a) b)
  go_wp2_with fail
  rw [addN_wrap]
  have m4 := addN_lt (mixN (addN (mixN a) b)) c
  refine (refmix_any _ _ (by omega) (by omega)).mono ?_
  rintro e w' ⟨rfl, rfl⟩
  rw [Int.toNat_natCast]
  have m5 := mixN_lt (addN (mixN (addN (mixN a) b)) c)
  go_wp2
  go_ret
  exact ⟨rfl, rfl⟩
end Go.Proofs.Ytlbokkbngbpmiaa

/- Len: The library's contract of math/bits.Len32, laid over this seat's program. -/
namespace Go.Proofs.Ytlbokkbngbpmiaa
open Go.Shelf Go.Proofs
def len_ren : Go.Shelf.Ren := ⟨fun | 128 => 106 | n => n, fun | 51 => 25 | 3 => 3 | 4 => 4 | 46 => 158 | 5 => 5 | 9 => 9 | n => n, fun | n => n⟩
theorem len_lays : Go.Proofs.Lays.n128 Try.prog len_ren := {
  mixed := by kernel_rfl
  f128 := Try.func106.trans (congrArg some (by kernel_rfl))
  t3 := Try.underlying3
  a3 := Try.isAgg3
  z3 := Try.sizeOf3
  v3 := Try.zeroValue3
  t4 := Try.underlying4
  a4 := Try.isAgg4
  z4 := Try.sizeOf4
  v4 := Try.zeroValue4
  t5 := Try.underlying5
  a5 := Try.isAgg5
  z5 := Try.sizeOf5
  v5 := Try.zeroValue5
  t9 := Try.underlying9
  a9 := Try.isAgg9
  z9 := Try.sizeOf9
  v9 := Try.zeroValue9
  t46 := Try.underlying158
  a46 := Try.isAgg158
  z46 := Try.sizeOf158
  v46 := Try.zeroValue158
  t51 := Try.underlying25
  a51 := Try.isAgg25
  z51 := Try.sizeOf25
  v51 := Try.zeroValue25 }

theorem aux_log (f : Nat) : ∀ x : Nat, 1 ≤ x → x < 2 ^ f → Lib.bitLenAux f x = x.log2 + 1 := by
  induction f with
  | zero => intro x h0 h1; rw [Nat.pow_zero] at h1; omega
  | succ f ih =>
    intro x h0 h1
    have e : Lib.bitLenAux (f + 1) x = 1 + Lib.bitLenAux f (x / 2) := by
      show (if x = 0 then 0 else 1 + Lib.bitLenAux f (x / 2)) = _
      rw [if_neg (by omega)]
    rw [e]
    by_cases h : x = 1
    · subst h
      have : Lib.bitLenAux f (1 / 2) = 0 := by
        cases f with
        | zero => rfl
        | succ f => rfl
      rw [this]
      decide
    · rw [ih (x / 2) (by omega) (by rw [Nat.pow_succ] at h1; omega), Nat.log2_def x, if_pos (by omega)]
      omega

theorem len_any (u : Nat) (w : World) (h0 : 1 ≤ u) (h1 : u ≤ 65536) :
    Calls Try.prog 106 #[.int .u32 u] w fun e w' => e = .returned (.int .i64 ((u.log2 : Int) + 1)) ∧ w' = w := by
  have h := Any.bits_Len32 len_lays (u : Int) w (by omega) (by omega)
  have e : (Lib.bitLen (u : Int).toNat : Int) = (u.log2 : Int) + 1 := by
    rw [Int.toNat_natCast]
    unfold Lib.bitLen
    rw [aux_log 64 u h0 (by omega)]
    rfl
  rw [e] at h
  exact h
end Go.Proofs.Ytlbokkbngbpmiaa

/- Step: The contract of straw's step of a logarithm over this seat's program. -/
namespace Go.Proofs.Ytlbokkbngbpmiaa
open Go.RowKit
set_option linter.unusedVariables false

/-- Two cells of a block, that may be written. -/
structure Two (w : World) (g : Nat) (x t : Int) : Prop where
  c0 : w.cell? ⟨g, 0, none⟩ = some (.int .u64 x)
  c1 : w.cell? ⟨g, 1, none⟩ = some (.int .i64 t)
  f0 : w.frozen? ⟨g, 0, none⟩ = false
  f1 : w.frozen? ⟨g, 1, none⟩ = false

theorem Two.set0 {w : World} {g : Nat} {x t : Int} (h : Two w g x t) (y : Int) : Two (w.setCell ⟨g, 0, none⟩ (.int .u64 y)) g y t := by
  refine ⟨World.cell?_setCell_same _ _ _ h.c0, ?_, ?_, ?_⟩
  · rw [World.cell?_setCell_other _ _ _ _ (by simp)]; exact h.c1
  · rw [World.frozen?_setCell]; exact h.f0
  · rw [World.frozen?_setCell]; exact h.f1

theorem Two.set1 {w : World} {g : Nat} {x t : Int} (h : Two w g x t) (y : Int) : Two (w.setCell ⟨g, 1, none⟩ (.int .i64 y)) g x y := by
  refine ⟨?_, World.cell?_setCell_same _ _ _ h.c1, ?_, ?_⟩
  · rw [World.cell?_setCell_other _ _ _ _ (by simp)]; exact h.c0
  · rw [World.frozen?_setCell]; exact h.f0
  · rw [World.frozen?_setCell]; exact h.f1

theorem Two.drew {w : World} {g : Nat} {x t : Int} (h : Two w g x t) : Two w.drew g x t := ⟨h.c0, h.c1, h.f0, h.f1⟩

theorem sq_cast (x : Nat) : (x : Int) * x / 2147483648 = (sqN x : Int) := rfl

theorem or_one (t : Nat) (h : t < 65536) : bits .or .i64 ((t : Int) * 2) 1 = (t : Int) * 2 + 1 := by
  have h1 : (BitVec.ofInt 64 ((t : Int) * 2)).toNat = t * 2 := by
    have e : (t : Int) * 2 = ((t * 2 : Nat) : Int) := rfl
    rw [e, BitVec.ofInt_natCast, BitVec.toNat_ofNat]
    exact Nat.mod_eq_of_lt (by omega)
  have h2 : (BitVec.ofInt 64 (1 : Int)).toNat = 1 := rfl
  have h3 : t * 2 ||| 1 = t * 2 + 1 := by
    rw [show t * 2 = 2 ^ 1 * t by omega, ← Nat.two_pow_add_eq_or_of_lt (by omega : 1 < 2 ^ 1)]
  show IntKind.i64.wrap ((BitVec.ofInt 64 ((t : Int) * 2) ||| BitVec.ofInt 64 (1 : Int)).toNat : Int) = _
  rw [BitVec.toNat_or, h1, h2, h3, IntKind.wrap_i64]
  omega

set_option maxRecDepth 100000 in
set_option maxHeartbeats 1000000 in
theorem step_lo (base g x t q : Nat) (w : World) (hx : Norm x) (ht : t < 65536) (h : Two w g x t) (hg : base ≤ g) (hsq : Hid (sqN x = q)) (hqq : Hid ((q : Int) < 4294967296)) :
    Calls Try.prog 107 #[.pointer (some ⟨g, 0, none⟩)] w fun e w' => e = .returned (.tuple #[]) ∧ Two w' g q (t * 2) ∧ Below base w w' := by
  obtain ⟨hq1, hq2, hq3⟩ := sq_bd hx
  obtain ⟨hx1, hx2⟩ := hx
  rw [hsq.out] at hq1 hq2
  have c0 := h.c0
  have c1 := h.c1
  have f0 := h.f0
  have f1 := h.f1
  go_enter Try.func107, Try.ntmps107
  go_wp2
  go_region
  rw [sq_cast, hsq.out]
  have hb := (((Below.refl base w).setCell (p := ⟨g, 0, none⟩) hg (.int .u64 (q : Int))).drew)
  have h1 := (h.set0 (q : Int)).drew
  generalize hw1 : (w.setCell ⟨g, 0, none⟩ (.int .u64 (q : Int))).drew = w1 at *
  have d0 := h1.c0
  have d1 := h1.c1
  have e0 := h1.f0
  have e1 := h1.f1
  have k1 : (2147483648 : Int) ≤ (q : Int) := by omega
  have k3 : (t : Int) < 65536 := by omega
  have k2 : (q : Int) < 8589934592 := by omega
  clear c0 c1 f0 f1 hw1 hq1 hq2 hq3 hx1 hx2 ht h hsq
  have hq : ¬ (4294967296 : Int) ≤ (q : Int) := by have := hqq.out; omega
  go_wp2
  go_end0
  exact ⟨rfl, h1.set1 _, hb.setCell hg _⟩

set_option maxRecDepth 100000 in
set_option maxHeartbeats 1000000 in
theorem step_hi (base g x t : Nat) (w : World) (hx : Norm x) (ht : t < 65536) (h : Two w g x t) (hg : base ≤ g) (hq : (4294967296 : Int) ≤ (sqN x : Int)) :
    Calls Try.prog 107 #[.pointer (some ⟨g, 0, none⟩)] w fun e w' => e = .returned (.tuple #[]) ∧ Two w' g ((sqN x : Int) / 2) ((t : Int) * 2 + 1) ∧ Below base w w' := by
  obtain ⟨hq1, hq2, hq3⟩ := sq_bd hx
  obtain ⟨hx1, hx2⟩ := hx
  have ho := or_one t ht
  have c0 := h.c0
  have c1 := h.c1
  have f0 := h.f0
  have f1 := h.f1
  go_enter Try.func107, Try.ntmps107
  go_wp2
  go_region
  rw [sq_cast]
  have hb := (((Below.refl base w).setCell (p := ⟨g, 0, none⟩) hg (.int .u64 (sqN x : Int))).drew)
  have h1 := (h.set0 (sqN x : Int)).drew
  generalize hw1 : (w.setCell ⟨g, 0, none⟩ (.int .u64 (sqN x : Int))).drew = w1 at *
  have d0 := h1.c0
  have d1 := h1.c1
  have e0 := h1.f0
  have e1 := h1.f1
  have k1 : (2147483648 : Int) ≤ (sqN x : Int) := by omega
  have k2 : (sqN x : Int) < 8589934592 := by omega
  have k3 : (t : Int) < 65536 := by omega
  clear c0 c1 f0 f1 hw1 hq1 hq2 hq3 hx1 hx2 ht h
  go_wp2
  go_end0
  exact ⟨rfl, ((h1.set1 _).set0 _).set1 _, ((hb.setCell hg _).setCell hg _).setCell hg _⟩

theorem step_any (base g x t : Nat) (w : World) (hx : Norm x) (ht : t < 65536) (h : Two w g x t) (hg : base ≤ g) :
    Calls Try.prog 107 #[.pointer (some ⟨g, 0, none⟩)] w fun e w' => e = .returned (.tuple #[]) ∧ Two w' g (nxtN x : Nat) (2 * t + bitN x : Nat) ∧ Below base w w' := by
  by_cases hq : 4294967296 ≤ sqN x
  · refine (step_hi base g x t w hx ht h hg (by omega)).mono ?_
    rintro e w' ⟨rfl, h', hb⟩
    refine ⟨rfl, ?_, hb⟩
    have e1 : (nxtN x : Int) = (sqN x : Int) / 2 := by unfold nxtN; rw [if_pos hq]; rfl
    have e2 : ((2 * t + bitN x : Nat) : Int) = (t : Int) * 2 + 1 := by unfold bitN; rw [if_pos hq]; omega
    rw [e1, e2]
    exact h'
  · refine (step_lo base g x t (sqN x) w hx ht h hg rfl (show _ < _ by omega)).mono ?_
    rintro e w' ⟨rfl, h', hb⟩
    refine ⟨rfl, ?_, hb⟩
    have e1 : (nxtN x : Int) = (sqN x : Int) := by unfold nxtN; rw [if_neg hq]
    have e2 : ((2 * t + bitN x : Nat) : Int) = (t : Int) * 2 := by unfold bitN; rw [if_neg hq]; omega
    rw [e1, e2]
    exact h'
end Go.Proofs.Ytlbokkbngbpmiaa

/- Log: The contract of straw.Log over this seat's program. -/
namespace Go.Proofs.Ytlbokkbngbpmiaa
open Go.RowKit
set_option linter.unusedVariables false

theorem two_new (w : World) (x : Int) (ty : Nat) : Two (w.alloc (.cells #[.int .u64 x, .int .i64 0] ty)) w.heap.size x 0 := by
  constructor <;> simp

theorem up_wrap (v : Nat) (v1 : 1 ≤ v) (v2 : v ≤ 65536) : IntKind.u64.wrap ((v : Int) * 2 ^ (31 - v.log2)) = (upN v : Int) := by
  have hn := (up_norm v1 v2).2
  have e : (v : Int) * 2 ^ (31 - v.log2) = (upN v : Int) := by
    unfold upN
    simp
  rw [e, IntKind.wrap_u64]
  omega

set_option maxRecDepth 100000 in
set_option maxHeartbeats 1000000 in
theorem log_in (v u : Nat) (w : World) (hu : u < 4294967296) (hv : (min (max (u : Int) 1) 65536) = (v : Int)) (v1 : 1 ≤ v) (v2 : v ≤ 65536) :
    Calls Try.prog 104 #[.int .u32 u] w fun e w' => e = .returned (.int .i64 ((v.log2 : Int) * 65536 + (tN (upN v) 16 : Nat))) ∧ Below w.heap.size w w' := by
  have hmf : ∀ (fn : Fn) (first cap : Array Value) (w : World), (Instr.makeFunc fn first cap).run Try.prog w = .ok (.func fn first cap) w := fun _ _ _ _ => rfl
  have hk := log2_le v1 v2
  go_enter Try.func104, Try.ntmps104
  go_wp2_with (go_at_call 106; refine (len_any v _ v1 v2).mono ?_; rintro e w' ⟨rfl, rfl⟩)
  rw [up_wrap v v1 v2]
  have hnorm := up_norm v1 v2
  have h2 := two_new w' (upN v : Int) 160
  have hb := (Below.refl w'.heap.size w').alloc (Nat.le_refl _) (.cells #[.int .u64 (upN v : Int), .int .i64 0] 160)
  generalize w'.alloc (.cells #[.int .u64 (upN v : Int), .int .i64 0] 160) = w1 at *
  clear v1 v2 hv
  go_loopw [19] (fun i wr => ∃ m : Nat, m ≤ 16 ∧ i = .int .i64 m ∧ Two wr w'.heap.size (xN (upN v) m : Nat) (tN (upN v) m : Nat) ∧ Below w'.heap.size w' wr) (fun i _ => (16 - intOf i).toNat)
  case atStart => exact ⟨0, Nat.zero_le _, rfl, h2, hb⟩
  case round =>
    obtain ⟨m, hm, rfl, hT, hbr⟩ := hrel
    have hxn := xN_norm hnorm m
    have htl := tN_lt (upN v) m
    by_cases hlt : m < 16
    · have htl2 : tN (upN v) m < 65536 := Nat.lt_of_lt_of_le htl (by have := Nat.pow_le_pow_right (n := 2) (by decide) (Nat.le_of_lt hlt); omega)
      clear htl
      go_wp2_with (go_at_call 107; refine (step_any w'.heap.size _ _ _ _ hxn htl2 hT (Nat.le_refl _)).mono ?_; rintro e w2 ⟨rfl, hT2, hb2⟩)
      go_roundw
      case rel => exact ⟨m + 1, by omega, by go_num, hT2, hbr.trans hb2⟩
      case measure => simp [intOf]; omega
    · have : m = 16 := by omega
      subst this
      have d1 := hT.c1
      have ht16 : ((tN (upN v) 16 : Nat) : Int) < 65536 := by omega
      go_wp2
      go_ret
      exact ⟨rfl, hbr⟩

theorem log_any (u : Nat) (w : World) (hu : u < 4294967296) :
    Calls Try.prog 104 #[.int .u32 u] w fun e w' => e = .returned (.int .i64 (logN u : Nat)) ∧ Below w.heap.size w w' := by
  have hh := holdU_bd u
  exact log_in (holdU u) u w hu (by unfold holdU; split <;> (try split) <;> omega) hh.1 hh.2
end Go.Proofs.Ytlbokkbngbpmiaa

/- Straws: The contracts of straw.Straw and straw.Draw over this seat's program. -/
namespace Go.Proofs.Ytlbokkbngbpmiaa
open Go.RowKit
set_option linter.unusedVariables false

theorem lack_cast (h : Nat) : (1048576 - (logN (h % 65536 + 1) : Int)) * 4096 = (lackN h : Int) := by
  have := logN_le (h % 65536 + 1)
  unfold lackN
  omega

set_option maxRecDepth 100000 in
set_option maxHeartbeats 1000000 in
theorem straw_any (h : Nat) (q : Int) (w : World) (hh : h < 4294967296) (hq0 : -9223372036854775808 ≤ q) (hq1 : q ≤ 9223372036854775807) :
    Calls Try.prog 100 #[.int .u32 h, .int .i64 q] w fun e w' => e = .returned (.int .i64 (strawI h q)) ∧ Below w.heap.size w w' := by
  have hv : min (max q 1) 16 = heldW q := by
    unfold heldW
    split <;> (try split) <;> omega
  have hvb := heldW_bd q
  have HS : Hid (strawI h q = -((lackN h : Int) / heldW q)) := rfl
  generalize heldW q = v at *
  go_enter Try.func100, Try.ntmps100
  go_wp2_with fail
  have hl := log_any (h % 65536 + 1) w (by omega)
  have e : ((h % 65536 + 1 : Nat) : Int) = (h : Int) % 65536 + 1 := by omega
  rw [e] at hl
  refine hl.mono ?_
  rintro e1 w1 ⟨rfl, hb⟩
  have hL := lack_cast h
  have hLl := lackN_le h
  have hle := logN_le (h % 65536 + 1)
  generalize logN (h % 65536 + 1) = L at *
  generalize lackN h = K at *
  clear e hl hv
  obtain ⟨hv0, hv1⟩ := hvb
  have hd0 : 0 ≤ (K : Int) / v := Int.ediv_nonneg (by omega) (by omega)
  have hd1 : (K : Int) / v ≤ 4294967296 := Int.le_trans (Int.ediv_le_self _ (by omega)) (by omega)
  go_wp2
  go_ret
  exact ⟨by rw [HS.out]; rfl, hb⟩

/-- The lowest 32 bits. -/
def lowN (a : Int) : Nat := (a % 4294967296).toNat

theorem lowN_lt (a : Int) : lowN a < 4294967296 := by unfold lowN; omega

theorem lowN_is (a : Int) : a % 4294967296 = (lowN a : Int) := by
  unfold lowN
  omega

/-- What a daemon draws. -/
def drawI (g : Nat) (o t q : Int) : Int := strawI (hashN g (lowN o) (lowN t)) q

theorem hashN_lt (a b c : Nat) : hashN a b c < 4294967296 := by
  unfold hashN
  exact Nat.mod_lt _ (by decide)

set_option maxRecDepth 100000 in
set_option maxHeartbeats 1000000 in
theorem draw_any (g : Nat) (o t q : Int) (w : World) (hg : g < 256) (hq0 : -9223372036854775808 ≤ q) (hq1 : q ≤ 9223372036854775807) :
    Calls Try.prog 91 #[.int .u8 g, .int .i64 o, .int .i64 t, .int .i64 q] w fun e w' => e = .returned (.int .i64 (drawI g o t q)) ∧ Below w.heap.size w w' := by
  go_enter Try.func91, Try.ntmps91
  go_wp2_with fail
  rw [lowN_is o, lowN_is t]
  refine (hash_any g (lowN o) (lowN t) _ (by omega) (lowN_lt o) (lowN_lt t)).mono ?_
  rintro e w1 ⟨rfl, rfl⟩
  go_wp2_with fail
  refine (straw_any _ q _ (hashN_lt _ _ _) hq0 hq1).mono ?_
  rintro e w2 ⟨rfl, hb⟩
  go_wp2
  go_ret
  exact ⟨rfl, hb⟩
end Go.Proofs.Ytlbokkbngbpmiaa

/- Best: The contract of straw.Best over this seat's program. -/
namespace Go.Proofs.Ytlbokkbngbpmiaa
open Go.RowKit
set_option linter.unusedVariables false

/-- What a slice of numbers of 64 bits reads as. -/
structure Is (w : World) (ao : Option Addr) (c : Nat) (xs : List Int) : Prop where
  le : xs.length ≤ c
  cap : c ≤ 9223372036854775807
  nil : ao = none → c = 0
  at' : ∀ ad, ao = some ad → ∀ (j : Nat) (h : j < xs.length), w.cell? (ad.add j) = some (.int .i64 xs[j])
  lo : ∀ x ∈ xs, -9223372036854775808 ≤ x ∧ x ≤ 9223372036854775807

theorem Is.later {w w' : World} {ao : Option Addr} {c : Nat} {xs : List Int} (h : Is w ao c xs) (hb : Below w.heap.size w w') : Is w' ao c xs := by
  refine ⟨h.le, h.cap, h.nil, fun ad had j hj => ?_, h.lo⟩
  have hc := h.at' ad had j hj
  have hlt := World.block_lt_of_cell? w _ hc
  rw [hb.cell hlt]
  exact hc

/-- k is the place of the greatest of the first n, the first of several; -1 of none. -/
def IsBest (xs : List Int) (n : Nat) (k : Int) : Prop :=
  (n = 0 ∧ k = -1) ∨ ∃ m : Nat, k = m ∧ m < n ∧ ∀ j : Nat, j < n → xs.getD j 0 ≤ xs.getD m 0 ∧ (j < m → xs.getD j 0 < xs.getD m 0)

theorem best_first {xs : List Int} (k : Int) (h : IsBest xs 0 k) : IsBest xs 1 0 := by
  refine .inr ⟨0, rfl, by omega, fun j hj => ?_⟩
  have : j = 0 := by omega
  subst this
  exact ⟨Int.le_refl _, fun h => absurd h (by omega)⟩

theorem best_more {xs : List Int} {n m : Nat} (h : IsBest xs n m) (hn : 0 < n) (hg : xs.getD m 0 < xs.getD n 0) : IsBest xs (n + 1) n := by
  rcases h with ⟨h, _⟩ | ⟨m', e, hm, h⟩
  · omega
  · have : m = m' := by omega
    subst this
    refine .inr ⟨n, rfl, by omega, fun j hj => ?_⟩
    by_cases e : j = n
    · subst e
      exact ⟨Int.le_refl _, fun h => absurd h (by omega)⟩
    · have := (h j (by omega)).1
      exact ⟨by omega, fun _ => by omega⟩

theorem best_less {xs : List Int} {n m : Nat} (h : IsBest xs n m) (hn : 0 < n) (hg : ¬ xs.getD m 0 < xs.getD n 0) : IsBest xs (n + 1) m := by
  rcases h with ⟨h, _⟩ | ⟨m', e, hm, h⟩
  · omega
  · have : m = m' := by omega
    subst this
    refine .inr ⟨m, rfl, by omega, fun j hj => ?_⟩
    by_cases e : j = n
    · subst e
      exact ⟨by omega, fun h => absurd h (by omega)⟩
    · exact h j (by omega)

set_option maxRecDepth 100000 in
set_option maxHeartbeats 1000000 in
theorem best_any (ao : Option Addr) (c : Nat) (xs : List Int) (w : World) (h : Is w ao c xs) :
    Calls Try.prog 95 #[.slice ao xs.length c] w fun e w' => ∃ k : Int, e = .returned (.int .i64 k) ∧ IsBest xs xs.length k ∧ w' = w := by
  have hle := h.le
  have hcap := h.cap
  go_enter Try.func95, Try.ntmps95
  go_wp2
  go_loop [3, 8] (fun b i => ∃ n : Nat, n ≤ xs.length ∧ i = .int .i64 n ∧ ∃ k : Int, b = .int .i64 k ∧ IsBest xs n k) (fun _ i => xs.length - (intOf i).toNat)
  case atStart => exact ⟨0, Nat.zero_le _, rfl, -1, rfl, .inl ⟨rfl, rfl⟩⟩
  case round =>
    obtain ⟨n, hn, rfl, k, rfl, hB⟩ := hrel
    by_cases hlt : n < xs.length
    · cases ao with
      | none => have := h.nil rfl; omega
      | some ad =>
        have hc := h.at' ad rfl n hlt
        by_cases h0 : n = 0
        · subst h0
          have hk : k = -1 := by
            rcases hB with ⟨_, h⟩ | ⟨m, _, hm, _⟩
            · exact h
            · omega
          subst hk
          have hB1 := best_first _ hB
          have hc0 : w.cell? ad = some (.int .i64 xs[0]) := by rw [show ad = ad.add 0 from rfl]; exact hc
          go_wp2
          go_round
          case rel => exact ⟨1, by omega, by go_num, 0, rfl, hB1⟩
          case measure => simp [intOf]; omega
        · obtain ⟨m, rfl, hm⟩ : ∃ m : Nat, k = m ∧ m < n := by
            rcases hB with ⟨h, _⟩ | ⟨m, e, hm, _⟩
            · omega
            · exact ⟨m, e, hm⟩
          have hc2 := h.at' ad rfl m (by omega)
          have e1 : xs.getD n 0 = xs[n] := by simp [List.getD, hlt]
          have e2 : xs.getD m 0 = xs[m] := by simp [List.getD, show m < xs.length by omega]
          by_cases hg : xs[m] < xs[n]
          · have hB1 := best_more hB (by omega) (by rw [e1, e2]; exact hg)
            clear e1 e2
            go_wp2
            go_round
            case rel => exact ⟨n + 1, by omega, by go_num, n, rfl, hB1⟩
            case measure => simp [intOf]; omega
          · have hB1 := best_less hB (by omega) (by rw [e1, e2]; exact hg)
            clear e1 e2
            go_wp2
            go_round
            case rel => exact ⟨n + 1, by omega, by go_num, m, rfl, hB1⟩
            case measure => simp [intOf]; omega
    · have : n = xs.length := by omega
      subst this
      go_wp2
      go_ret
      exact ⟨k, rfl, hB, rfl⟩
end Go.Proofs.Ytlbokkbngbpmiaa
