/- Several texts in one, in build order: Math. -/
import Derived.Below
import Derived.OwnWalk
import Derived.Laws.Bits64

/- Math: Plain mathematics: bytes of numbers, sums, mixing. Nothing of the program is in it. -/
namespace Go.Proofs.YtpnpjblohijajabGreat
open Go.RowKit

/-- A byte as a value. -/
def B (x : UInt8) : Value := .int .u8 (x.toNat : Int)

/-- Bytes as values. -/
def Bs (xs : List UInt8) : List Value := xs.map B

theorem Bs_length (xs : List UInt8) : (Bs xs).length = xs.length := by simp [Bs]

theorem Bs_append (xs ys : List UInt8) : Bs (xs ++ ys) = Bs xs ++ Bs ys := by simp [Bs]

theorem Bs_one (xs : List UInt8) : ∀ u ∈ Bs xs, u.oneCell' = true := by
  intro u hu
  obtain ⟨_, _, rfl⟩ := List.mem_map.1 hu
  rfl

theorem Bs_at {xs : List UInt8} {j : Nat} (h : j < xs.length) : (Bs xs)[j]? = some (.int .u8 (xs[j].toNat : Int)) := by simp [Bs, B, h]

/-- What a slice of bytes reads as: the bytes xs lie where it points. -/
structure By (w : World) (ao : Option Addr) (c : Nat) (xs : List UInt8) : Prop where
  le : xs.length ≤ c
  cap : c ≤ 9223372036854775807
  nil : ao = none → c = 0
  at' : ∀ ad, ao = some ad → ∀ j u, (Bs xs)[j]? = some u → w.cell? (ad.add j) = some u

theorem By.nothing (w : World) : By w none 0 [] := ⟨Nat.le_refl _, by decide, fun _ => rfl, fun _ h => by cases h⟩

theorem By.cell {w : World} {ad : Addr} {c : Nat} {xs : List UInt8} (h : By w (some ad) c xs) (j : Nat) (hj : j < xs.length) : w.cell? (ad.add j) = some (.int .u8 (xs[j].toNat : Int)) :=
  h.at' ad rfl j _ (Bs_at hj)

theorem By.later {w w' : World} {ao : Option Addr} {c : Nat} {xs : List UInt8} (h : By w ao c xs) (hb : Below w.heap.size w w') : By w' ao c xs := by
  refine ⟨h.le, h.cap, h.nil, fun ad had j u hu => ?_⟩
  have hc := h.at' ad had j u hu
  have hlt := World.block_lt_of_cell? w _ hc
  rw [hb.cell hlt]
  exact hc

theorem By.own {w : World} {base g n cap : Nat} {xs : List UInt8} (h : w.ownsRow base 5 1 (.slice (some ⟨g, 0, none⟩) n cap) n (Bs xs)) (hc : cap ≤ 9223372036854775807) : By w (some ⟨g, 0, none⟩) cap xs := by
  have hl : n = xs.length := by have := h.1; rw [Bs_length] at this; omega
  refine ⟨?_, hc, (fun h => by cases h), fun ad had j u hu => ?_⟩
  · rcases h.2 with ⟨h, _⟩ | ⟨g', cap', cur, hv, _, _, hle, _⟩
    · cases h
    · injection hv with _ _ h3
      subst h3
      omega
  · obtain rfl := Option.some.inj had
    exact h.cells (g := g) rfl j u hu

theorem of_drew {B : Nat} {w w' : World} (h : Below B w.drew w') : Below B w w' := ⟨h.os, h.tape, h.output, h.size, h.block⟩

/-- A number of bytes, held from 0 to 8. -/
def heldI (n : Int) : Int := if n < 0 then 0 else if 8 < n then 8 else n

theorem heldI_bd (n : Int) : 0 ≤ heldI n ∧ heldI n ≤ 8 := by
  unfold heldI
  split
  · omega
  · split <;> omega

/-- The lowest k bytes of x, the highest of them first. -/
def putB (x k : Nat) : List UInt8 := (List.range k).map fun m => UInt8.ofNat (x / 2 ^ (8 * (k - 1 - m)))

theorem putB_length (x k : Nat) : (putB x k).length = k := by simp [putB]

theorem put_take (x : Int) (hx : 0 ≤ x) (k m : Nat) (h : m < k) :
    (Bs (putB x.toNat k)).take (m + 1) = (Bs (putB x.toNat k)).take m ++ [Value.int .u8 (x / 2 ^ (8 * (k - 1 - m)) % 256)] := by
  obtain ⟨n, rfl⟩ := Int.eq_ofNat_of_zero_le hx
  rw [List.take_succ_eq_append_getElem (by simp [putB, Bs]; exact h)]
  simp [putB, B, Bs]

theorem put_step {w1 : World} {base g n cap : Nat} {xs : List Value} {x : Int} {k m : Nat} (hx : 0 ≤ x) (h : m < k)
    (ho : w1.ownsRow base 5 1 (.slice (some ⟨g, 0, none⟩) (n + m + 1) cap) (n + m + 1) (xs ++ ((Bs (putB x.toNat k)).take m ++ [Value.int .u8 (x / 2 ^ (8 * (k - 1 - m)) % 256)]))) :
    w1.ownsRow base 5 1 (.slice (some ⟨g, 0, none⟩) (n + (m + 1)) cap) (n + (m + 1)) (xs ++ (Bs (putB x.toNat k)).take (m + 1)) := by
  rw [put_take x hx k m h]
  exact ho

/-- A number out of its bytes, the highest first. -/
def getN (l : List UInt8) : Nat := l.foldl (fun n c => n * 256 % 18446744073709551616 + c.toNat) 0

theorem getN_snoc (l : List UInt8) (c : UInt8) : getN (l ++ [c]) = getN l * 256 % 18446744073709551616 + c.toNat := by
  unfold getN
  rw [List.foldl_append]
  rw [List.foldl_cons, List.foldl_nil]

theorem getN_lt (l : List UInt8) : getN l < 18446744073709551616 := by
  rcases List.eq_nil_or_concat l with rfl | ⟨l', c, rfl⟩
  · decide
  · rw [List.concat_eq_append, getN_snoc]
    have hx : c.toNat < 256 := c.toNat_lt
    generalize getN l' = z
    omega

theorem bits_or_u64_nat (a b : Nat) (ha : a < 18446744073709551616) (hb : b < 18446744073709551616) :
    bits .or .u64 (a : Int) (b : Int) = ((a ||| b : Nat) : Int) := by
  have hx : a ||| b < 2 ^ 64 := Nat.or_lt_two_pow (by omega) (by omega)
  have h1 : (BitVec.ofInt 64 (a : Int)).toNat = a := by
    rw [BitVec.ofInt_natCast, BitVec.toNat_ofNat]; exact Nat.mod_eq_of_lt (by omega)
  have h2 : (BitVec.ofInt 64 (b : Int)).toNat = b := by
    rw [BitVec.ofInt_natCast, BitVec.toNat_ofNat]; exact Nat.mod_eq_of_lt (by omega)
  show IntKind.u64.wrap ((BitVec.ofInt 64 (a : Int) ||| BitVec.ofInt 64 (b : Int)).toNat : Int) = _
  rw [BitVec.toNat_or, h1, h2, IntKind.wrap_u64]
  omega

theorem or_low (q b : Nat) (hb : b < 256) : q * 256 % 18446744073709551616 ||| b = q * 256 % 18446744073709551616 + b := by
  have e : q * 256 % 18446744073709551616 = 2 ^ 8 * (q % 72057594037927936) := by omega
  rw [e, ← Nat.two_pow_add_eq_or_of_lt (by omega : b < 2 ^ 8)]

theorem get_take (l : List UInt8) (k : Nat) (h : k < l.length) :
    (getN (l.take (k + 1)) : Int) = bits .or .u64 (IntKind.u64.wrap ((getN (l.take k) : Int) * 256)) (l[k].toNat : Int) := by
  have hx : l[k].toNat < 256 := l[k].toNat_lt
  rw [List.take_succ_eq_append_getElem h, getN_snoc]
  generalize getN (l.take k) = g
  generalize l[k].toNat = b at *
  have e : IntKind.u64.wrap ((g : Int) * 256) = ((g * 256 % 18446744073709551616 : Nat) : Int) := by
    rw [IntKind.wrap_u64]; omega
  rw [e, bits_or_u64_nat _ _ (Nat.mod_lt _ (by decide)) (by omega), or_low g b hx]

theorem putB_succ (n k : Nat) : putB n (k + 1) = putB (n / 256) k ++ [UInt8.ofNat n] := by
  unfold putB
  rw [List.range_succ, List.map_append]
  congr 1
  · apply List.map_congr_left
    intro m hm
    have hm : m < k := by simpa using hm
    have e : k + 1 - 1 - m = (k - 1 - m) + 1 := by omega
    rw [e, Nat.mul_add, Nat.pow_add, Nat.mul_comm (2 ^ _), ← Nat.div_div_eq_div_mul]
  · simp

theorem get_put (k : Nat) : ∀ (n : Nat), k ≤ 8 → getN (putB n k) = n % 256 ^ k := by
  induction k with
  | zero => intro n _; simp [putB, getN, Nat.mod_one]
  | succ k ih =>
    intro n hk
    have h64 : 256 ^ (k + 1) ≤ 18446744073709551616 := by
      have := Nat.pow_le_pow_right (n := 256) (by decide) hk
      exact Nat.le_trans this (by decide)
    rw [putB_succ, getN_snoc, ih (n / 256) (by omega)]
    have hm : n / 256 % 256 ^ k < 256 ^ k := Nat.mod_lt _ (Nat.pow_pos (by decide))
    have e3 : (UInt8.ofNat n).toNat = n % 256 := by simp
    rw [e3, Nat.pow_succ] at *
    have e1 : n % (256 ^ k * 256) = n % 256 + 256 * (n / 256 % 256 ^ k) := by
      rw [Nat.mul_comm, Nat.mod_mul]
    rw [e1]
    generalize n / 256 % 256 ^ k = q at *
    generalize 256 ^ k = z at *
    have : q * 256 < 18446744073709551616 := by omega
    rw [Nat.mod_eq_of_lt this]
    omega

theorem put_drop (n j : Nat) (hj : j ≤ 8) : (putB n 8).drop (8 - j) = putB n j := by
  unfold putB
  rw [← List.map_drop]
  have e : (List.range 8).drop (8 - j) = (List.range j).map (fun m => m + (8 - j)) := by
    match j, hj with
    | 0, _ => rfl
    | 1, _ => rfl
    | 2, _ => rfl
    | 3, _ => rfl
    | 4, _ => rfl
    | 5, _ => rfl
    | 6, _ => rfl
    | 7, _ => rfl
    | 8, _ => rfl
  rw [e, List.map_map]
  apply List.map_congr_left
  intro m hm
  have hm : m < j := by simpa using hm
  have e2 : 8 - 1 - (m + (8 - j)) = j - 1 - m := by omega
  simp only [Function.comp, e2]

/-- Mixing. -/
def mixN (x : Nat) : Nat :=
  let a := (x ^^^ x / 8589934592) * 18397679294719823053 % 18446744073709551616
  let b := (a ^^^ a / 8589934592) * 14181476777654086739 % 18446744073709551616
  b ^^^ b / 8589934592

theorem mixN_lt (x : Nat) : mixN x < 18446744073709551616 := by
  unfold mixN
  have h : ∀ b : Nat, b < 18446744073709551616 → b ^^^ b / 8589934592 < 2 ^ 64 := fun b hb => Nat.xor_lt_two_pow (by omega) (by omega)
  exact h _ (Nat.mod_lt _ (by decide))

theorem mix_is (x : Int) (h0 : 0 ≤ x) (h1 : x < 18446744073709551616) :
    bits .xor .u64
      (IntKind.u64.wrap (bits .xor .u64 (IntKind.u64.wrap (bits .xor .u64 x (x / 8589934592) * 18397679294719823053)) (IntKind.u64.wrap (bits .xor .u64 x (x / 8589934592) * 18397679294719823053) / 8589934592) * 14181476777654086739))
      (IntKind.u64.wrap (bits .xor .u64 (IntKind.u64.wrap (bits .xor .u64 x (x / 8589934592) * 18397679294719823053)) (IntKind.u64.wrap (bits .xor .u64 x (x / 8589934592) * 18397679294719823053) / 8589934592) * 14181476777654086739) / 8589934592)
      = (mixN x.toNat : Int) := by
  obtain ⟨n, rfl⟩ := Int.eq_ofNat_of_zero_le h0
  have hn : n < 18446744073709551616 := by omega
  have e1 := mixStep_u64 n 8589934592 18397679294719823053 hn
  have c1 : ((8589934592 : Nat) : Int) = 8589934592 := rfl
  have c2 : ((18397679294719823053 : Nat) : Int) = 18397679294719823053 := rfl
  have c3 : ((14181476777654086739 : Nat) : Int) = 14181476777654086739 := rfl
  rw [c1, c2] at e1
  rw [e1]
  generalize ha : (n ^^^ n / 8589934592) * 18397679294719823053 % 18446744073709551616 = a
  have hal : a < 18446744073709551616 := by rw [← ha]; exact Nat.mod_lt _ (by decide)
  have e2 := mixStep_u64 a 8589934592 14181476777654086739 hal
  rw [c1, c3] at e2
  rw [e2]
  generalize hb : (a ^^^ a / 8589934592) * 14181476777654086739 % 18446744073709551616 = b
  have hbl : b < 18446744073709551616 := by rw [← hb]; exact Nat.mod_lt _ (by decide)
  have e3 := xorShift_u64 b 8589934592 hbl
  rw [c1] at e3
  rw [e3]
  simp only [mixN, Int.toNat_natCast, ha, hb]

/-- One byte more of a sum. -/
def sumStep (h : Nat) (c : UInt8) : Nat := (h ^^^ c.toNat) * 1099511628211 % 18446744073709551616

/-- The sum of bytes. -/
def sumN (l : List UInt8) : Nat := l.foldl sumStep 14695981039346656037

theorem sumN_lt (l : List UInt8) : sumN l < 18446744073709551616 := by
  unfold sumN
  have : ∀ (l : List UInt8) (h : Nat), h < 18446744073709551616 → l.foldl sumStep h < 18446744073709551616 := by
    intro l
    induction l with
    | nil => intro h hh; exact hh
    | cons c l ih => intro h hh; exact ih _ (Nat.mod_lt _ (by decide))
  exact this _ _ (by decide)

theorem sumN_snoc (l : List UInt8) (c : UInt8) : sumN (l ++ [c]) = sumStep (sumN l) c := by
  unfold sumN
  rw [List.foldl_append]
  rw [List.foldl_cons, List.foldl_nil]

theorem sumStep_int (h : Nat) (c : UInt8) (hh : h < 18446744073709551616) : (sumStep h c : Int) = IntKind.u64.wrap (bits .xor .u64 (h : Int) (c.toNat : Int) * 1099511628211) := by
  have hx : c.toNat < 256 := c.toNat_lt
  rw [bits_xor_u64_nat h c.toNat hh (by omega), IntKind.wrap_u64]
  unfold sumStep
  generalize h ^^^ c.toNat = z
  omega

theorem sum_take (l : List UInt8) (k : Nat) (h : k < l.length) :
    (sumN (l.take (k + 1)) : Int) = IntKind.u64.wrap (bits .xor .u64 (sumN (l.take k) : Int) (l[k].toNat : Int) * 1099511628211) := by
  rw [List.take_succ_eq_append_getElem h, sumN_snoc]
  exact sumStep_int _ _ (sumN_lt _)
end Go.Proofs.YtpnpjblohijajabGreat
