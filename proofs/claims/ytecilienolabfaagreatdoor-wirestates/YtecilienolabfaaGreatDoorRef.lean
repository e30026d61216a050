/- Contracts of the document's own answers (package paddockref1: Sum, Mix, Hash, Group, Put, Get) over this seat's program. -/
import Derived.Test.YtecilienolabfaaGreatDoorCopy
namespace Go.Proofs.YtecilienolabfaaGreatDoor
set_option maxRecDepth 100000
open Go.RowKit
set_option linter.unusedVariables false

theorem refsum_any (ao : Option Addr) (n c : Nat) (xs : List UInt8) (w : World) (h : By w ao c xs) (hn : n = xs.length) :
    Calls Tryz.prog 39 #[.slice ao n c] w fun e w' => e = .returned (.int .u64 (sumN xs : Int)) ∧ w' = w := by
  subst hn
  have hle := h.le
  have hcap := h.cap
  go_enter Tryz.func39, Tryz.ntmps39
  go_wp2
  go_loop [3, 4] (fun s i => ∃ k : Nat, k ≤ xs.length ∧ i = .int .i64 k ∧ s = .int .u64 (sumN (xs.take k) : Int)) (fun _ i => xs.length - (intOf i).toNat)
  case atStart => exact ⟨0, Nat.zero_le _, rfl, rfl⟩
  case round =>
    obtain ⟨k, hk, rfl, rfl⟩ := hrel
    by_cases hlt : k < xs.length
    · cases ao with
      | none => have := h.nil rfl; omega
      | some ad =>
        have hc := h.cell k hlt
        have hs := sumN_lt (xs.take k)
        have hx : xs[k].toNat < 256 := xs[k].toNat_lt
        have HS : Hid _ := sum_take xs k hlt
        go_wp2
        go_round
        case rel => exact ⟨k + 1, by omega, by go_num, by rw [HS.out]⟩
        case measure => simp [intOf]; omega
    · go_wp2
      go_ret
      exact ⟨by rw [List.take_of_length_le (by omega)]; rfl, rfl⟩

/-- One byte more of a number, in a row of one's own that may grow. -/
theorem put_step_own {w1 : World} {base n : Nat} {v : Value} {xs : List Value} {x : Int} {k m : Nat} (hx : 0 ≤ x) (h : m < k)
    (ho : w1.ownsRow base 5 1 v (n + m + 1) (xs ++ (Bs (putB x.toNat k)).take m ++ [Value.int .u8 (x / 2 ^ (8 * (k - 1 - m)) % 256)])) :
    w1.ownsRow base 5 1 v (n + (m + 1)) (xs ++ (Bs (putB x.toNat k)).take (m + 1)) := by
  rw [put_take x hx k m h, ← List.append_assoc]
  exact ho

set_option maxHeartbeats 1600000 in
theorem refput_held (v : Value) (n : Nat) (xs : List Value) (x q : Int) (k : Nat) (w : World) (base : Nat) (hx0 : 0 ≤ x) (hx1 : x < 18446744073709551616) (hq : heldI q = k) (hk : k ≤ 8)
    (hown : w.ownsRow base 5 1 v n xs) (hl : n ≤ 1099511627776) (hbase : base ≤ w.heap.size) :
    Calls Tryz.prog 38 #[v, .int .u64 x, .int .i64 q] w fun e w' =>
      ∃ v', e = .returned v' ∧ w'.ownsRow base 5 1 v' (n + k) (xs ++ Bs (putB x.toNat k)) ∧ Below base w w' := by
  obtain ⟨i0, hi, hz0, hz1, hz2⟩ := info_parts Tryz.infoByte
  have hcase : (q ≤ 0 ∧ k = 0) ∨ (8 < q ∧ k = 8) ∨ (0 < k ∧ q = k) := by
    unfold heldI at hq
    split at hq
    · exact Or.inl ⟨by omega, by omega⟩
    · split at hq
      · exact Or.inr (Or.inl ⟨by assumption, by omega⟩)
      · by_cases h0 : k = 0
        · exact Or.inl ⟨by omega, h0⟩
        · exact Or.inr (Or.inr ⟨by omega, hq⟩)
  clear hq
  rcases hcase with ⟨h1, rfl⟩ | ⟨h1, rfl⟩ | ⟨h1, rfl⟩
  · go_enter Tryz.func38, Tryz.ntmps38
    go_wp2
    go_loopw [0, 8] (fun u i wr => u = v ∧ i = .int .i64 (-1) ∧ wr = w) (fun _ i _ => (intOf i + 1).toNat)
    case atStart => exact ⟨rfl, rfl, rfl⟩
    case round =>
      obtain ⟨rfl, rfl, rfl⟩ := hrel
      go_wp2
      go_ret
      exact ⟨_, rfl, by simpa [putB, Bs] using hown, Below.refl _ _⟩
  · go_enter Tryz.func38, Tryz.ntmps38
    go_wp2
    go_loopw [0, 8] (fun u i wr => ∃ m : Nat, m ≤ (8 : Nat) ∧ i = .int .i64 ((8 : Nat) - 1 - m) ∧ wr.ownsRow base 5 1 u (n + m) (xs ++ (Bs (putB x.toNat (8 : Nat))).take m) ∧ Below base w wr)
      (fun _ i _ => (intOf i + 1).toNat)
    case atStart => exact ⟨0, Nat.zero_le _, by go_num, by simpa using hown, Below.refl _ _⟩
    case round =>
      clear hown
      obtain ⟨m, hm, rfl, hownr, hb⟩ := hrel
      by_cases hlt : m < (8 : Nat)
      · go_wp2_with (at_builtin; refine wpList_append_own _ rfl _ _ 51 rfl base 5 i0 (.int .u8 0) 1 1 Tryz.underlying51 hi hz0 hz1 hz2 rfl (by decide) _ (n + m) _ rfl (hownr.alloc _) ⟨wr.heap.size, 0, none⟩ 1 1 [.int .u8 (x / 2 ^ (8 * ((8 : Nat) - 1 - m)) % 256)] rfl rfl ?c1 ?c2 ?c3 ?c4 ?c5 ?_)
        case c1 =>
          intro j u hj
          match j, hj with
          | 0, hj => simp at hj; subst hj; simp [Addr.add]
        case c2 => intro u hu; simp at hu; subst hu; rfl
        case c3 => unfold maxLen; omega
        case c4 => omega
        case c5 => have := hb.size; simp; omega
        · intro v' w1 hown' hgrow _
          have hb' : Below base w w1 := (hb.alloc (by have := hb.size; omega) _).grown hgrow (by have := hb.size; simp; omega) (fun k' hk' => (hownr.lt k' hk').1)
          have R := put_step_own (k := (8 : Nat)) hx0 hlt (by simpa using hown')
          clear hown' hgrow hownr hb
          go_wp2
          go_roundw
          case rel => exact ⟨m + 1, by omega, by go_num, R, hb'⟩
          case measure => simp [intOf]; omega
      · have hmk : m = (8 : Nat) := by omega
        subst hmk
        go_wp2
        go_ret
        refine ⟨_, rfl, ?_, hb⟩
        rw [List.take_of_length_le (by simp [Bs, putB])] at hownr
        exact hownr
  · go_enter Tryz.func38, Tryz.ntmps38
    go_wp2
    go_loopw [0, 8] (fun u i wr => ∃ m : Nat, m ≤ k ∧ i = .int .i64 (k - 1 - m) ∧ wr.ownsRow base 5 1 u (n + m) (xs ++ (Bs (putB x.toNat k)).take m) ∧ Below base w wr)
      (fun _ i _ => (intOf i + 1).toNat)
    case atStart => exact ⟨0, Nat.zero_le _, by go_num, by simpa using hown, Below.refl _ _⟩
    case round =>
      clear hown
      obtain ⟨m, hm, rfl, hownr, hb⟩ := hrel
      by_cases hlt : m < k
      · go_wp2_with (at_builtin; refine wpList_append_own _ rfl _ _ 51 rfl base 5 i0 (.int .u8 0) 1 1 Tryz.underlying51 hi hz0 hz1 hz2 rfl (by decide) _ (n + m) _ rfl (hownr.alloc _) ⟨wr.heap.size, 0, none⟩ 1 1 [.int .u8 (x / 2 ^ (8 * (k - 1 - m)) % 256)] rfl rfl ?c1 ?c2 ?c3 ?c4 ?c5 ?_)
        case c1 =>
          intro j u hj
          match j, hj with
          | 0, hj => simp at hj; subst hj; simp [Addr.add]
        case c2 => intro u hu; simp at hu; subst hu; rfl
        case c3 => unfold maxLen; omega
        case c4 => omega
        case c5 => have := hb.size; simp; omega
        · intro v' w1 hown' hgrow _
          have hb' : Below base w w1 := (hb.alloc (by have := hb.size; omega) _).grown hgrow (by have := hb.size; simp; omega) (fun k' hk' => (hownr.lt k' hk').1)
          have R := put_step_own (k := k) hx0 hlt (by simpa using hown')
          clear hown' hgrow hownr hb
          go_wp2
          go_roundw
          case rel => exact ⟨m + 1, by omega, by go_num, R, hb'⟩
          case measure => simp [intOf]; omega
      · have hmk : m = k := by omega
        subst hmk
        go_wp2
        go_ret
        refine ⟨_, rfl, ?_, hb⟩
        rw [List.take_of_length_le (by simp [Bs, putB])] at hownr
        exact hownr
end Go.Proofs.YtecilienolabfaaGreatDoor
