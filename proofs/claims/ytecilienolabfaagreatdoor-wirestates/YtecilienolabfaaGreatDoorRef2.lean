/- Contracts of the document's own answers (package paddockref1: Get, Text, GetText) over this seat's program. -/
import Derived.Test.YtecilienolabfaaGreatDoorRef
import Derived.Test.YtecilienolabfaaGreatDoorPackBits
import Derived.RegionTactic
namespace Go.Proofs.YtecilienolabfaaGreatDoor
set_option maxRecDepth 100000
open Go.RowKit
set_option linter.unusedVariables false

/-- What is behind the first m elements of a slice of bytes. -/
theorem slice_from (ao : Option Addr) (n c m : Nat) (z : Int) (hz : z = m) (hm : m ≤ n) (hn : n ≤ c) :
    ∀ W, (Instr.slice 51 (.slice ao n c) (some (.int .i64 z)) none none).run Tryz.prog W = .ok (.slice (restAddr ao c m) (n - m) (c - m)) W := by
  intro W
  subst hz
  rw [run_slice_l W 51 _ n c Tryz.underlying51 .i64 (m : Int) (by omega) (by omega)]
  obtain ⟨i0, hi, hz0, hz1, hz2⟩ := info_parts Tryz.infoByte
  have hel : Tryz.prog.elem 51 = 5 := by kernel_rfl
  simp [hel, sizeOf, typeInfo, hi, hz1, sliced, restAddr]

theorem heldI_cases {q : Int} {m : Nat} (hq : heldI q = m) : (q ≤ 0 ∧ m = 0) ∨ (8 < q ∧ m = 8) ∨ (0 < m ∧ q = m) := by
  unfold heldI at hq
  split at hq
  · exact Or.inl ⟨by omega, by omega⟩
  · split at hq
    · exact Or.inr (Or.inl ⟨by assumption, by omega⟩)
    · by_cases h0 : m = 0
      · exact Or.inl ⟨by omega, h0⟩
      · exact Or.inr (Or.inr ⟨by omega, hq⟩)

set_option maxHeartbeats 1600000 in
theorem refget_ok (ao : Option Addr) (n c : Nat) (xs : List UInt8) (q : Int) (m : Nat) (w : World) (h : By w ao c xs) (hn : n = xs.length) (hq : heldI q = m) (hk : m ≤ n) :
    Calls Tryz.prog 92 #[.slice ao n c, .int .i64 q] w fun e w' =>
      e = .returned (.tuple #[.int .u64 (getN (xs.take m) : Int), .slice (restAddr ao c m) (n - m) (c - m), .bool true]) ∧ Below w.heap.size w w' := by
  have hle := h.le
  have hcap := h.cap
  rw [← hn] at hle
  have hN : n ≤ xs.length := by omega
  have hm8 : m ≤ 8 := by have := heldI_bd q; omega
  have hcase := heldI_cases hq
  clear hn hq
  rcases hcase with ⟨h1, rfl⟩ | ⟨h1, rfl⟩ | ⟨h1, rfl⟩
  · skip
    have hsl := slice_from ao n c (0 : Nat) (0) rfl hk hle
    go_enter Tryz.func92, Tryz.ntmps92
    go_wp2
    go_loop [8, 9] (fun s i => ∃ j : Nat, j ≤ (0 : Nat) ∧ i = .int .i64 j ∧ s = .int .u64 (getN (xs.take j) : Int)) (fun _ i => (0 : Nat) - (intOf i).toNat)
    case atStart => exact ⟨0, Nat.zero_le _, rfl, rfl⟩
    case round =>
      obtain ⟨j, hj, rfl, rfl⟩ := hrel
      by_cases hlt : j < (0 : Nat)
      · omega
      · have hjm : j = (0 : Nat) := by omega
        subst hjm
        go_wp2
        go_region
        all_goals
          go_wp2
          go_ret3
          exact ⟨rfl, (Below.refl _ _).drew⟩
  · skip
    have hsl := slice_from ao n c (8 : Nat) (8) rfl hk hle
    go_enter Tryz.func92, Tryz.ntmps92
    go_wp2
    go_loop [8, 9] (fun s i => ∃ j : Nat, j ≤ (8 : Nat) ∧ i = .int .i64 j ∧ s = .int .u64 (getN (xs.take j) : Int)) (fun _ i => (8 : Nat) - (intOf i).toNat)
    case atStart => exact ⟨0, Nat.zero_le _, rfl, rfl⟩
    case round =>
      obtain ⟨j, hj, rfl, rfl⟩ := hrel
      by_cases hlt : j < (8 : Nat)
      · cases ao with
        | none => have := h.nil rfl; omega
        | some ad =>
          have hc := h.cell j (by omega)
          have hs := getN_lt (xs.take j)
          have hx : xs[j].toNat < 256 := xs[j].toNat_lt
          have HS : Hid _ := get_take xs j (by omega)
          clear hsl
          go_wp2
          go_round
          case rel => exact ⟨j + 1, by omega, by go_num, by rw [HS.out]⟩
          case measure => simp [intOf]; omega
      · have hjm : j = (8 : Nat) := by omega
        subst hjm
        go_wp2
        go_region
        all_goals
          go_wp2
          go_ret3
          exact ⟨rfl, (Below.refl _ _).drew⟩
  · skip
    have hsl := slice_from ao n c m ((m : Int)) rfl hk hle
    go_enter Tryz.func92, Tryz.ntmps92
    go_wp2
    go_loop [8, 9] (fun s i => ∃ j : Nat, j ≤ m ∧ i = .int .i64 j ∧ s = .int .u64 (getN (xs.take j) : Int)) (fun _ i => m - (intOf i).toNat)
    case atStart => exact ⟨0, Nat.zero_le _, rfl, rfl⟩
    case round =>
      obtain ⟨j, hj, rfl, rfl⟩ := hrel
      by_cases hlt : j < m
      · cases ao with
        | none => have := h.nil rfl; omega
        | some ad =>
          have hc := h.cell j (by omega)
          have hs := getN_lt (xs.take j)
          have hx : xs[j].toNat < 256 := xs[j].toNat_lt
          have HS : Hid _ := get_take xs j (by omega)
          clear hsl
          go_wp2
          go_round
          case rel => exact ⟨j + 1, by omega, by go_num, by rw [HS.out]⟩
          case measure => simp [intOf]; omega
      · have hjm : j = m := by omega
        subst hjm
        go_wp2
        go_region
        all_goals
          go_wp2
          go_ret3
          exact ⟨rfl, (Below.refl _ _).drew⟩

theorem refput2 (v : Value) (n : Nat) (xs : List Value) (x : Nat) (w : World) (base : Nat) (hx1 : x < 18446744073709551616)
    (hown : w.ownsRow base 5 1 v n xs) (hl : n ≤ 1099511627776) (hbase : base ≤ w.heap.size) :
    Calls Tryz.prog 38 #[v, .int .u64 x, .int .i64 2] w fun e w' =>
      ∃ v', e = .returned v' ∧ w'.ownsRow base 5 1 v' (n + 2) (xs ++ Bs (putB x 2)) ∧ Below base w w' :=
  refput_held v n xs x 2 2 w base (by omega) (by omega) (by decide) (by decide) hown hl hbase

set_option maxHeartbeats 800000 in
theorem refget_short (ao : Option Addr) (n c : Nat) (q : Int) (m : Nat) (w : World) (hn : n ≤ 9223372036854775807) (hq : heldI q = m) (hk : n < m) :
    Calls Tryz.prog 92 #[.slice ao n c, .int .i64 q] w fun e w' =>
      e = .returned (.tuple #[.int .u64 0, .slice ao n c, .bool false]) ∧ w' = w := by
  have hcase := heldI_cases hq
  have hm8 : m ≤ 8 := by have := heldI_bd q; omega
  clear hq
  rcases hcase with ⟨h1, rfl⟩ | ⟨h1, rfl⟩ | ⟨h1, rfl⟩
  · omega
  · go_enter Tryz.func92, Tryz.ntmps92
    go_wp2
    go_ret3
    exact ⟨rfl, rfl⟩
  · go_enter Tryz.func92, Tryz.ntmps92
    go_wp2
    go_ret3
    exact ⟨rfl, rfl⟩

set_option maxHeartbeats 1600000 in
theorem reftext_any (v : Value) (n : Nat) (xs : List UInt8) (s : ByteArray) (w : World) (base : Nat) (hown : w.ownsRow base 5 1 v n (Bs xs)) (hl : n ≤ 1000000) (hs : s.size ≤ 65535) (hbase : base ≤ w.heap.size) :
    Calls Tryz.prog 37 #[v, .string s] w fun e w' =>
      ∃ ao c, e = .returned (.slice ao (n + (s.size + 2)) c) ∧ By w' ao c (xs ++ txtB s) ∧ Below base w w' := by
  obtain ⟨i0, hi, hz0, hz1, hz2⟩ := info_parts Tryz.infoByte
  have hsI : (s.size : Int) ≤ 65535 := by omega
  go_enter Tryz.func37, Tryz.ntmps37
  go_wp2_with fail
  refine (refput2 v n (Bs xs) s.size w base (by omega) hown (by omega) hbase).mono ?_
  rintro e w1 ⟨v1, rfl, hown1, hb1⟩
  rw [← Bs_append] at hown1
  have hb1s := hb1.size
  go_wp2_with (at_builtin; refine Lib.wpList_append_own_string _ rfl _ _ 51 9 rfl base 5 i0 Tryz.underlying51 Tryz.underlying9 hi hz0 hz1 hz2 _ (n + 2) _ rfl hown1 s rfl (by unfold maxLen; omega) (by omega) (by omega) ?_)
  intro v2 w2 hown2 hgrow hnil
  rw [strCells_is, ← Bs_append] at hown2
  have hb2 : Below base w w2 := hb1.grown hgrow (by omega) (fun k hk => (hown1.lt k hk).1)
  obtain ⟨_, ao, c, rfl, hB⟩ := own_by hown2
  clear hown1 hown2 hgrow hnil hb1
  go_wp2
  go_ret
  refine ⟨ao, c, ?_, ?_, hb2⟩
  · have e2 : n + 2 + s.size = n + (s.size + 2) := by omega
    rw [← e2]
    rfl
  · rw [txtB, ← List.append_assoc]
    exact hB
end Go.Proofs.YtecilienolabfaaGreatDoor
