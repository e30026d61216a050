/- Leaf, joined. -/
import Derived.Test.YtpnpjblohijajabGreatChecked
import Derived.Test.YtpnpjblohijajabGreatPackStraw
import Derived.WalkKit
import Derived.WalkSpells
import Derived.WalkLawsBesides
namespace Go.Proofs.YtpnpjblohijajabGreat
section
set_option maxRecDepth 100000
open Go.RowKit
set_option linter.unusedVariables false

theorem Tryz.infoByte : (Tryz.prog.info? 5).map (fun i => (i.zero, i.size, i.bytes)) = some (some (.int .u8 0), 1, 1) := by kernel_rfl

theorem held_any (n : Int) (w : World) :
    Calls Tryz.prog 97 #[.int .i64 n] w fun e w' => e = .returned (.int .i64 (heldI n)) ∧ w' = w := by
  by_cases h1 : n < 0
  · have e : heldI n = 0 := by simp [heldI, h1]
    rw [e]; clear e
    go_enter Tryz.func97, Tryz.ntmps97
    go_wp2
    go_ret
    exact ⟨rfl, rfl⟩
  · by_cases h2 : 8 < n
    · have e : heldI n = 8 := by simp [heldI, h1, h2]
      rw [e]; clear e
      go_enter Tryz.func97, Tryz.ntmps97
      go_wp2
      go_ret
      exact ⟨rfl, rfl⟩
    · have e : heldI n = n := by simp [heldI, h1, h2]
      rw [e]; clear e
      go_enter Tryz.func97, Tryz.ntmps97
      go_wp2
      go_ret
      exact ⟨rfl, rfl⟩

set_option maxHeartbeats 400000 in
theorem appnum_any (g n cap : Nat) (xs : List Value) (x : Int) (k : Nat) (w : World) (base : Nat) (hx0 : 0 ≤ x) (hx1 : x < 18446744073709551616) (hk : k ≤ 8)
    (hown : w.ownsRow base 5 1 (.slice (some ⟨g, 0, none⟩) n cap) n xs) (hfit : n + k ≤ cap) (hg : base ≤ g) (hbase : base ≤ w.heap.size) :
    Calls Tryz.prog 96 #[.slice (some ⟨g, 0, none⟩) n cap, .int .u64 x, .int .i64 k] w fun e w' =>
      e = .returned (.slice (some ⟨g, 0, none⟩) (n + k) cap) ∧ w'.ownsRow base 5 1 (.slice (some ⟨g, 0, none⟩) (n + k) cap) (n + k) (xs ++ Bs (putB x.toNat k)) ∧ Below base w w' := by
  obtain ⟨i0, hi, hz0, hz1, hz2⟩ := info_parts Tryz.infoByte
  go_enter Tryz.func96, Tryz.ntmps96
  go_wp2
  go_loopw [0, 7] (fun v i wr => ∃ m : Nat, m ≤ k ∧ i = .int .i64 (k - 1 - m) ∧ v = .slice (some ⟨g, 0, none⟩) (n + m) cap ∧ wr.ownsRow base 5 1 (.slice (some ⟨g, 0, none⟩) (n + m) cap) (n + m) (xs ++ (Bs (putB x.toNat k)).take m) ∧ Below base w wr)
    (fun _ i _ => (intOf i + 1).toNat)
  case atStart => exact ⟨0, Nat.zero_le _, by go_num, rfl, by simpa using hown, Below.refl _ _⟩
  case round =>
    obtain ⟨m, hm, rfl, rfl, hownr, hb⟩ := hrel
    by_cases hlt : m < k
    · go_wp2_with (at_builtin; refine wpList_append_fits _ rfl _ _ 60 rfl base 5 i0 1 Tryz.underlying60 hi hz1 g (n + m) cap _ rfl (hownr.alloc _) ⟨wr.heap.size, 0, none⟩ 1 1 [.int .u8 (x / 2 ^ (8 * (k - 1 - m)) % 256)] rfl rfl ?c1 ?c2 ?c3 ?_)
      case c1 =>
        intro j u hj
        match j, hj with
        | 0, hj => simp at hj; subst hj; simp [Addr.add]
      case c2 => intro u hu; simp at hu; subst hu; rfl
      case c3 => omega
      · intro w1 hown' hgrow
        have hb' : Below base w w1 := (hb.alloc (by have := hb.size; omega) _).grown hgrow (by have := hb.size; simp; omega) (by intro k' hk'; simp at hk'; omega)
        have R := put_step hx0 hlt (by simpa using hown')
        clear hown' hgrow hownr hb
        go_wp2
        go_roundw
        case rel => exact ⟨m + 1, by omega, by go_num, rfl, R, hb'⟩
        case measure => simp [intOf]; omega
    · have : m = k := by omega
      subst this
      go_wp2
      go_ret
      refine ⟨rfl, ?_, hb⟩
      rw [List.take_of_length_le (by simp [Bs, putB])] at hownr
      exact hownr

set_option maxHeartbeats 400000 in
theorem grown_any (ao : Option Addr) (n c : Nat) (xs : List UInt8) (r : Int) (w : World) (h : By w ao c xs) (hn : n = xs.length) (hl : n ≤ 1099511627776) (hr0 : 0 ≤ r) (hr1 : r ≤ 1000000) :
    Calls Tryz.prog 95 #[.slice ao n c, .int .i64 r] w fun e w' =>
      e = .returned (.slice (some ⟨w.heap.size, 0, none⟩) n (n + r.toNat)) ∧ w'.ownsRow w.heap.size 5 1 (.slice (some ⟨w.heap.size, 0, none⟩) n (n + r.toNat)) n (Bs xs) ∧ Below w.heap.size w w' := by
  obtain ⟨i0, hi, hz0, hz1, hz2⟩ := info_parts Tryz.infoByte
  obtain ⟨m, rfl⟩ := Int.eq_ofNat_of_zero_le hr0
  subst hn
  have hle := h.le
  have hcap := h.cap
  rw [Int.toNat_natCast]
  go_enter Tryz.func95, Tryz.ntmps95
  go_wp2_with (at_make; refine wpList_make_own _ rfl _ _ 60 rfl w.heap.size 5 i0 (.int .u8 0) 1 Tryz.underlying60 hi hz0 hz1 _ _ _ (xs.length + m) rfl rfl (by omega) ?b1 ?b2 ?b3 ?_)
  case b1 => rw [hz2]; omega
  case b2 => unfold maxLen; omega
  case b3 => exact Nat.le_refl _
  intro w1 hown1 hgrow1
  have hb1 : Below w.heap.size w w1 := (Below.refl _ _).grown hgrow1 (Nat.le_refl _) (by intro k hk; cases hk)
  have h1 := h.later hb1
  go_wp2_with (at_builtin; refine wpList_append_fits_any _ rfl _ _ 60 rfl w.heap.size 5 i0 1 Tryz.underlying60 hi hz1 w.heap.size 0 (xs.length + m) [] rfl hown1 ao xs.length c (Bs xs) rfl ?c1 ?c2 ?c3 ?c4 ?c5 ?_)
  case c1 => rw [Bs_length]; omega
  case c2 => intro hz; have := h.nil hz; omega
  case c3 => exact h1.at'
  case c4 => exact Bs_one _
  case c5 => omega
  intro w2 hown2 hgrow2
  have hb2 : Below w.heap.size w w2 := hb1.grown hgrow2 hb1.size (by intro k hk; simp at hk; omega)
  clear hown1 hgrow1 hgrow2 h1 hb1
  go_wp2
  go_ret
  exact ⟨by simp, hown2, hb2⟩

set_option maxHeartbeats 400000 in
theorem put_any (ao : Option Addr) (n c : Nat) (xs : List UInt8) (x k : Int) (w : World) (h : By w ao c xs) (hn : n = xs.length) (hl : n ≤ 1099511627776) (hx0 : 0 ≤ x) (hx1 : x < 18446744073709551616) :
    Calls Tryz.prog 71 #[.slice ao n c, .int .u64 x, .int .i64 k] w fun e w' =>
      ∃ m, m = (xs ++ putB x.toNat (heldI k).toNat).length ∧ e = .returned (.slice (some ⟨w.heap.size, 0, none⟩) m m) ∧ By w' (some ⟨w.heap.size, 0, none⟩) m (xs ++ putB x.toNat (heldI k).toNat) ∧ Below w.heap.size w w' := by
  obtain ⟨hk0, hk8⟩ := heldI_bd k
  obtain ⟨p, hp⟩ := Int.eq_ofNat_of_zero_le hk0
  have hp8 : p ≤ 8 := by omega
  subst hn
  have hle := h.le
  rw [hp, Int.toNat_natCast]
  clear hk0 hk8
  go_enter Tryz.func71, Tryz.ntmps71
  go_wp2_with (go_at_call 97; refine (held_any _ _).mono ?_; rintro e w' ⟨rfl, rfl⟩)
  refine (grown_any ao xs.length c xs _ _ h rfl hl (by omega) (by omega)).mono ?_
  rintro e w1 ⟨rfl, hown1, hb1⟩
  simp only [Int.toNat_natCast] at hown1
  go_wp2_with fail
  refine (appnum_any _ xs.length (xs.length + p) (Bs xs) x p w1 _ hx0 hx1 hp8 hown1 (by omega) (Nat.le_refl _) hb1.size).mono ?_
  rintro e w2 ⟨rfl, hown2, hb2⟩
  rw [← Bs_append] at hown2
  go_wp2
  go_ret
  refine ⟨xs.length + p, ?_, rfl, By.own hown2 (by omega), hb1.trans hb2⟩
  rw [List.length_append, putB_length]

/-- bits.Put behind nothing. -/
theorem put_new (x k : Int) (m : Nat) (w : World) (hm : (heldI k).toNat = m) (hx0 : 0 ≤ x) (hx1 : x < 18446744073709551616) :
    Calls Tryz.prog 71 #[.slice none 0 0, .int .u64 x, .int .i64 k] w fun e w' =>
      e = .returned (.slice (some ⟨w.heap.size, 0, none⟩) m m) ∧ By w' (some ⟨w.heap.size, 0, none⟩) m (putB x.toNat m) ∧ Below w.heap.size w w' := by
  refine (put_any none 0 0 [] x k w (By.nothing w) rfl (by decide) hx0 hx1).mono ?_
  rintro e w' ⟨m', hm', rfl, hB, hb⟩
  rw [hm, List.nil_append] at hm' hB
  rw [putB_length] at hm'
  subst hm'
  exact ⟨rfl, hB, hb⟩

theorem sum_any (ao : Option Addr) (n c : Nat) (xs : List UInt8) (w : World) (h : By w ao c xs) (hn : n = xs.length) :
    Calls Tryz.prog 89 #[.slice ao n c] w fun e w' => e = .returned (.int .u64 (sumN xs : Int)) ∧ w' = w := by
  have hle := h.le
  have hcap := h.cap
  have HN : Hid (n = xs.length) := hn
  have hnn : n ≤ xs.length := by omega
  rw [← hn] at hle
  clear hn
  go_enter Tryz.func89, Tryz.ntmps89
  go_wp2
  go_loop [3, 8] (fun s i => ∃ k : Nat, k ≤ n ∧ i = .int .i64 k ∧ s = .int .u64 (sumN (xs.take k) : Int)) (fun _ i => n - (intOf i).toNat)
  case atStart => exact ⟨0, Nat.zero_le _, rfl, rfl⟩
  case round =>
    obtain ⟨k, hk, rfl, rfl⟩ := hrel
    by_cases hlt : k < n
    · cases ao with
      | none => have := h.nil rfl; omega
      | some ad =>
        have hc := h.cell k (by have := HN.out; omega)
        have hs := sumN_lt (xs.take k)
        have hx : xs[k].toNat < 256 := xs[k].toNat_lt
        have HS : Hid _ := sum_take xs k (by have := HN.out; omega)
        go_wp2
        go_round
        case rel => exact ⟨k + 1, by omega, by go_num, by rw [HS.out]⟩
        case measure => simp [intOf]; omega
    · go_wp2
      go_ret
      exact ⟨by rw [List.take_of_length_le (by have := HN.out; omega)]; rfl, rfl⟩
end
end Go.Proofs.YtpnpjblohijajabGreat
