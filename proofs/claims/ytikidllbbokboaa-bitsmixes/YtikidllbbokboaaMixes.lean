/- paddocklaw1.BitsMixes returns true, whatever the four numbers; nothing that was there is written. -/
import Derived.Test.YtikidllbbokboaaKnown
import Derived.Test.YtikidllbbokboaaInj
import Derived.Test.YtikidllbbokboaaHash
namespace Go.Proofs.Ytikidllbbokboaa
open Go.RowKit
set_option linter.unusedVariables false

/-- How many of the first i objects are in group g. -/
def cnt (i g : Nat) : Nat := ((List.range i).filter fun j => mixN j % 4 == g).length

theorem cnt_succ (i g : Nat) : cnt (i + 1) g = cnt i g + if mixN i % 4 = g then 1 else 0 := by
  unfold cnt
  rw [List.range_succ, List.filter_append, List.length_append]
  by_cases h : mixN i % 4 = g <;> simp [h]

theorem cnt_le (i g : Nat) : cnt i g ≤ i := by
  unfold cnt
  have := List.length_filter_le (fun j => mixN j % 4 == g) (List.range i)
  rw [List.length_range] at this
  exact this

theorem cnt_all : ∀ g, g < 4 → cnt 256 g ≠ 0 := by decide +kernel

theorem group_g (k : Int) (G : Nat) (w : World) (h0 : 0 ≤ k) (h1 : k < 256) (h : mixN k.toNat % 4 = G) :
    Calls Try.prog 18 #[.int .u8 k] w fun e w' => e = .returned (.int .u8 (G : Int)) ∧ w' = w := by
  have := group_any k w h0 h1
  rw [h] at this
  exact this

theorem hash7 (a b : Nat) (w : World) (a1 : a < 4294967296) (b1 : b < 4294967296) :
    Calls Try.prog 16 #[.int .u32 a, .int .u32 b, .int .u32 7] w fun e w' => e = .returned (.int .u32 (hashN a b 7 : Int)) ∧ w' = w := hash_any a b 7 w a1 b1 (by decide)

theorem addN_wrap7 (a : Nat) : IntKind.u64.wrap ((a : Int) + 7) = (addN a 7 : Int) := addN_wrap a 7

/-- The counts behind one object more. -/
theorem cnt_step {w : World} {Bk k : Nat} (hc : ∀ g, g < 4 → w.cell? ⟨Bk, g, none⟩ = some (.int .i64 (cnt k g))) (G : Nat) (hG : mixN k % 4 = G) (hG4 : G < 4) :
    ∀ g, g < 4 → (w.setCell ⟨Bk, G, none⟩ (.int .i64 ((cnt k G : Int) + 1))).cell? ⟨Bk, g, none⟩ = some (.int .i64 (cnt (k + 1) g)) := by
  intro g hg
  rw [cnt_succ, hG]
  by_cases h : G = g
  · subst h
    rw [World.cell?_setCell_same _ _ _ (hc G hg)]
    simp
  · rw [World.cell?_setCell_other _ _ _ _ (by simp), hc g hg]
    simp [h]

set_option maxRecDepth 100000 in
set_option maxHeartbeats 1600000 in
theorem mixes_walk (x y a b : Nat) (w : World) (hx : x < 18446744073709551616) (hy : y < 18446744073709551616) (ha : a < 4294967296) (hb : b < 4294967296) :
    Calls Try.prog 7 #[.int .u64 x, .int .u64 y, .int .u32 a, .int .u32 b] w fun e w' => e = .returned (.bool true) ∧ Below w.heap.size w w' := by
  go_enter Try.func7, Try.ntmps7
  go_wp2_with (go_at_call 9; refine (known_any _).mono ?_; rintro e w1 ⟨rfl, hb1⟩)
  have hs1 := hb1.size
  go_loopw [10] (fun i wr => ∃ k : Nat, k ≤ 256 ∧ i = .int .i64 k ∧ (∀ g, g < 4 → wr.cell? ⟨w1.heap.size, g, none⟩ = some (.int .i64 (cnt k g))) ∧ (∀ g, wr.frozen? ⟨w1.heap.size, g, none⟩ = false) ∧ Below w.heap.size w wr)
    (fun i _ => 256 - (intOf i).toNat)
  case atStart =>
    refine ⟨0, by omega, rfl, ?_, ?_, hb1.alloc hs1 _⟩
    · intro g hg
      match g, hg with
      | 0, _ => simp [go_sem, cnt]
      | 1, _ => simp [go_sem, cnt]
      | 2, _ => simp [go_sem, cnt]
      | 3, _ => simp [go_sem, cnt]
    · intro g
      simp [go_sem]
  case round =>
    obtain ⟨k, hk, rfl, hc, hz, hbr⟩ := hrel
    by_cases hlt : k < 256
    · obtain ⟨G, hG⟩ : ∃ G, mixN k % 4 = G := ⟨_, rfl⟩
      have hG4 : G < 4 := by omega
      have hcG := hc G hG4
      have hzG := hz G
      have hle := cnt_le k G
      have HG : Hid (mixN k % 4 = G) := hG
      have HC : Hid (∀ g, g < 4 → wr.cell? ⟨w1.heap.size, g, none⟩ = some (.int .i64 (cnt k g))) := hc
      have HZ : Hid (∀ g, wr.frozen? ⟨w1.heap.size, g, none⟩ = false) := hz
      clear hG hc hz
      go_wp2_with fail
      refine (group_g k G _ (by omega) (by omega) (by rw [Int.toNat_natCast]; exact HG.out)).mono ?_
      rintro e w' ⟨rfl, rfl⟩
      go_wp2
      go_roundw
      case rel => exact ⟨k + 1, by omega, by go_num, cnt_step HC.out G HG.out hG4, fun g => (World.frozen?_setCell _ _ _ _).trans (HZ.out g), hbr.setCell hs1 _⟩
      case measure => simp [intOf]; omega
    · have hk2 : k = 256 := by omega
      subst hk2
      obtain ⟨cn, hcn, hcn0⟩ : ∃ cn : Nat → Nat, (∀ g, g < 4 → wr.cell? ⟨w1.heap.size, g, none⟩ = some (.int .i64 (cn g))) ∧ ∀ g, g < 4 → cn g ≠ 0 := ⟨cnt 256, hc, cnt_all⟩
      clear hc hz
      go_wp2_with fail
      go_loop [12] (fun i => ∃ k : Nat, k ≤ 4 ∧ i = .int .i64 k) (fun i => 4 - (intOf i).toNat)
      case atStart => exact ⟨0, by omega, rfl⟩
      case round =>
        obtain ⟨k, hk, rfl⟩ := hrel
        by_cases hlt2 : k < 4
        · have hcG := hcn k hlt2
          have hne : ((cn k : Int) == 0) = false := by rw [beq_eq_false_iff_ne]; have := hcn0 k hlt2; omega
          clear hcn hcn0
          go_wp2
          go_round
          case rel => exact ⟨k + 1, by omega, by go_num⟩
          case measure => simp [intOf]; omega
        · clear hcn hcn0
          have hE : (((mixN x : Nat) : Int) == ((mixN y : Nat) : Int)) = ((x : Int) == (y : Int)) := by
            rw [Bool.eq_iff_iff, beq_iff_eq, beq_iff_eq]
            constructor
            · intro e; have := mix_inj x y hx hy (Int.ofNat_inj.1 e); omega
            · intro e; have : x = y := by omega
              rw [this]
          have hH : Hid (((hashN a b 7 : Nat) : Int) = ((mixN (addN (mixN (addN (mixN a) b)) 7) : Nat) : Int) % 4294967296) := by show _ = _; unfold hashN; omega
          have m1 := mixN_lt a
          go_wp2_with fail
          refine (mix_any x _ (by omega) (by omega)).mono ?_
          rintro e w' ⟨rfl, rfl⟩
          rw [Int.toNat_natCast]
          go_wp2_with fail
          refine (mix_any y _ (by omega) (by omega)).mono ?_
          rintro e w' ⟨rfl, rfl⟩
          rw [Int.toNat_natCast]
          go_wp2_with fail
          refine (hash7 a b _ ha hb).mono ?_
          rintro e w' ⟨rfl, rfl⟩
          go_wp2_with fail
          refine (mix_any a _ (by omega) (by omega)).mono ?_
          rintro e w' ⟨rfl, rfl⟩
          rw [Int.toNat_natCast]
          go_wp2_with fail
          rw [addN_wrap]
          have m2 := addN_lt (mixN a) b
          refine (mix_any _ _ (by omega) (by omega)).mono ?_
          rintro e w' ⟨rfl, rfl⟩
          rw [Int.toNat_natCast]
          have m3 := mixN_lt (addN (mixN a) b)
          go_wp2_with fail
          rw [addN_wrap7]
          have m4 := addN_lt (mixN (addN (mixN a) b)) 7
          refine (mix_any _ _ (by omega) (by omega)).mono ?_
          rintro e w' ⟨rfl, rfl⟩
          rw [Int.toNat_natCast]
          have m5 := mixN_lt (addN (mixN (addN (mixN a) b)) 7)
          have hH2 := hH.out
          go_wp2
          go_ret
          exact ⟨by simp, hbr⟩
end Go.Proofs.Ytikidllbbokboaa
