/- The contract of straw.Log over this seat's program. -/
import Derived.Test.YtmfgmdglpeadbaaLen
import Derived.Test.YtmfgmdglpeadbaaStep
namespace Go.Proofs.Ytmfgmdglpeadbaa
open Go.RowKit
set_option linter.unusedVariables false

theorem two_new (w : World) (x : Int) (ty : Nat) : Two (w.alloc (.cells #[.int .u64 x, .int .i64 0] ty)) w.heap.size x 0 := by
  constructor <;> simp

theorem up_wrap (v : Nat) (v1 : 1 ≤ v) (v2 : v ≤ 65536) : IntKind.u64.wrap ((v : Int) * 2 ^ (31 - v.log2)) = (upN v : Int) := by
  have hn := (up_norm v1 v2).2
  have e : (v : Int) * 2 ^ (31 - v.log2) = (upN v : Int) := by
    unfold upN
    simp
  rw [e, IntKind.wrap_u64]
  omega

set_option maxRecDepth 100000 in
set_option maxHeartbeats 1000000 in
theorem log_in (v u : Nat) (w : World) (hu : u < 4294967296) (hv : (min (max (u : Int) 1) 65536) = (v : Int)) (v1 : 1 ≤ v) (v2 : v ≤ 65536) :
    Calls Try.prog 63 #[.int .u32 u] w fun e w' => e = .returned (.int .i64 ((v.log2 : Int) * 65536 + (tN (upN v) 16 : Nat))) ∧ Below w.heap.size w w' := by
  have hmf : ∀ (fn : Fn) (first cap : Array Value) (w : World), (Instr.makeFunc fn first cap).run Try.prog w = .ok (.func fn first cap) w := fun _ _ _ _ => rfl
  have hk := log2_le v1 v2
  go_enter Try.func63, Try.ntmps63
  go_wp2_with (go_at_call 67; refine (len_any v _ v1 v2).mono ?_; rintro e w' ⟨rfl, rfl⟩)
  rw [up_wrap v v1 v2]
  have hnorm := up_norm v1 v2
  have h2 := two_new w' (upN v : Int) 106
  have hb := (Below.refl w'.heap.size w').alloc (Nat.le_refl _) (.cells #[.int .u64 (upN v : Int), .int .i64 0] 106)
  generalize w'.alloc (.cells #[.int .u64 (upN v : Int), .int .i64 0] 106) = w1 at *
  clear v1 v2 hv
  go_loopw [19] (fun i wr => ∃ m : Nat, m ≤ 16 ∧ i = .int .i64 m ∧ Two wr w'.heap.size (xN (upN v) m : Nat) (tN (upN v) m : Nat) ∧ Below w'.heap.size w' wr) (fun i _ => (16 - intOf i).toNat)
  case atStart => exact ⟨0, Nat.zero_le _, rfl, h2, hb⟩
  case round =>
    obtain ⟨m, hm, rfl, hT, hbr⟩ := hrel
    have hxn := xN_norm hnorm m
    have htl := tN_lt (upN v) m
    by_cases hlt : m < 16
    · have htl2 : tN (upN v) m < 65536 := Nat.lt_of_lt_of_le htl (by have := Nat.pow_le_pow_right (n := 2) (by decide) (Nat.le_of_lt hlt); omega)
      clear htl
      go_wp2_with (go_at_call 68; refine (step_any w'.heap.size _ _ _ _ hxn htl2 hT (Nat.le_refl _)).mono ?_; rintro e w2 ⟨rfl, hT2, hb2⟩)
      go_roundw
      case rel => exact ⟨m + 1, by omega, by go_num, hT2, hbr.trans hb2⟩
      case measure => simp [intOf]; omega
    · have : m = 16 := by omega
      subst this
      have d1 := hT.c1
      have ht16 : ((tN (upN v) 16 : Nat) : Int) < 65536 := by omega
      go_wp2
      go_ret
      exact ⟨rfl, hbr⟩

theorem log_any (u : Nat) (w : World) (hu : u < 4294967296) :
    Calls Try.prog 63 #[.int .u32 u] w fun e w' => e = .returned (.int .i64 (logN u : Nat)) ∧ Below w.heap.size w w' := by
  have hh := holdU_bd u
  exact log_in (holdU u) u w hu (by unfold holdU; split <;> (try split) <;> omega) hh.1 hh.2
end Go.Proofs.Ytmfgmdglpeadbaa
