/- Contracts of bits.Mix and bits.Hash, and of the document's own two, over this seat's program. -/
import Derived.Test.YtmfgmdglpeadbaaChecked
import Derived.Test.YtmfgmdglpeadbaaMath
import Derived.WalkKit
import Derived.WalkSpells
import Derived.WalkLawsBesides
namespace Go.Proofs.Ytmfgmdglpeadbaa
open Go.RowKit
set_option linter.unusedVariables false

theorem mix_any (x : Int) (w : World) (h0 : 0 ≤ x) (h1 : x < 18446744073709551616) :
    Calls Try.prog 64 #[.int .u64 x] w fun e w' => e = .returned (.int .u64 (mixN x.toNat : Int)) ∧ w' = w := by
  rw [← mix_is x h0 h1]
  go_enter Try.func64, Try.ntmps64
  go_wp2
  go_ret
  exact ⟨rfl, rfl⟩

/-- A sum of two numbers of 64 bits. -/
def addN (a b : Nat) : Nat := (a + b) % 18446744073709551616

theorem addN_lt (a b : Nat) : addN a b < 18446744073709551616 := by
  unfold addN
  exact Nat.mod_lt _ (by decide)

theorem addN_wrap (a b : Nat) : IntKind.u64.wrap ((a : Int) + (b : Int)) = (addN a b : Int) := by
  rw [IntKind.wrap_u64]
  unfold addN
  omega

/-- Three numbers hashed. -/
def hashN (a b c : Nat) : Nat := mixN (addN (mixN (addN (mixN a) b)) c) % 4294967296

set_option maxHeartbeats 400000 in
theorem hash_any (a b c : Nat) (w : World) (a1 : a < 4294967296) (b1 : b < 4294967296) (c1 : c < 4294967296) :
    Calls Try.prog 60 #[.int .u32 a, .int .u32 b, .int .u32 c] w fun e w' => e = .returned (.int .u32 (hashN a b c : Int)) ∧ w' = w := by
  have m1 := mixN_lt a
  go_enter Try.func60, Try.ntmps60
  go_wp2_with fail
  refine (mix_any _ _ (by omega) (by omega)).mono ?_
  rintro e w' ⟨rfl, rfl⟩
  rw [Int.toNat_natCast]
  go_wp2_with fail
  rw [addN_wrap]
  have m2 := addN_lt (mixN a) b
  refine (mix_any _ _ (by omega) (by omega)).mono ?_
  rintro e w' ⟨rfl, rfl⟩
  rw [Int.toNat_natCast]
  have m3 := mixN_lt (addN (mixN a) b)
  go_wp2_with fail
  rw [addN_wrap]
  have m4 := addN_lt (mixN (addN (mixN a) b)) c
  refine (mix_any _ _ (by omega) (by omega)).mono ?_
  rintro e w' ⟨rfl, rfl⟩
  rw [Int.toNat_natCast]
  have m5 := mixN_lt (addN (mixN (addN (mixN a) b)) c)
  go_wp2
  go_ret
  exact ⟨rfl, rfl⟩

theorem refmix_any (x : Int) (w : World) (h0 : 0 ≤ x) (h1 : x < 18446744073709551616) :
    Calls Try.prog 66 #[.int .u64 x] w fun e w' => e = .returned (.int .u64 (mixN x.toNat : Int)) ∧ w' = w := by
  rw [← mix_is x h0 h1]
  go_enter Try.func66, Try.ntmps66
  go_wp2
  go_ret
  exact ⟨rfl, rfl⟩

set_option maxHeartbeats 400000 in
theorem refhash_any (a b c : Nat) (w : World) (a1 : a < 4294967296) (b1 : b < 4294967296) (c1 : c < 4294967296) :
    Calls Try.prog 62 #[.int .u32 a, .int .u32 b, .int .u32 c] w fun e w' => e = .returned (.int .u32 (hashN a b c : Int)) ∧ w' = w := by
  have m1 := mixN_lt a
  go_enter Try.func62, Try.ntmps62
  go_wp2_with fail
  refine (refmix_any _ _ (by omega) (by omega)).mono ?_
  rintro e w' ⟨rfl, rfl⟩
  rw [Int.toNat_natCast]
  go_wp2_with fail
  rw [addN_wrap]
  have m2 := addN_lt (mixN a) b
  refine (refmix_any _ _ (by omega) (by omega)).mono ?_
  rintro e w' ⟨rfl, rfl⟩
  rw [Int.toNat_natCast]
  have m3 := mixN_lt (addN (mixN a) b)
  go_wp2_with fail
  rw [addN_wrap]
  have m4 := addN_lt (mixN (addN (mixN a) b)) c
  refine (refmix_any _ _ (by omega) (by omega)).mono ?_
  rintro e w' ⟨rfl, rfl⟩
  rw [Int.toNat_natCast]
  have m5 := mixN_lt (addN (mixN (addN (mixN a) b)) c)
  go_wp2
  go_ret
  exact ⟨rfl, rfl⟩
end Go.Proofs.Ytmfgmdglpeadbaa
