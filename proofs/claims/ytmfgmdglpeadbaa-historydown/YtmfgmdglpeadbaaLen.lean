/- The library's contract of math/bits.Len32, laid over this seat's program. -/
import Derived.Shelf.Small.Bits
import Derived.Test.YtmfgmdglpeadbaaChecked
namespace Go.Proofs.Ytmfgmdglpeadbaa
open Go.Shelf Go.Proofs
def len_ren : Go.Shelf.Ren := ⟨fun | 128 => 67 | n => n, fun | 51 => 23 | 3 => 3 | 4 => 4 | 46 => 107 | 5 => 5 | 9 => 9 | n => n, fun | n => n⟩
theorem len_lays : Go.Proofs.Lays.n128 Try.prog len_ren := {
  mixed := by kernel_rfl
  f128 := Try.func67.trans (congrArg some (by kernel_rfl))
  t3 := Try.underlying3
  a3 := Try.isAgg3
  z3 := Try.sizeOf3
  v3 := Try.zeroValue3
  t4 := Try.underlying4
  a4 := Try.isAgg4
  z4 := Try.sizeOf4
  v4 := Try.zeroValue4
  t5 := Try.underlying5
  a5 := Try.isAgg5
  z5 := Try.sizeOf5
  v5 := Try.zeroValue5
  t9 := Try.underlying9
  a9 := Try.isAgg9
  z9 := Try.sizeOf9
  v9 := Try.zeroValue9
  t46 := Try.underlying107
  a46 := Try.isAgg107
  z46 := Try.sizeOf107
  v46 := Try.zeroValue107
  t51 := Try.underlying23
  a51 := Try.isAgg23
  z51 := Try.sizeOf23
  v51 := Try.zeroValue23 }

theorem aux_log (f : Nat) : ∀ x : Nat, 1 ≤ x → x < 2 ^ f → Lib.bitLenAux f x = x.log2 + 1 := by
  induction f with
  | zero => intro x h0 h1; rw [Nat.pow_zero] at h1; omega
  | succ f ih =>
    intro x h0 h1
    have e : Lib.bitLenAux (f + 1) x = 1 + Lib.bitLenAux f (x / 2) := by
      show (if x = 0 then 0 else 1 + Lib.bitLenAux f (x / 2)) = _
      rw [if_neg (by omega)]
    rw [e]
    by_cases h : x = 1
    · subst h
      have : Lib.bitLenAux f (1 / 2) = 0 := by
        cases f with
        | zero => rfl
        | succ f => rfl
      rw [this]
      decide
    · rw [ih (x / 2) (by omega) (by rw [Nat.pow_succ] at h1; omega), Nat.log2_def x, if_pos (by omega)]
      omega

theorem len_any (u : Nat) (w : World) (h0 : 1 ≤ u) (h1 : u ≤ 65536) :
    Calls Try.prog 67 #[.int .u32 u] w fun e w' => e = .returned (.int .i64 ((u.log2 : Int) + 1)) ∧ w' = w := by
  have h := Any.bits_Len32 len_lays (u : Int) w (by omega) (by omega)
  have e : (Lib.bitLen (u : Int).toNat : Int) = (u.log2 : Int) + 1 := by
    rw [Int.toNat_natCast]
    unfold Lib.bitLen
    rw [aux_log 64 u h0 (by omega)]
    rfl
  rw [e] at h
  exact h
end Go.Proofs.Ytmfgmdglpeadbaa
