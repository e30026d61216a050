/- The contracts of straw.Straw and straw.Draw over this seat's program. -/
import Derived.Test.YtmfgmdglpeadbaaLog
import Derived.Test.YtmfgmdglpeadbaaHashOnly
namespace Go.Proofs.Ytmfgmdglpeadbaa
open Go.RowKit
set_option linter.unusedVariables false

theorem lack_cast (h : Nat) : (1048576 - (logN (h % 65536 + 1) : Int)) * 4096 = (lackN h : Int) := by
  have := logN_le (h % 65536 + 1)
  unfold lackN
  omega

set_option maxRecDepth 100000 in
set_option maxHeartbeats 1000000 in
theorem straw_any (h : Nat) (q : Int) (w : World) (hh : h < 4294967296) (hq0 : -9223372036854775808 ≤ q) (hq1 : q ≤ 9223372036854775807) :
    Calls Try.prog 59 #[.int .u32 h, .int .i64 q] w fun e w' => e = .returned (.int .i64 (strawI h q)) ∧ Below w.heap.size w w' := by
  have hv : min (max q 1) 16 = heldW q := by
    unfold heldW
    split <;> (try split) <;> omega
  have hvb := heldW_bd q
  have HS : Hid (strawI h q = -((lackN h : Int) / heldW q)) := rfl
  generalize heldW q = v at *
  go_enter Try.func59, Try.ntmps59
  go_wp2_with fail
  have hl := log_any (h % 65536 + 1) w (by omega)
  have e : ((h % 65536 + 1 : Nat) : Int) = (h : Int) % 65536 + 1 := by omega
  rw [e] at hl
  refine hl.mono ?_
  rintro e1 w1 ⟨rfl, hb⟩
  have hL := lack_cast h
  have hLl := lackN_le h
  have hle := logN_le (h % 65536 + 1)
  generalize logN (h % 65536 + 1) = L at *
  generalize lackN h = K at *
  clear e hl hv
  obtain ⟨hv0, hv1⟩ := hvb
  have hd0 : 0 ≤ (K : Int) / v := Int.ediv_nonneg (by omega) (by omega)
  have hd1 : (K : Int) / v ≤ 4294967296 := Int.le_trans (Int.ediv_le_self _ (by omega)) (by omega)
  go_wp2
  go_ret
  exact ⟨by rw [HS.out]; rfl, hb⟩

/-- The lowest 32 bits. -/
def lowN (a : Int) : Nat := (a % 4294967296).toNat

theorem lowN_lt (a : Int) : lowN a < 4294967296 := by unfold lowN; omega

theorem lowN_is (a : Int) : a % 4294967296 = (lowN a : Int) := by
  unfold lowN
  omega

/-- What a daemon draws. -/
def drawI (g : Nat) (o t q : Int) : Int := strawI (hashN g (lowN o) (lowN t)) q

theorem hashN_lt (a b c : Nat) : hashN a b c < 4294967296 := by
  unfold hashN
  exact Nat.mod_lt _ (by decide)

set_option maxRecDepth 100000 in
set_option maxHeartbeats 1000000 in
theorem draw_any (g : Nat) (o t q : Int) (w : World) (hg : g < 256) (hq0 : -9223372036854775808 ≤ q) (hq1 : q ≤ 9223372036854775807) :
    Calls Try.prog 52 #[.int .u8 g, .int .i64 o, .int .i64 t, .int .i64 q] w fun e w' => e = .returned (.int .i64 (drawI g o t q)) ∧ Below w.heap.size w w' := by
  go_enter Try.func52, Try.ntmps52
  go_wp2_with fail
  rw [lowN_is o, lowN_is t]
  refine (hash_any g (lowN o) (lowN t) _ (by omega) (lowN_lt o) (lowN_lt t)).mono ?_
  rintro e w1 ⟨rfl, rfl⟩
  go_wp2_with fail
  refine (straw_any _ q _ (hashN_lt _ _ _) hq0 hq1).mono ?_
  rintro e w2 ⟨rfl, hb⟩
  go_wp2
  go_ret
  exact ⟨rfl, hb⟩
end Go.Proofs.Ytmfgmdglpeadbaa
