/- The contracts of the document's own straws and draws over this seat's program. -/
import Derived.Test.YtlbokkbngbpmiaaRefLog
import Derived.Test.YtlbokkbngbpmiaaPackStraw
namespace Go.Proofs.Ytlbokkbngbpmiaa
open Go.RowKit
set_option linter.unusedVariables false

set_option maxRecDepth 100000 in
set_option maxHeartbeats 1000000 in
theorem refstraw_any (h : Nat) (q : Int) (w : World) (hh : h < 4294967296) (hq0 : -9223372036854775808 ≤ q) (hq1 : q ≤ 9223372036854775807) :
    Calls Try.prog 93 #[.int .u32 h, .int .i64 q] w fun e w' => e = .returned (.int .i64 (strawI h q)) ∧ w' = w := by
  have hv : max 1 (min q 16) = heldW q := by
    unfold heldW
    split <;> (try split) <;> omega
  have hvb := heldW_bd q
  have HS : Hid (strawI h q = -((lackN h : Int) / heldW q)) := rfl
  generalize heldW q = v at *
  go_enter Try.func93, Try.ntmps93
  go_wp2_with fail
  have hl := reflog_any (h % 65536 + 1) w (by omega)
  have e : ((h % 65536 + 1 : Nat) : Int) = (h : Int) % 65536 + 1 := by omega
  rw [e] at hl
  refine hl.mono ?_
  rintro e1 w1 ⟨rfl, rfl⟩
  have hL := lack_cast h
  have hLl := lackN_le h
  have hle := logN_le (h % 65536 + 1)
  generalize logN (h % 65536 + 1) = L at *
  generalize lackN h = K at *
  clear e hl hv
  obtain ⟨hv0, hv1⟩ := hvb
  have hd0 : 0 ≤ (K : Int) / v := Int.ediv_nonneg (by omega) (by omega)
  have hd1 : (K : Int) / v ≤ 4294967296 := Int.le_trans (Int.ediv_le_self _ (by omega)) (by omega)
  go_wp2
  go_ret
  exact ⟨by rw [HS.out]; rfl, rfl⟩

set_option maxRecDepth 100000 in
set_option maxHeartbeats 1000000 in
theorem refdraw_any (g : Nat) (o t q : Int) (w : World) (hg : g < 256) (hq0 : -9223372036854775808 ≤ q) (hq1 : q ≤ 9223372036854775807) :
    Calls Try.prog 88 #[.int .u8 g, .int .i64 o, .int .i64 t, .int .i64 q] w fun e w' => e = .returned (.int .i64 (drawI g o t q)) ∧ w' = w := by
  go_enter Try.func88, Try.ntmps88
  go_wp2_with fail
  rw [lowN_is o, lowN_is t]
  refine (refhash_any g (lowN o) (lowN t) _ (by omega) (lowN_lt o) (lowN_lt t)).mono ?_
  rintro e w1 ⟨rfl, rfl⟩
  go_wp2_with fail
  refine (refstraw_any _ q _ (hashN_lt _ _ _) hq0 hq1).mono ?_
  rintro e w2 ⟨rfl, rfl⟩
  go_wp2
  go_ret
  exact ⟨rfl, rfl⟩
end Go.Proofs.Ytlbokkbngbpmiaa
