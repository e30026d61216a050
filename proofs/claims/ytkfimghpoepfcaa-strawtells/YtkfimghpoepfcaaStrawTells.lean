/- paddocklaw2.StrawTells returns true, whatever the numbers; nothing that was there is written. -/
import Derived.Test.YtkfimghpoepfcaaStrawKnown
import Derived.Test.YtkfimghpoepfcaaRefStraws
namespace Go.Proofs.Ytkfimghpoepfcaa
open Go.RowKit
set_option linter.unusedVariables false

set_option maxRecDepth 100000 in
set_option maxHeartbeats 1000000 in
theorem tells_walk (u h g : Nat) (q o t : Int) (w : World) (hu : u < 4294967296) (hh : h < 4294967296) (hg : g < 256) (hq0 : -9223372036854775808 ≤ q) (hq1 : q ≤ 9223372036854775807) :
    Calls Try.prog 3 #[.int .u32 u, .int .u32 h, .int .i64 q, .int .u8 g, .int .i64 o, .int .i64 t] w fun e w' => e = .returned (.bool true) ∧ Below w.heap.size w w' := by
  go_enter Try.func3, Try.ntmps3
  go_wp2_with (go_at_call 9; refine (known_any _).mono ?_; rintro e w1 ⟨rfl, hb⟩)
  all_goals
    go_wp2_with (first
      | (go_at_call 10; refine (log_any u _ hu).mono ?_; rintro e w2 ⟨rfl, hb2⟩; replace hb := hb.trans (hb2.mono hb.size); clear hb2)
      | (go_at_call 12; refine (straw_any h q _ hh hq0 hq1).mono ?_; rintro e w2 ⟨rfl, hb2⟩; replace hb := hb.trans (hb2.mono hb.size); clear hb2)
      | (go_at_call 14; refine (draw_any g o t q _ hg hq0 hq1).mono ?_; rintro e w2 ⟨rfl, hb2⟩; replace hb := hb.trans (hb2.mono hb.size); clear hb2)
      | (go_at_call 11; refine (reflog_any u _ hu).mono ?_; rintro e w2 ⟨rfl, rfl⟩)
      | (go_at_call 13; refine (refstraw_any h q _ hh hq0 hq1).mono ?_; rintro e w2 ⟨rfl, rfl⟩)
      | (go_at_call 15; refine (refdraw_any g o t q _ hg hq0 hq1).mono ?_; rintro e w2 ⟨rfl, rfl⟩))
    go_ret
    exact ⟨by simp, hb⟩
end Go.Proofs.Ytkfimghpoepfcaa
