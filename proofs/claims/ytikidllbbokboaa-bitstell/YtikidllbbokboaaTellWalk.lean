/- paddocklaw1.BitsTell returns true, whatever the bytes and numbers; nothing that was there is written. -/
import Derived.Test.YtikidllbbokboaaTellYes
import Derived.Test.YtikidllbbokboaaTellNo
namespace Go.Proofs.Ytikidllbbokboaa
open Go.RowKit
set_option linter.unusedVariables false

set_option maxHeartbeats 800000 in
theorem tell_walk (ao bo : Option Addr) (c d : Nat) (xs ys : List UInt8) (x : Int) (p q r : Nat) (k : Int) (o : Int) (w : World) (h : By w ao c xs) (h' : By w bo d ys)
    (hx0 : 0 ≤ x) (hx1 : x < 18446744073709551616) (hp : p < 4294967296) (hq : q < 4294967296) (hr : r < 4294967296) (ho0 : 0 ≤ o) (ho1 : o < 256) :
    Calls Try.prog 3 #[.slice ao xs.length c, .slice bo ys.length d, .int .u64 x, .int .u32 p, .int .u32 q, .int .u32 r, .int .i64 k, .int .u8 o] w fun e w' => e = .returned (.bool true) ∧ Below w.heap.size w w' := by
  have hle := h.le
  have hcap := h.cap
  have hle' := h'.le
  have hcap' := h'.cap
  by_cases h300 : 300 < xs.length
  · go_enter Try.func3, Try.ntmps3
    go_wp2_with (go_at_call 9; refine (known_any _).mono ?_; rintro e w1 ⟨rfl, hb1⟩)
    go_ret
    exact ⟨rfl, hb1⟩
  · by_cases hs300 : 300 < ys.length
    · go_enter Try.func3, Try.ntmps3
      go_wp2_with (go_at_call 9; refine (known_any _).mono ?_; rintro e w1 ⟨rfl, hb1⟩)
      go_ret
      exact ⟨rfl, hb1⟩
    · by_cases hE : heldI k ≤ xs.length
      · exact tell_yes ao bo c d xs ys x p q r k o w h h' hx0 hx1 hp hq hr ho0 ho1 h300 hs300 hE
      · exact tell_no ao bo c d xs ys x p q r k o w h h' hx0 hx1 hp hq hr ho0 ho1 h300 hs300 hE
end Go.Proofs.Ytikidllbbokboaa
