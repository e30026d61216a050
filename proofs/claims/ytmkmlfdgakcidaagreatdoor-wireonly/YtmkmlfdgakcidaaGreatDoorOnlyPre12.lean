/- What a kind doesn't have: WireOnly. Written by tools/ogen12.py. -/
import Derived.Test.YtmkmlfdgakcidaaGreatDoorWireKnown
import Derived.Test.YtmkmlfdgakcidaaGreatDoorWireFew
namespace Go.Proofs.YtmkmlfdgakcidaaGreatDoor
set_option linter.unusedSimpArgs false
set_option linter.unusedVariables false
set_option maxRecDepth 100000
open Go.RowKit

theorem mset_o0 (m : MsgV) (a1 a2 a3 : Option Addr) (c1 c2 c3 : Nat) (y : Nat) : (msgC m a1 c1 a2 c2 a3 c3).setIfInBounds 4 (.int .u32 (y : Int)) = msgC ({ m with b := { m.b with n := y } }) a1 c1 a2 c2 a3 c3 := by kernel_rfl
theorem Has.mset_o0 {w : World} {g : Nat} {m : MsgV} {a1 a2 a3 : Option Addr} {c1 c2 c3 : Nat} (h : Has w g 48 (msgC m a1 c1 a2 c2 a3 c3)) (y : Nat) : Has (w.setCell ⟨g, 4, none⟩ (.int .u32 (y : Int))) g 48 (msgC ({ m with b := { m.b with n := y } }) a1 c1 a2 c2 a3 c3) := by
  have := h.set 4 (.int .u32 (y : Int))
  rw [Go.Proofs.YtmkmlfdgakcidaaGreatDoor.mset_o0] at this
  exact this
theorem mset_o1 (m : MsgV) (a1 a2 a3 : Option Addr) (c1 c2 c3 : Nat) (y : Nat) : (msgC m a1 c1 a2 c2 a3 c3).setIfInBounds 7 (.int .u8 (y : Int)) = msgC ({ m with acc := { m.acc with who := y } }) a1 c1 a2 c2 a3 c3 := by kernel_rfl
theorem Has.mset_o1 {w : World} {g : Nat} {m : MsgV} {a1 a2 a3 : Option Addr} {c1 c2 c3 : Nat} (h : Has w g 48 (msgC m a1 c1 a2 c2 a3 c3)) (y : Nat) : Has (w.setCell ⟨g, 7, none⟩ (.int .u8 (y : Int))) g 48 (msgC ({ m with acc := { m.acc with who := y } }) a1 c1 a2 c2 a3 c3) := by
  have := h.set 7 (.int .u8 (y : Int))
  rw [Go.Proofs.YtmkmlfdgakcidaaGreatDoor.mset_o1] at this
  exact this
theorem mset_o2 (m : MsgV) (a1 a2 a3 : Option Addr) (c1 c2 c3 : Nat) (y : Nat) : (msgC m a1 c1 a2 c2 a3 c3).setIfInBounds 10 (.int .u8 (y : Int)) = msgC ({ m with inc := { m.inc with osd := y } }) a1 c1 a2 c2 a3 c3 := by kernel_rfl
theorem Has.mset_o2 {w : World} {g : Nat} {m : MsgV} {a1 a2 a3 : Option Addr} {c1 c2 c3 : Nat} (h : Has w g 48 (msgC m a1 c1 a2 c2 a3 c3)) (y : Nat) : Has (w.setCell ⟨g, 10, none⟩ (.int .u8 (y : Int))) g 48 (msgC ({ m with inc := { m.inc with osd := y } }) a1 c1 a2 c2 a3 c3) := by
  have := h.set 10 (.int .u8 (y : Int))
  rw [Go.Proofs.YtmkmlfdgakcidaaGreatDoor.mset_o2] at this
  exact this
theorem mset_o3 (m : MsgV) (a1 a2 a3 : Option Addr) (c1 c2 c3 : Nat) (y : Nat) : (msgC m a1 c1 a2 c2 a3 c3).setIfInBounds 12 (.int .u8 (y : Int)) = msgC ({ m with group := y }) a1 c1 a2 c2 a3 c3 := by kernel_rfl
theorem Has.mset_o3 {w : World} {g : Nat} {m : MsgV} {a1 a2 a3 : Option Addr} {c1 c2 c3 : Nat} (h : Has w g 48 (msgC m a1 c1 a2 c2 a3 c3)) (y : Nat) : Has (w.setCell ⟨g, 12, none⟩ (.int .u8 (y : Int))) g 48 (msgC ({ m with group := y }) a1 c1 a2 c2 a3 c3) := by
  have := h.set 12 (.int .u8 (y : Int))
  rw [Go.Proofs.YtmkmlfdgakcidaaGreatDoor.mset_o3] at this
  exact this
theorem mset_o4 (m : MsgV) (a1 a2 a3 : Option Addr) (c1 c2 c3 : Nat) (y : Nat) : (msgC m a1 c1 a2 c2 a3 c3).setIfInBounds 13 (.int .u32 (y : Int)) = msgC ({ m with st := { m.st with started := y } }) a1 c1 a2 c2 a3 c3 := by kernel_rfl
theorem Has.mset_o4 {w : World} {g : Nat} {m : MsgV} {a1 a2 a3 : Option Addr} {c1 c2 c3 : Nat} (h : Has w g 48 (msgC m a1 c1 a2 c2 a3 c3)) (y : Nat) : Has (w.setCell ⟨g, 13, none⟩ (.int .u32 (y : Int))) g 48 (msgC ({ m with st := { m.st with started := y } }) a1 c1 a2 c2 a3 c3) := by
  have := h.set 13 (.int .u32 (y : Int))
  rw [Go.Proofs.YtmkmlfdgakcidaaGreatDoor.mset_o4] at this
  exact this
theorem mset_o5 (m : MsgV) (a1 a2 a3 : Option Addr) (c1 c2 c3 : Nat) (y : Nat) : (msgC m a1 c1 a2 c2 a3 c3).setIfInBounds 63 (.int .u32 (y : Int)) = msgC ({ m with diff := { m.diff with fr := y } }) a1 c1 a2 c2 a3 c3 := by kernel_rfl
theorem Has.mset_o5 {w : World} {g : Nat} {m : MsgV} {a1 a2 a3 : Option Addr} {c1 c2 c3 : Nat} (h : Has w g 48 (msgC m a1 c1 a2 c2 a3 c3)) (y : Nat) : Has (w.setCell ⟨g, 63, none⟩ (.int .u32 (y : Int))) g 48 (msgC ({ m with diff := { m.diff with fr := y } }) a1 c1 a2 c2 a3 c3) := by
  have := h.set 63 (.int .u32 (y : Int))
  rw [Go.Proofs.YtmkmlfdgakcidaaGreatDoor.mset_o5] at this
  exact this
theorem mset_o6 (m : MsgV) (a1 a2 a3 : Option Addr) (c1 c2 c3 : Nat) (y : Nat) : (msgC m a1 c1 a2 c2 a3 c3).setIfInBounds 115 (.int .u32 (y : Int)) = msgC ({ m with ent := { m.ent with n := y } }) a1 c1 a2 c2 a3 c3 := by kernel_rfl
theorem Has.mset_o6 {w : World} {g : Nat} {m : MsgV} {a1 a2 a3 : Option Addr} {c1 c2 c3 : Nat} (h : Has w g 48 (msgC m a1 c1 a2 c2 a3 c3)) (y : Nat) : Has (w.setCell ⟨g, 115, none⟩ (.int .u32 (y : Int))) g 48 (msgC ({ m with ent := { m.ent with n := y } }) a1 c1 a2 c2 a3 c3) := by
  have := h.set 115 (.int .u32 (y : Int))
  rw [Go.Proofs.YtmkmlfdgakcidaaGreatDoor.mset_o6] at this
  exact this
theorem mset_o7 (m : MsgV) (a1 a2 a3 : Option Addr) (c1 c2 c3 : Nat) (y : Nat) : (msgC m a1 c1 a2 c2 a3 c3).setIfInBounds 129 (.int .u8 (y : Int)) = msgC ({ m with r := { m.r with code := y } }) a1 c1 a2 c2 a3 c3 := by kernel_rfl
theorem Has.mset_o7 {w : World} {g : Nat} {m : MsgV} {a1 a2 a3 : Option Addr} {c1 c2 c3 : Nat} (h : Has w g 48 (msgC m a1 c1 a2 c2 a3 c3)) (y : Nat) : Has (w.setCell ⟨g, 129, none⟩ (.int .u8 (y : Int))) g 48 (msgC ({ m with r := { m.r with code := y } }) a1 c1 a2 c2 a3 c3) := by
  have := h.set 129 (.int .u8 (y : Int))
  rw [Go.Proofs.YtmkmlfdgakcidaaGreatDoor.mset_o7] at this
  exact this
end Go.Proofs.YtmkmlfdgakcidaaGreatDoor
