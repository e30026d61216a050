/- What comes in, opened: operations by value and in rows. -/
import Derived.Test.YtphlfepgaghhhaaObjSpec
import Derived.Test.YtphlfepgaghhhaaEqObj
import Derived.Carry
import Derived.OpenShut
import Derived.ProofKit
import Derived.ShutString
namespace Go.Proofs.Ytphlfepgaghhhaa
set_option linter.unusedSimpArgs false
set_option linter.unusedVariables false
set_option maxRecDepth 100000
open Go.ChangeShapes Go.WideShapes Go.ChangeAt Go.RowKit

section
variable {H : Type} {enc : TypeId × Value → H} {W : World} {base : Nat} {spare : Nat → Bool} {held : Bool} {fuel : Nat} {y : DataW H × List MemPlace}

theorem co_op : Try.prog.cellsOf 35 = 6 := by kernel_rfl

theorem some_of' {α : Type} {l : List α} {i : Nat} {o : Option α} (h : o = l[i]?) (hi : i < l.length) : ∃ x, o = some x := ⟨l[i], by rw [h, List.getElem?_eq_getElem hi]⟩
theorem list6 {α : Type} (l : List α) (h : l.length = 6) : ∃ a b c d e f, l = [a, b, c, d, e, f] := by
  match l, h with
  | [a, b, c, d, e, f], _ => exact ⟨a, b, c, d, e, f, rfl⟩

theorem str_of (s : ByteArray) : (.string s : Value) = strV s.data.toList := by
  unfold strV mkS
  congr

theorem reads_op {cs : List Value} (h : DataW.trod enc Try.prog W base spare held fuel 35 cs = some y) : ∃ o : OpV, cs = opL o ∧ OpOk o := by
  obtain ⟨xs, n, _, _, hl, hxl, hf⟩ := DataW.trod_struct Try.underlying35 h
  rw [co_op] at hl
  have hxl : xs.length = 6 := hxl
  obtain ⟨c0, c1, c2, c3, c4, c5, rfl⟩ := list6 cs hl
  have h0 : DataW.trod enc Try.prog W base spare held n 5 (([c0, c1, c2, c3, c4, c5].drop 0).take (Try.prog.cellsOf 5)) = xs[0]? := hf 0 _ rfl
  have h1 : DataW.trod enc Try.prog W base spare held n 22 (([c0, c1, c2, c3, c4, c5].drop 1).take (Try.prog.cellsOf 22)) = xs[1]? := hf 1 _ rfl
  have h2 : DataW.trod enc Try.prog W base spare held n 5 (([c0, c1, c2, c3, c4, c5].drop 2).take (Try.prog.cellsOf 5)) = xs[2]? := hf 2 _ rfl
  have h3 : DataW.trod enc Try.prog W base spare held n 5 (([c0, c1, c2, c3, c4, c5].drop 3).take (Try.prog.cellsOf 5)) = xs[3]? := hf 3 _ rfl
  have h4 : DataW.trod enc Try.prog W base spare held n 5 (([c0, c1, c2, c3, c4, c5].drop 4).take (Try.prog.cellsOf 5)) = xs[4]? := hf 4 _ rfl
  have h5 : DataW.trod enc Try.prog W base spare held n 9 (([c0, c1, c2, c3, c4, c5].drop 5).take (Try.prog.cellsOf 9)) = xs[5]? := hf 5 _ rfl
  rw [co_u8] at h0 h2 h3 h4
  rw [co_u32] at h1
  rw [co_string] at h5
  obtain ⟨y0, e0⟩ := some_of' h0 (by omega)
  obtain ⟨y1, e1⟩ := some_of' h1 (by omega)
  obtain ⟨y2, e2⟩ := some_of' h2 (by omega)
  obtain ⟨y3, e3⟩ := some_of' h3 (by omega)
  obtain ⟨y4, e4⟩ := some_of' h4 (by omega)
  obtain ⟨y5, e5⟩ := some_of' h5 (by omega)
  obtain ⟨x0, q0, _, w0⟩ := DataW.trod_int Try.underlying5 e0
  obtain ⟨x1, q1, _, w1⟩ := DataW.trod_int Try.underlying22 e1
  obtain ⟨x2, q2, _, w2⟩ := DataW.trod_int Try.underlying5 e2
  obtain ⟨x3, q3, _, w3⟩ := DataW.trod_int Try.underlying5 e3
  obtain ⟨x4, q4, _, w4⟩ := DataW.trod_int Try.underlying5 e4
  obtain ⟨s, q5, _, hs⟩ := DataW.trod_string Try.underlying9 e5
  simp at q0 q1 q2 q3 q4 q5
  subst q0 q1 q2 q3 q4 q5
  have b0 := bounds_u8 w0
  have b1 := bounds_u32 w1
  have b2 := bounds_u8 w2
  have b3 := bounds_u8 w3
  have b4 := bounds_u8 w4
  obtain ⟨k0, rfl⟩ := Int.eq_ofNat_of_zero_le b0.1
  obtain ⟨k1, rfl⟩ := Int.eq_ofNat_of_zero_le b1.1
  obtain ⟨k2, rfl⟩ := Int.eq_ofNat_of_zero_le b2.1
  obtain ⟨k3, rfl⟩ := Int.eq_ofNat_of_zero_le b3.1
  obtain ⟨k4, rfl⟩ := Int.eq_ofNat_of_zero_le b4.1
  have hsz : s.data.toList.length ≤ 9223372036854775807 := by
    rw [Array.length_toList]
    exact hs
  exact ⟨⟨k0, k1, k2, k3, k4, s.data.toList⟩, by unfold opL; rw [← str_of], ⟨show k0 < 256 by omega, show k1 < 4294967296 by omega, show k2 < 256 by omega, show k3 < 256 by omega, show k4 < 256 by omega, hsz⟩⟩
end

theorem open_op {H : Type} {enc : TypeId × Value → H} {W : World} {base : Nat} {v : Value} {d : DataW H} {p : List MemPlace} (ok : Value.okWide Try.prog W .any base 35 v) (h : DataW.Trod enc Try.prog W 0 (fun _ => true) true 35 v d p) : ∃ o : OpV, v = .agg (opC o) ∧ OpOk o := by
  obtain ⟨cs, rfl, hsz⟩ := okWide_struct Try.underlying35 ok
  obtain ⟨fuel, hf⟩ := h
  obtain ⟨o, hx, hk⟩ := reads_op hf
  exact ⟨o, by rw [show cs = opC o from Array.toList_inj.1 hx], hk⟩

theorem open_ops {H : Type} {enc : TypeId × Value → H} {W : World} {base : Nat} {v : Value} {d : DataW H} {p : List MemPlace} (ok : Value.okWide Try.prog W .any base 68 v) (h : DataW.Trod enc Try.prog W 0 (fun _ => true) true 68 v d p) :
    ∃ ao c l, v = .slice ao l.length c ∧ Sl W ao c 6 (opR l) ∧ ∀ o ∈ l, OpOk o :=
  open_rows opL OpOk 6 Try.underlying68 co_op (fun _ _ _ h => reads_op h) (fun _ => rfl) ok h
end Go.Proofs.Ytphlfepgaghhhaa
