/- What comes in, opened: ballots by value. -/
import Derived.Test.YthpmkhbkbpifkaaBalMem
import Derived.Test.YthpmkhbkbpifkaaPackMaps
import Derived.Test.YthpmkhbkbpifkaaPackTools
namespace Go.Proofs.Ythpmkhbkbpifkaa
set_option linter.unusedSimpArgs false
set_option linter.unusedVariables false
set_option maxRecDepth 100000
open Go.ChangeShapes Go.WideShapes Go.ChangeAt Go.RowKit

variable {H : Type} {enc : TypeId × Value → H} {W : World} {base : Nat} {spare : Nat → Bool} {held : Bool} {fuel : Nat} {y : DataW H × List MemPlace}

theorem list2 {α : Type} (l : List α) (h : l.length = 2) : ∃ a b, l = [a, b] := by
  match l, h with
  | [a, b], _ => exact ⟨a, b, rfl⟩

theorem reads_bal {cs : List Value} (h : DataW.trod enc Try.prog W base spare held fuel 31 cs = some y) : ∃ b : BalV, cs = (balC b).toList ∧ BalOk b := by
  obtain ⟨xs, n, _, _, hl, hxl, hf⟩ := DataW.trod_struct Try.underlying31 h
  rw [cells_bal] at hl
  have hxl : xs.length = 2 := hxl
  obtain ⟨c0, c1, rfl⟩ := list2 cs hl
  have h0 : DataW.trod enc Try.prog W base spare held n 29 (([c0, c1].drop 0).take (Try.prog.cellsOf 29)) = xs[0]? := hf 0 _ rfl
  have h1 : DataW.trod enc Try.prog W base spare held n 5 (([c0, c1].drop 1).take (Try.prog.cellsOf 5)) = xs[1]? := hf 1 _ rfl
  rw [cells_u32] at h0
  rw [cells_u8] at h1
  obtain ⟨y0, e0⟩ := some_of h0 (by omega)
  obtain ⟨y1, e1⟩ := some_of h1 (by omega)
  obtain ⟨x0, q0, _, w0⟩ := DataW.trod_int Try.underlying29 e0
  obtain ⟨x1, q1, _, w1⟩ := DataW.trod_int Try.underlying5 e1
  simp at q0 q1
  subst q0 q1
  have b0 := bounds_u32 w0
  have b1 := bounds_u8 w1
  obtain ⟨k, rfl⟩ := Int.eq_ofNat_of_zero_le b0.1
  obtain ⟨o, rfl⟩ := Int.eq_ofNat_of_zero_le b1.1
  exact ⟨⟨k, o⟩, rfl, ⟨show k < 4294967296 by omega, show o < 256 by omega⟩⟩

theorem open_bal {v : Value} {d : DataW H} {p : List MemPlace} (ok : Value.okWide Try.prog W .any base 31 v) (h : DataW.Trod enc Try.prog W 0 (fun _ => true) true 31 v d p) :
    ∃ b : BalV, v = .agg (balC b) ∧ BalOk b := by
  obtain ⟨cs, rfl, hsz⟩ := okWide_struct Try.underlying31 ok
  obtain ⟨fuel, hf⟩ := h
  obtain ⟨x, hx, hk⟩ := reads_bal hf
  exact ⟨x, by rw [show cs = balC x from Array.toList_inj.1 hx], hk⟩

end Go.Proofs.Ythpmkhbkbpifkaa
