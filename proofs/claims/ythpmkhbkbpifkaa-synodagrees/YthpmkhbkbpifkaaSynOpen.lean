/- What comes in, opened: three increments, two flags. -/
import Derived.Test.YthpmkhbkbpifkaaInc9
import Derived.Test.YthpmkhbkbpifkaaBalOpen
namespace Go.Proofs.Ythpmkhbkbpifkaa
set_option linter.unusedSimpArgs false
set_option linter.unusedVariables false
set_option maxRecDepth 100000
open Go.ChangeShapes Go.WideShapes Go.ChangeAt Go.RowKit

theorem some_of3 {α : Type} {o : Option α} {l : List α} {i : Nat} (h : o = l[i]?) (hi : i < l.length) : ∃ x, o = some x := ⟨l[i], by rw [h, List.getElem?_eq_getElem hi]⟩
theorem co_arr : Try.prog.cellsOf 44 = 9 := by kernel_rfl
theorem co_flags : Try.prog.cellsOf 60 = 2 := by kernel_rfl
theorem list9 {α : Type} (l : List α) (h : l.length = 9) : ∃ a b c d e f g i j, l = [a, b, c, d, e, f, g, i, j] := by
  match l, h with
  | [a, b, c, d, e, f, g, i, j], _ => exact ⟨a, b, c, d, e, f, g, i, j, rfl⟩

theorem open_arr {H : Type} {enc : TypeId × Value → H} {W : World} {base : Nat} {v : Value} {d : DataW H} {p : List MemPlace} (ok : Value.okWide Try.prog W .any base 44 v) (h : DataW.Trod enc Try.prog W 0 (fun _ => true) true 44 v d p) :
    ∃ x y z : IncV, v = .agg (inc9 x y z) ∧ IncOk x ∧ IncOk y ∧ IncOk z := by
  have ht : Try.prog.underlying 44 = some (.array 3 23) := Try.underlying44
  obtain ⟨cs, rfl, hsz, _⟩ : ∃ cs, v = .agg cs ∧ cs.size = Try.prog.cellsOf 44 ∧ Row.okWide Try.prog W .any base 44 cs := by
    simpa [Value.okWide, ht] using ok
  rw [co_arr] at hsz
  obtain ⟨l⟩ := cs
  have hsz : l.length = 9 := hsz
  obtain ⟨fuel, hf⟩ := h
  obtain ⟨xs, m, _, _, _, hxl, hx⟩ := DataW.trod_array ht hf
  have hall : ∀ i, i < 3 → ∃ x : IncV, (l.drop (i * 3)).take 3 = (incC x).toList ∧ IncOk x := by
    intro i hi
    have h1 := hx i hi
    rw [cells_inc] at h1
    obtain ⟨y, ey⟩ := some_of3 h1 (by rw [hxl]; exact hi)
    exact reads_inc ey
  obtain ⟨x, h0, k0⟩ := hall 0 (by decide)
  obtain ⟨y, h1, k1⟩ := hall 1 (by decide)
  obtain ⟨z, h2, k2⟩ := hall 2 (by decide)
  obtain ⟨a, b, c, d, e, f, g, i, j, rfl⟩ := list9 l hsz
  simp [incC] at h0 h1 h2
  obtain ⟨rfl, rfl, rfl⟩ := h0
  obtain ⟨rfl, rfl, rfl⟩ := h1
  obtain ⟨rfl, rfl, rfl⟩ := h2
  exact ⟨x, y, z, rfl, k0, k1, k2⟩

theorem open_flags {H : Type} {enc : TypeId × Value → H} {W : World} {base : Nat} {v : Value} {d : DataW H} {p : List MemPlace} (ok : Value.okWide Try.prog W .any base 60 v) (h : DataW.Trod enc Try.prog W 0 (fun _ => true) true 60 v d p) :
    ∃ a b : Bool, v = .agg #[.bool a, .bool b] := by
  have ht : Try.prog.underlying 60 = some (.array 2 4) := Try.underlying60
  obtain ⟨cs, rfl, hsz, _⟩ : ∃ cs, v = .agg cs ∧ cs.size = Try.prog.cellsOf 60 ∧ Row.okWide Try.prog W .any base 60 cs := by
    simpa [Value.okWide, ht] using ok
  rw [co_flags] at hsz
  obtain ⟨l⟩ := cs
  have hsz : l.length = 2 := hsz
  obtain ⟨fuel, hf⟩ := h
  obtain ⟨xs, m, _, _, _, hxl, hx⟩ := DataW.trod_array ht hf
  have hall : ∀ i, i < 2 → ∃ x : Bool, (l.drop i).take 1 = [.bool x] := by
    intro i hi
    have h1 := hx i hi
    rw [cells_bool, Nat.mul_one] at h1
    obtain ⟨y, ey⟩ := some_of3 h1 (by rw [hxl]; exact hi)
    obtain ⟨x, ex, _⟩ := DataW.trod_bool Try.underlying4 ey
    exact ⟨x, ex⟩
  obtain ⟨x, h0⟩ := hall 0 (by decide)
  obtain ⟨y, h1⟩ := hall 1 (by decide)
  obtain ⟨a, b, rfl⟩ := list2 l hsz
  simp at h0 h1
  subst h0 h1
  exact ⟨x, y, rfl⟩
end Go.Proofs.Ythpmkhbkbpifkaa
