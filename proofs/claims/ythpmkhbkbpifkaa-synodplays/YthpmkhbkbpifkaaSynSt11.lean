/- What comes in, opened: rows of steps of a proposer. -/
import Derived.Test.YthpmkhbkbpifkaaBalOpen
import Derived.Test.YthpmkhbkbpifkaaPackTools
namespace Go.Proofs.Ythpmkhbkbpifkaa
set_option linter.unusedSimpArgs false
set_option linter.unusedVariables false
set_option maxRecDepth 100000
open Go.ChangeShapes Go.WideShapes Go.ChangeAt Go.RowKit

structure PStV where
  what : Int
  from' : Nat
  own : Bool
  b : BalV
  acc : BalV
  x : IncV
  has : Bool
structure PStOk (s : PStV) : Prop where
  lo : -9223372036854775808 ≤ s.what
  hi : s.what ≤ 9223372036854775807
  from' : s.from' < 256
  b : BalOk s.b
  acc : BalOk s.acc
  x : IncOk s.x

def pstL (s : PStV) : List Value := [.int .i64 s.what, .int .u8 s.from', .bool s.own, .int .u32 s.b.n, .int .u8 s.b.who, .int .u32 s.acc.n, .int .u8 s.acc.who, .int .u8 s.x.kind, .int .u8 s.x.osd, .int .i64 s.x.n, .bool s.has]
def pstR (l : List PStV) : List (List Value) := l.map pstL
def pst0 : PStV := ⟨0, 0, false, bal0, bal0, inc0, false⟩

theorem cells_pst : Try.prog.cellsOf 36 = 11 := by kernel_rfl
theorem pst_size (s : PStV) : (Try.prog.info? 36).map (·.size) = some (pstL s).toArray.size := by show _ = some 11; kernel_rfl
theorem pst_zero : (Try.prog.info? 36).map (·.zero) = some (some (.agg (pstL pst0).toArray)) := by kernel_rfl
theorem pst_one (s : PStV) : (pstL s).toArray.all (·.oneCell') = true := by simp [pstL, Value.oneCell']

theorem list11 {α : Type} (l : List α) (h : l.length = 11) : ∃ a b c d e f g i j k m, l = [a, b, c, d, e, f, g, i, j, k, m] := by
  match l, h with
  | [a, b, c, d, e, f, g, i, j, k, m], _ => exact ⟨a, b, c, d, e, f, g, i, j, k, m, rfl⟩

variable {H : Type} {enc : TypeId × Value → H} {W : World} {base : Nat} {spare : Nat → Bool} {held : Bool} {fuel : Nat} {y : DataW H × List MemPlace}
theorem reads_pst {cs : List Value} (h : DataW.trod enc Try.prog W base spare held fuel 36 cs = some y) : ∃ s : PStV, cs = pstL s ∧ PStOk s := by
  obtain ⟨xs, n, _, _, hl, hxl, hf⟩ := DataW.trod_struct Try.underlying36 h
  rw [cells_pst] at hl
  have hxl : xs.length = 7 := hxl
  have h0 : DataW.trod enc Try.prog W base spare held n 3 ((cs.drop 0).take (Try.prog.cellsOf 3)) = xs[0]? := hf 0 _ rfl
  have h1 : DataW.trod enc Try.prog W base spare held n 5 ((cs.drop 1).take (Try.prog.cellsOf 5)) = xs[1]? := hf 1 _ rfl
  have h2 : DataW.trod enc Try.prog W base spare held n 4 ((cs.drop 2).take (Try.prog.cellsOf 4)) = xs[2]? := hf 2 _ rfl
  have h3 : DataW.trod enc Try.prog W base spare held n 31 ((cs.drop 3).take (Try.prog.cellsOf 31)) = xs[3]? := hf 3 _ rfl
  have h4 : DataW.trod enc Try.prog W base spare held n 31 ((cs.drop 5).take (Try.prog.cellsOf 31)) = xs[4]? := hf 4 _ rfl
  have h5 : DataW.trod enc Try.prog W base spare held n 23 ((cs.drop 7).take (Try.prog.cellsOf 23)) = xs[5]? := hf 5 _ rfl
  have h6 : DataW.trod enc Try.prog W base spare held n 4 ((cs.drop 10).take (Try.prog.cellsOf 4)) = xs[6]? := hf 6 _ rfl
  rw [show Try.prog.cellsOf 3 = 1 by kernel_rfl] at h0
  rw [cells_u8] at h1
  rw [cells_bool] at h2 h6
  rw [cells_bal] at h3 h4
  rw [cells_inc] at h5
  obtain ⟨y0, e0⟩ := some_of h0 (by omega)
  obtain ⟨y1, e1⟩ := some_of h1 (by omega)
  obtain ⟨y2, e2⟩ := some_of h2 (by omega)
  obtain ⟨y3, e3⟩ := some_of h3 (by omega)
  obtain ⟨y4, e4⟩ := some_of h4 (by omega)
  obtain ⟨y5, e5⟩ := some_of h5 (by omega)
  obtain ⟨y6, e6⟩ := some_of h6 (by omega)
  obtain ⟨x0, q0, _, w0⟩ := DataW.trod_int Try.underlying3 e0
  obtain ⟨x1, q1, _, w1⟩ := DataW.trod_int Try.underlying5 e1
  obtain ⟨x2, q2, _⟩ := DataW.trod_bool Try.underlying4 e2
  obtain ⟨b, q3, ok3⟩ := reads_bal e3
  obtain ⟨acc, q4, ok4⟩ := reads_bal e4
  obtain ⟨x, q5, ok5⟩ := reads_inc e5
  obtain ⟨x6, q6, _⟩ := DataW.trod_bool Try.underlying4 e6
  obtain ⟨a0, a1, a2, a3, a4, a5, a6, a7, a8, a9, a10, rfl⟩ := list11 cs hl
  simp [balC, incC] at q0 q1 q2 q3 q4 q5 q6
  obtain ⟨rfl, rfl⟩ := q3
  obtain ⟨rfl, rfl⟩ := q4
  obtain ⟨rfl, rfl, rfl⟩ := q5
  subst q0 q1 q2 q6
  have b0 := bounds_i64 w0
  have b1 := bounds_u8 w1
  obtain ⟨k, rfl⟩ := Int.eq_ofNat_of_zero_le b1.1
  exact ⟨⟨x0, k, x2, b, acc, x, x6⟩, rfl, ⟨b0.1, b0.2, show k < 256 by omega, ok3, ok4, ok5⟩⟩

theorem open_psts {v : Value} {d : DataW H} {p : List MemPlace} (ok : Value.okWide Try.prog W .any base 24 v) (h : DataW.Trod enc Try.prog W 0 (fun _ => true) true 24 v d p) :
    ∃ (ao : Option Addr) (c : Nat) (xs : List PStV), v = .slice ao xs.length c ∧ Sl W ao c 11 (pstR xs) ∧ ∀ x ∈ xs, PStOk x :=
  open_rows pstL PStOk 11 Try.underlying24 cells_pst (fun _ _ _ h => reads_pst h) (fun _ => rfl) ok h

theorem pst_at {w : World} {ad : Addr} {c : Nat} {l : List PStV} (h : Sl w (some ad) c 11 (pstR l)) (i : Nat) (hi : i < l.length) : ∀ j v, (pstL l[i])[j]? = some v → w.cell? ((ad.add (i * 11)).add j) = some v := by
  intro j v hj
  have hlt : j < 11 := (List.getElem?_eq_some_iff.1 hj).1
  have := h.at' ad rfl i (by rw [pstR, List.length_map]; exact hi) j hlt
  rw [Go.Deep.add_add, this, ← hj]
  simp [pstR]
theorem pst_le {w : World} {ao : Option Addr} {c : Nat} {l : List PStV} (h : Sl w ao c 11 (pstR l)) : l.length ≤ c := by
  have := h.le
  rwa [pstR, List.length_map] at this
theorem pst_b {w : World} {g : Nat} {t : TypeId} {s : PStV} (h : Has w g t (pstL s).toArray) : w.rangeAt g 3 (balC s.b).toList := h.range 3 _ fun j v hj => by
  match j, hj with
  | 0, hj => exact hj
  | 1, hj => exact hj
theorem pst_acc {w : World} {g : Nat} {t : TypeId} {s : PStV} (h : Has w g t (pstL s).toArray) : w.rangeAt g 5 (balC s.acc).toList := h.range 5 _ fun j v hj => by
  match j, hj with
  | 0, hj => exact hj
  | 1, hj => exact hj
theorem pst_x {w : World} {g : Nat} {t : TypeId} {s : PStV} (h : Has w g t (pstL s).toArray) : w.rangeAt g 7 (incC s.x).toList := h.range 7 _ fun j v hj => by
  match j, hj with
  | 0, hj => exact hj
  | 1, hj => exact hj
  | 2, hj => exact hj
theorem pst_what {w : World} {g : Nat} {t : TypeId} {s : PStV} (h : Has w g t (pstL s).toArray) : w.cell? ⟨g, 0, none⟩ = some (.int .i64 s.what) := h.cell 0
theorem pst_from {w : World} {g : Nat} {t : TypeId} {s : PStV} (h : Has w g t (pstL s).toArray) : w.cell? ⟨g, 1, none⟩ = some (.int .u8 s.from') := h.cell 1
theorem pst_own {w : World} {g : Nat} {t : TypeId} {s : PStV} (h : Has w g t (pstL s).toArray) : w.cell? ⟨g, 2, none⟩ = some (.bool s.own) := h.cell 2
theorem pst_has {w : World} {g : Nat} {t : TypeId} {s : PStV} (h : Has w g t (pstL s).toArray) : w.cell? ⟨g, 10, none⟩ = some (.bool s.has) := h.cell 10
end Go.Proofs.Ythpmkhbkbpifkaa
