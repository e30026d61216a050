/- What comes in, opened: increments and maps by value. -/
import Derived.Test.YtmfgmdglpeadbaaMapMem
import Derived.Test.YtmfgmdglpeadbaaSlice
import Derived.Carry
import Derived.OpenShut
import Derived.ProofKit
import Derived.Lib.SmallJoins
namespace Go.Proofs.Ytmfgmdglpeadbaa
set_option linter.unusedSimpArgs false
set_option linter.unusedVariables false
set_option maxRecDepth 100000
open Go.ChangeShapes Go.WideShapes Go.ChangeAt Go.RowKit

variable {H : Type} {enc : TypeId × Value → H} {W : World} {base : Nat} {spare : Nat → Bool} {held : Bool} {fuel : Nat} {y : DataW H × List MemPlace}

theorem cells_u8 : Try.prog.cellsOf 5 = 1 := by kernel_rfl
theorem cells_int : Try.prog.cellsOf 3 = 1 := by kernel_rfl
theorem cells_bool : Try.prog.cellsOf 4 = 1 := by kernel_rfl
theorem cells_u32 : Try.prog.cellsOf 23 = 1 := by kernel_rfl
theorem cells_osd : Try.prog.cellsOf 41 = 3 := by kernel_rfl
theorem cells_osds : Try.prog.cellsOf 42 = 15 := by kernel_rfl
theorem cells_map : Try.prog.cellsOf 44 = 16 := by kernel_rfl
theorem cells_inc : Try.prog.cellsOf 32 = 3 := by kernel_rfl

theorem list3 {α : Type} (l : List α) (h : l.length = 3) : ∃ a b c, l = [a, b, c] := by
  match l, h with
  | [a, b, c], _ => exact ⟨a, b, c, rfl⟩

theorem some_of {α : Type} {l : List α} {i : Nat} {o : Option α} (h : o = l[i]?) (hi : i < l.length) : ∃ x, o = some x := ⟨l[i], by rw [h, List.getElem?_eq_getElem hi]⟩

theorem reads_inc {cs : List Value} (h : DataW.trod enc Try.prog W base spare held fuel 32 cs = some y) : ∃ x : IncV, cs = (incC x).toList ∧ IncOk x := by
  obtain ⟨xs, n, _, _, hl, hxl, hf⟩ := DataW.trod_struct Try.underlying32 h
  rw [cells_inc] at hl
  have hxl : xs.length = 3 := hxl
  obtain ⟨c0, c1, c2, rfl⟩ := list3 cs hl
  have h0 : DataW.trod enc Try.prog W base spare held n 5 (([c0, c1, c2].drop 0).take (Try.prog.cellsOf 5)) = xs[0]? := hf 0 _ rfl
  have h1 : DataW.trod enc Try.prog W base spare held n 5 (([c0, c1, c2].drop 1).take (Try.prog.cellsOf 5)) = xs[1]? := hf 1 _ rfl
  have h2 : DataW.trod enc Try.prog W base spare held n 3 (([c0, c1, c2].drop 2).take (Try.prog.cellsOf 3)) = xs[2]? := hf 2 _ rfl
  rw [cells_u8] at h0 h1
  rw [cells_int] at h2
  obtain ⟨y0, e0⟩ := some_of h0 (by omega)
  obtain ⟨y1, e1⟩ := some_of h1 (by omega)
  obtain ⟨y2, e2⟩ := some_of h2 (by omega)
  obtain ⟨x0, q0, _, w0⟩ := DataW.trod_int Try.underlying5 e0
  obtain ⟨x1, q1, _, w1⟩ := DataW.trod_int Try.underlying5 e1
  obtain ⟨x2, q2, _, w2⟩ := DataW.trod_int Try.underlying3 e2
  simp at q0 q1 q2
  subst q0 q1 q2
  have b0 := bounds_u8 w0
  have b1 := bounds_u8 w1
  have b2 := bounds_i64 w2
  obtain ⟨k, rfl⟩ := Int.eq_ofNat_of_zero_le b0.1
  obtain ⟨o, rfl⟩ := Int.eq_ofNat_of_zero_le b1.1
  exact ⟨⟨k, o, x2⟩, rfl, ⟨show k < 256 by omega, show o < 256 by omega, b2.1, b2.2⟩⟩

/-- The numbers of a daemon fit their kinds. -/
def OsdFit (o : OsdV) : Prop := (-9223372036854775808 ≤ o.wt ∧ o.wt ≤ 9223372036854775807) ∧ o.host < 256

theorem reads_osd {cs : List Value} (h : DataW.trod enc Try.prog W base spare held fuel 41 cs = some y) : ∃ o : OsdV, cs = osdL o ∧ OsdFit o := by
  obtain ⟨xs, n, _, _, hl, hxl, hf⟩ := DataW.trod_struct Try.underlying41 h
  rw [cells_osd] at hl
  have hxl : xs.length = 3 := hxl
  obtain ⟨c0, c1, c2, rfl⟩ := list3 cs hl
  have h0 : DataW.trod enc Try.prog W base spare held n 4 (([c0, c1, c2].drop 0).take (Try.prog.cellsOf 4)) = xs[0]? := hf 0 _ rfl
  have h1 : DataW.trod enc Try.prog W base spare held n 3 (([c0, c1, c2].drop 1).take (Try.prog.cellsOf 3)) = xs[1]? := hf 1 _ rfl
  have h2 : DataW.trod enc Try.prog W base spare held n 5 (([c0, c1, c2].drop 2).take (Try.prog.cellsOf 5)) = xs[2]? := hf 2 _ rfl
  rw [cells_bool] at h0
  rw [cells_int] at h1
  rw [cells_u8] at h2
  obtain ⟨y0, e0⟩ := some_of h0 (by omega)
  obtain ⟨y1, e1⟩ := some_of h1 (by omega)
  obtain ⟨y2, e2⟩ := some_of h2 (by omega)
  obtain ⟨x0, q0, _⟩ := DataW.trod_bool Try.underlying4 e0
  obtain ⟨x1, q1, _, w1⟩ := DataW.trod_int Try.underlying3 e1
  obtain ⟨x2, q2, _, w2⟩ := DataW.trod_int Try.underlying5 e2
  simp at q0 q1 q2
  subst q0 q1 q2
  have b1 := bounds_i64 w1
  have b2 := bounds_u8 w2
  obtain ⟨k, rfl⟩ := Int.eq_ofNat_of_zero_le b2.1
  exact ⟨⟨x0, x1, k⟩, rfl, b1, show k < 256 by omega⟩

theorem take_cut {α : Type} (l : List α) (k n : Nat) : l.drop k = (l.drop k).take n ++ l.drop (k + n) := by
  rw [← List.drop_drop, List.take_append_drop]

theorem reads_map {cs : List Value} (h : DataW.trod enc Try.prog W base spare held fuel 44 cs = some y) : ∃ m : MapV, cs = mapL m ∧ MapOk m := by
  obtain ⟨xs, n, _, _, hl, hxl, hf⟩ := DataW.trod_struct Try.underlying44 h
  rw [cells_map] at hl
  have hxl : xs.length = 2 := hxl
  have h0 : DataW.trod enc Try.prog W base spare held n 23 ((cs.drop 0).take (Try.prog.cellsOf 23)) = xs[0]? := hf 0 _ rfl
  have h1 : DataW.trod enc Try.prog W base spare held n 42 ((cs.drop 1).take (Try.prog.cellsOf 42)) = xs[1]? := hf 1 _ rfl
  rw [cells_u32] at h0
  rw [cells_osds] at h1
  obtain ⟨y0, e0⟩ := some_of h0 (by omega)
  obtain ⟨y1, e1⟩ := some_of h1 (by omega)
  obtain ⟨x0, q0, _, w0⟩ := DataW.trod_int Try.underlying23 e0
  obtain ⟨zs, m, _, _, hl2, hzl, hz⟩ := DataW.trod_array Try.underlying42 e1
  have hall : ∀ i : Fin 5, ∃ o : OsdV, (((cs.drop 1).take 15).drop (i.val * 3)).take 3 = osdL o ∧ OsdFit o := by
    intro i
    have hi := hz i.val i.isLt
    rw [cells_osd] at hi
    obtain ⟨y, ey⟩ := some_of hi (by rw [hzl]; exact i.isLt)
    exact reads_osd ey
  have b0 := bounds_u32 w0
  obtain ⟨e, rfl⟩ := Int.eq_ofNat_of_zero_le b0.1
  refine ⟨⟨e, fun i => (hall i).choose⟩, ?_, ⟨show e < 4294967296 by omega, fun i => (hall i).choose_spec.2.1, fun i => (hall i).choose_spec.2.2⟩⟩
  have s0 := (hall 0).choose_spec.1
  have s1 := (hall 1).choose_spec.1
  have s2 := (hall 2).choose_spec.1
  have s3 := (hall 3).choose_spec.1
  have s4 := (hall 4).choose_spec.1
  unfold mapL
  show cs = .int .u32 e :: (osdL (hall 0).choose ++ (osdL (hall 1).choose ++ (osdL (hall 2).choose ++ (osdL (hall 3).choose ++ osdL (hall 4).choose))))
  rw [← s0, ← s1, ← s2, ← s3, ← s4]
  have q0 : cs.take 1 = [.int .u32 e] := q0
  have hc : cs = cs.take 1 ++ cs.drop 1 := (List.take_append_drop 1 cs).symm
  have h15 : (cs.drop 1).take 15 = cs.drop 1 := List.take_of_length_le (by rw [List.length_drop]; omega)
  rw [h15]
  generalize hd : cs.drop 1 = ds at *
  have hdl : ds.length = 15 := by rw [← hd, List.length_drop]; omega
  rw [hc, q0]
  show _ :: ds = _ :: _
  congr 1
  have a0 := take_cut ds 0 3
  have a1 := take_cut ds 3 3
  have a2 := take_cut ds 6 3
  have a3 := take_cut ds 9 3
  have a4 : (ds.drop 12).take 3 = ds.drop 12 := List.take_of_length_le (by rw [List.length_drop]; omega)
  show ds = (ds.drop 0).take 3 ++ ((ds.drop 3).take 3 ++ ((ds.drop 6).take 3 ++ ((ds.drop 9).take 3 ++ (ds.drop 12).take 3)))
  rw [a4, ← a3, ← a2, ← a1, ← a0]
  rfl

theorem open_map {v : Value} {d : DataW H} {p : List MemPlace} (ok : Value.okWide Try.prog W .any base 44 v) (h : DataW.Trod enc Try.prog W 0 (fun _ => true) true 44 v d p) :
    ∃ m : MapV, v = .agg (mapC m) ∧ MapOk m := by
  obtain ⟨cs, rfl, hsz⟩ := okWide_struct Try.underlying44 ok
  obtain ⟨fuel, hf⟩ := h
  obtain ⟨m, hx, hk⟩ := reads_map hf
  have hx : cs.toList = mapL m := hx
  exact ⟨m, by rw [show cs = mapC m from Array.toList_inj.1 (by rw [hx]; rfl)], hk⟩

theorem open_inc {v : Value} {d : DataW H} {p : List MemPlace} (ok : Value.okWide Try.prog W .any base 32 v) (h : DataW.Trod enc Try.prog W 0 (fun _ => true) true 32 v d p) :
    ∃ x : IncV, v = .agg (incC x) ∧ IncOk x := by
  obtain ⟨cs, rfl, hsz⟩ := okWide_struct Try.underlying32 ok
  obtain ⟨fuel, hf⟩ := h
  obtain ⟨x, hx, hk⟩ := reads_inc hf
  exact ⟨x, by rw [show cs = incC x from Array.toList_inj.1 hx], hk⟩

theorem open_incs {v : Value} {d : DataW H} {p : List MemPlace} (ok : Value.okWide Try.prog W .any base 28 v) (h : DataW.Trod enc Try.prog W 0 (fun _ => true) true 28 v d p) :
    ∃ (ao : Option Addr) (c : Nat) (xs : List IncV), v = .slice ao xs.length c ∧ Sl W ao c 3 (xs.map fun x => (incC x).toList) ∧ ∀ x ∈ xs, IncOk x :=
  open_rows (fun x => (incC x).toList) IncOk 3 Try.underlying28 cells_inc (fun _ _ _ h => reads_inc h) (fun _ => rfl) ok h
end Go.Proofs.Ytmfgmdglpeadbaa
