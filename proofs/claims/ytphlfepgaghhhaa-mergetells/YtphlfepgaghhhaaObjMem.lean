/- Bases, operations, objects, results in variables: the laws of Mem at this seat's types. -/
import Derived.Test.YtphlfepgaghhhaaChecked
import Derived.Test.YtphlfepgaghhhaaObjMath
import Derived.Test.YtphlfepgaghhhaaMem
import Derived.Test.YtphlfepgaghhhaaPart
import Derived.WalkKit
import Derived.WalkSpells
import Derived.WalkLawsBesides
namespace Go.Proofs.Ytphlfepgaghhhaa
set_option linter.unusedSimpArgs false
set_option linter.unusedVariables false
set_option maxRecDepth 100000
open Go.RowKit

theorem retB {a b : Bool} (h : a = b) : Ending.returned (Value.bool a) = .returned (.bool b) := by rw [h]

theorem base_size (b : BaseV) : (Try.prog.info? 33).map (·.size) = some (baseC b).size := by show _ = some 39; kernel_rfl
theorem op_size (o : OpV) : (Try.prog.info? 35).map (·.size) = some (opC o).size := by show _ = some 6; kernel_rfl
theorem obj_size (x : ObjV) : (Try.prog.info? 25).map (·.size) = some (objC x).size := by show _ = some 5; kernel_rfl
theorem res_size (r : ResV) : (Try.prog.info? 28).map (·.size) = some (resC r).size := by show _ = some 2; kernel_rfl
theorem base_zero : (Try.prog.info? 33).map (·.zero) = some (some (.agg (baseC base0))) := by kernel_rfl
theorem res_zero : (Try.prog.info? 28).map (·.zero) = some (some (.agg (resC res0))) := by kernel_rfl
theorem obj_zero : (Try.prog.info? 25).map (·.zero) = some (some (.agg (objC obj0))) := by kernel_rfl
theorem base_built : Try.prog.built 33 [] = some (baseC base0) := by kernel_rfl
theorem res_built : Try.prog.built 28 [] = some (resC res0) := by kernel_rfl
theorem obj_built : Try.prog.built 25 [] = some (objC obj0) := by kernel_rfl

theorem str_one (l : List UInt8) : (strV l).oneCell' = true := rfl
theorem res_one (r : ResV) : (resC r).all (·.oneCell') = true := by simp [resC, resL, strV, Value.oneCell']
theorem op_one (o : OpV) : (opC o).all (·.oneCell') = true := by simp [opC, opL, strV, Value.oneCell']
theorem objL_one (x : ObjV) : ∀ u ∈ objL x, u.oneCell' = true := by
  intro u hu
  simp [objL, strV] at hu
  rcases hu with rfl | rfl | rfl | rfl | rfl <;> rfl
theorem lastL_one (l : LastV) : ∀ u ∈ lastL l, u.oneCell' = true := by
  intro u hu
  simp [lastL, resL, strV] at hu
  rcases hu with rfl | rfl | rfl <;> rfl
theorem obj_one (x : ObjV) : (objC x).all (·.oneCell') = true := all_oneCell_toArray (objL_one x)
theorem last_one (l : LastV) : (lastC l).all (·.oneCell') = true := all_oneCell_toArray (lastL_one l)
theorem base_one (b : BaseV) : (baseC b).all (·.oneCell') = true := by
  refine all_oneCell_toArray ?_
  intro u hu
  unfold baseL objsL lastsL at hu
  simp only [List.mem_append] at hu
  rcases hu with (h | h | h | h | h | h) | (h | h | h)
  · exact objL_one _ u h
  · exact objL_one _ u h
  · exact objL_one _ u h
  · exact objL_one _ u h
  · exact objL_one _ u h
  · exact objL_one _ u h
  · exact lastL_one _ u h
  · exact lastL_one _ u h
  · exact lastL_one _ u h

/-- Object i of a base, its cell k. -/
theorem baseC_obj (b : BaseV) (i : Fin 6) (k : Nat) (v : Value) (h : (objL (b.obj i))[k]? = some v) : (baseC b)[i.val * 5 + k]? = some v := by
  have hk : k < 5 := (List.getElem?_eq_some_iff.1 h).1
  unfold baseC
  rw [List.getElem?_toArray, ← h]
  match i, k, hk with
  | 0, 0, _ => rfl
  | 0, 1, _ => rfl
  | 0, 2, _ => rfl
  | 0, 3, _ => rfl
  | 0, 4, _ => rfl
  | 1, 0, _ => rfl
  | 1, 1, _ => rfl
  | 1, 2, _ => rfl
  | 1, 3, _ => rfl
  | 1, 4, _ => rfl
  | 2, 0, _ => rfl
  | 2, 1, _ => rfl
  | 2, 2, _ => rfl
  | 2, 3, _ => rfl
  | 2, 4, _ => rfl
  | 3, 0, _ => rfl
  | 3, 1, _ => rfl
  | 3, 2, _ => rfl
  | 3, 3, _ => rfl
  | 3, 4, _ => rfl
  | 4, 0, _ => rfl
  | 4, 1, _ => rfl
  | 4, 2, _ => rfl
  | 4, 3, _ => rfl
  | 4, 4, _ => rfl
  | 5, 0, _ => rfl
  | 5, 1, _ => rfl
  | 5, 2, _ => rfl
  | 5, 3, _ => rfl
  | 5, 4, _ => rfl

theorem baseC_last (b : BaseV) (i : Fin 3) (k : Nat) (v : Value) (h : (lastL (b.last i))[k]? = some v) : (baseC b)[30 + i.val * 3 + k]? = some v := by
  have hk : k < 3 := (List.getElem?_eq_some_iff.1 h).1
  unfold baseC
  rw [List.getElem?_toArray, ← h]
  match i, k, hk with
  | 0, 0, _ => rfl
  | 0, 1, _ => rfl
  | 0, 2, _ => rfl
  | 1, 0, _ => rfl
  | 1, 1, _ => rfl
  | 1, 2, _ => rfl
  | 2, 0, _ => rfl
  | 2, 1, _ => rfl
  | 2, 2, _ => rfl

theorem Has.obj_at {w : World} {g : Nat} {b : BaseV} (h : Has w g 33 (baseC b)) (i : Fin 6) : w.rangeAt g (i.val * 5) (objL (b.obj i)) := h.range _ _ fun j v hj => baseC_obj b i j v hj
theorem Has.last_at {w : World} {g : Nat} {b : BaseV} (h : Has w g 33 (baseC b)) (i : Fin 3) : w.rangeAt g (30 + i.val * 3) (lastL (b.last i)) := h.range _ _ fun j v hj => baseC_last b i j v hj

theorem Has.there {w : World} {g : Nat} {t : TypeId} {c : Array Value} (h : Has w g t c) (o n : Nat) (hn : o + n ≤ c.size) : w.there g o n := fun j hj => by
  refine ⟨?_, h.free _⟩
  rw [h.cell, Array.getElem?_eq_getElem (by omega)]
  rfl

theorem Has.set5 {w : World} {g : Nat} {t : TypeId} {c : Array Value} (h : Has w g t c) (o : Nat) (v0 v1 v2 v3 v4 : Value) :
    Has (w.setCells g o [v0, v1, v2, v3, v4]) g t (((((c.setIfInBounds o v0).setIfInBounds (o + 1) v1).setIfInBounds (o + 1 + 1) v2).setIfInBounds (o + 1 + 1 + 1) v3).setIfInBounds (o + 1 + 1 + 1 + 1) v4) :=
  ((((h.set o v0).set (o + 1) v1).set (o + 1 + 1) v2).set (o + 1 + 1 + 1) v3).set (o + 1 + 1 + 1 + 1) v4
theorem Has.set3 {w : World} {g : Nat} {t : TypeId} {c : Array Value} (h : Has w g t c) (o : Nat) (v0 v1 v2 : Value) :
    Has (w.setCells g o [v0, v1, v2]) g t (((c.setIfInBounds o v0).setIfInBounds (o + 1) v1).setIfInBounds (o + 1 + 1) v2) :=
  ((h.set o v0).set (o + 1) v1).set (o + 1 + 1) v2

theorem setObj_n (b : BaseV) (x : ObjV) (i : Fin 6) (n : Nat) (hn : i.val = n) (h : (((((baseC b).setIfInBounds (n * 5) (.bool x.there)).setIfInBounds (n * 5 + 1) (strV x.data)).setIfInBounds (n * 5 + 1 + 1) (strV x.a0)).setIfInBounds (n * 5 + 1 + 1 + 1) (strV x.a1)).setIfInBounds (n * 5 + 1 + 1 + 1 + 1) (strV x.a2) = baseC (b.setObj i x)) :
    (((((baseC b).setIfInBounds (i.val * 5) (.bool x.there)).setIfInBounds (i.val * 5 + 1) (strV x.data)).setIfInBounds (i.val * 5 + 1 + 1) (strV x.a0)).setIfInBounds (i.val * 5 + 1 + 1 + 1) (strV x.a1)).setIfInBounds (i.val * 5 + 1 + 1 + 1 + 1) (strV x.a2) = baseC (b.setObj i x) := by
  rw [hn]
  exact h
theorem setObj_cells (b : BaseV) (i : Fin 6) (x : ObjV) : (((((baseC b).setIfInBounds (i.val * 5) (.bool x.there)).setIfInBounds (i.val * 5 + 1) (strV x.data)).setIfInBounds (i.val * 5 + 1 + 1) (strV x.a0)).setIfInBounds (i.val * 5 + 1 + 1 + 1) (strV x.a1)).setIfInBounds (i.val * 5 + 1 + 1 + 1 + 1) (strV x.a2) = baseC (b.setObj i x) := by
  match i with
  | 0 => exact setObj_n b x 0 0 rfl (by kernel_rfl)
  | 1 => exact setObj_n b x 1 1 rfl (by kernel_rfl)
  | 2 => exact setObj_n b x 2 2 rfl (by kernel_rfl)
  | 3 => exact setObj_n b x 3 3 rfl (by kernel_rfl)
  | 4 => exact setObj_n b x 4 4 rfl (by kernel_rfl)
  | 5 => exact setObj_n b x 5 5 rfl (by kernel_rfl)

theorem setLast_n (b : BaseV) (l : LastV) (i : Fin 3) (n : Nat) (hn : i.val = n) (h : (((baseC b).setIfInBounds (30 + n * 3) (.int .u32 (l.seq : Int))).setIfInBounds (30 + n * 3 + 1) (.int .u8 (l.r.code : Int))).setIfInBounds (30 + n * 3 + 1 + 1) (strV l.r.data) = baseC (b.setLast i l)) :
    (((baseC b).setIfInBounds (30 + i.val * 3) (.int .u32 (l.seq : Int))).setIfInBounds (30 + i.val * 3 + 1) (.int .u8 (l.r.code : Int))).setIfInBounds (30 + i.val * 3 + 1 + 1) (strV l.r.data) = baseC (b.setLast i l) := by
  rw [hn]
  exact h
theorem setLast_cells (b : BaseV) (i : Fin 3) (l : LastV) : (((baseC b).setIfInBounds (30 + i.val * 3) (.int .u32 (l.seq : Int))).setIfInBounds (30 + i.val * 3 + 1) (.int .u8 (l.r.code : Int))).setIfInBounds (30 + i.val * 3 + 1 + 1) (strV l.r.data) = baseC (b.setLast i l) := by
  match i with
  | 0 => exact setLast_n b l 0 0 rfl (by kernel_rfl)
  | 1 => exact setLast_n b l 1 1 rfl (by kernel_rfl)
  | 2 => exact setLast_n b l 2 2 rfl (by kernel_rfl)

theorem Has.setObj {w : World} {g : Nat} {b : BaseV} (h : Has w g 33 (baseC b)) (i : Fin 6) (x : ObjV) : Has (w.setCells g (i.val * 5) (objL x)) g 33 (baseC (b.setObj i x)) := by
  have := h.set5 (i.val * 5) (.bool x.there) (strV x.data) (strV x.a0) (strV x.a1) (strV x.a2)
  rw [setObj_cells] at this
  exact this

theorem Has.setLast {w : World} {g : Nat} {b : BaseV} (h : Has w g 33 (baseC b)) (i : Fin 3) (l : LastV) : Has (w.setCells g (30 + i.val * 3) (lastL l)) g 33 (baseC (b.setLast i l)) := by
  have := h.set3 (30 + i.val * 3) (.int .u32 (l.seq : Int)) (.int .u8 (l.r.code : Int)) (strV l.r.data)
  rw [setLast_cells] at this
  exact this

theorem Has.cells_other {w : World} {g k : Nat} {t : TypeId} {c : Array Value} (h : Has w g t c) (hk : g ≠ k) : ∀ (vs : List Value) (o : Nat), Has (w.setCells k o vs) g t c := by
  intro vs
  induction vs generalizing w with
  | nil => intro o; exact h
  | cons v vs ih => intro o; exact ih (h.set_other (a := ⟨k, o, none⟩) hk v) (o + 1)

theorem below_setCells {B : Nat} {w W : World} (h : Below B w W) {k : Nat} (hk : B ≤ k) : ∀ (vs : List Value) (o : Nat), Below B w (W.setCells k o vs) := by
  intro vs
  induction vs generalizing W with
  | nil => intro o; exact h
  | cons v vs ih => intro o; exact ih (h.setCell (show B ≤ (⟨k, o, none⟩ : Addr).block from hk) v) (o + 1)

section laws
variable {P : Program} {ops : Array Oper} {rest : List Oper} {o : Oper} {a : Act} {w : World} {Q : Exit → Act → World → Prop}

/-- A function's end that hands back two structs. -/
theorem ret_has_two {fn : Func} {R : Ending → World → Prop} {p q : Tmp} {ty uy : TypeId} (h : fn.results = #[.cell p ty, .cell q uy]) (g k : Nat) (hp : a.tmps.getD p undef = .pointer (some ⟨g, 0, none⟩)) (hq : a.tmps.getD q undef = .pointer (some ⟨k, 0, none⟩))
    (t u : TypeId) (c e : Array Value) (d f : TypeDesc) (hu : P.underlying ty = some d) (hd : (match d with | .struct _ | .array _ _ => true | _ => false) = true) (hi : (P.info? ty).map (·.size) = some c.size)
    (hv : P.underlying uy = some f) (hf : (match f with | .struct _ | .array _ _ => true | _ => false) = true) (hj : (P.info? uy).map (·.size) = some e.size)
    (hg : Has w g t c) (hk : Has w k u e) (hdf : a.defers = []) (hR : R (.returned (.tuple #[.agg c, .agg e])) w) : bodyPost P fn R .ret a w := by
  refine bodyPost_ret ?_ hdf hR
  have hp' : a.tmps[p]?.getD undef = .pointer (some ⟨g, 0, none⟩) := by simpa using hp
  have hq' : a.tmps[q]?.getD undef = .pointer (some ⟨k, 0, none⟩) := by simpa using hq
  simp [results, h, hp', hq', asAddr, Sem.run_bind, run_loadVar_row w g t ty c (0, 0) d hg hu hd hi, run_loadVar_row w k u uy e (0, 0) f hk hv hf hj, Result.andThen]

theorem wpList_build_one (hw : Region.wanted o (yielded ops a.tmps) = true) (t : TypeId) (i : Nat) (x : Operand) (ho : o.op = .build t #[(i, x)]) (v : Value) (hx : a.eval x = v) (c : Array Value) (hf : P.built t [(i, v)] = some c)
    (h : wpList P ops Q rest (a.put o.dst (.agg c)) w) : wpList P ops Q (o :: rest) a w :=
  wpList_build_has hw t _ ho c (by simpa [hx] using hf) h
theorem wpList_build_two (hw : Region.wanted o (yielded ops a.tmps) = true) (t : TypeId) (i j : Nat) (x y : Operand) (ho : o.op = .build t #[(i, x), (j, y)]) (u v : Value) (hx : a.eval x = u) (hy : a.eval y = v) (c : Array Value) (hf : P.built t [(i, u), (j, v)] = some c)
    (h : wpList P ops Q rest (a.put o.dst (.agg c)) w) : wpList P ops Q (o :: rest) a w :=
  wpList_build_has hw t _ ho c (by simpa [hx, hy] using hf) h

theorem wpList_store_mid' (hw : Region.wanted o (yielded ops a.tmps) = true) (ty : TypeId) (x y : Operand) (ho : o.op = .store ty x y)
    (b k : Nat) (cells : Array Value) (hx : a.eval x = .pointer (some ⟨b, k, none⟩)) (hy : a.eval y = .agg cells)
    (ht : w.there b k cells.size) (hi : (P.info? ty).map (·.size) = some cells.size) (h1 : cells.all (·.oneCell') = true)
    (h : wpList P ops Q rest (a.put o.dst undef) (w.setCells b k cells.toList)) : wpList P ops Q (o :: rest) a w :=
  BigFrame.wpList_want hw fun _ hK => wp_store_mid ty x y ho b k cells hx hy ht hi h1 (hK _ _ h)
end laws
end Go.Proofs.Ytphlfepgaghhhaa
