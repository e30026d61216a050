/- '==' and '!=' of objects, rows of objects, last ones with themselves; a base's parts as rows. -/
import Derived.Test.YtjajfeplgilejabEqObj
import Derived.Test.YtjajfeplgilejabObjSpec
namespace Go.Proofs.Ytjajfeplgilejab
set_option linter.unusedSimpArgs false
set_option linter.unusedVariables false
set_option maxRecDepth 100000
open Go.RowKit

theorem big_le {n : Nat} (h : n ≤ 1000) : n ≤ 9223372036854775807 := by omega
theorem obj_lits8 (x : ObjV) (h : ObjOk x) : ∃ K, Try.prog.keyLits 8 29 (objC x).toList = some K := obj_lits x (big_le h.data) (big_le h.a0) (big_le h.a1) (big_le h.a2) 5
theorem neq_obj (x : ObjV) (h : ObjOk x) (w : World) : (binOp .neq 29 (.agg (objC x)) (.agg (objC x))).run Try.prog w = .ok (.bool false) w :=
  neq_self 29 (objC x) key_obj (by simp [Value.formed, Try.underlying29, co_obj]; rfl) (obj_lits8 x h) w
theorem neq_last (l : LastV) (h0 : l.seq < 4294967296) (h1 : l.r.code < 256) (h2 : l.r.data.length ≤ 9223372036854775807) (w : World) : (binOp .neq 34 (.agg (lastC l)) (.agg (lastC l))).run Try.prog w = .ok (.bool false) w :=
  neq_self 34 (lastC l) key_last (by simp [Value.formed, Try.underlying34, co_last]; rfl) (last_lits l h0 h1 h2 5) w
theorem objs_lits8 (f : Fin 6 → ObjV) (h : ∀ i, ∃ K, Try.prog.keyLits 7 29 (objL (f i)) = some K) : ∃ K, Try.prog.keyLits 8 30 (objsL f) = some K := by
  obtain ⟨K0, e0⟩ := h 0
  obtain ⟨K1, e1⟩ := h 1
  obtain ⟨K2, e2⟩ := h 2
  obtain ⟨K3, e3⟩ := h 3
  obtain ⟨K4, e4⟩ := h 4
  obtain ⟨K5, e5⟩ := h 5
  simp only [objL] at e0 e1 e2 e3 e4 e5
  unfold Program.keyLits
  rw [Try.underlying30]
  simp [objsL, objL, co_obj, co_objs, show List.range 6 = [0, 1, 2, 3, 4, 5] from rfl, e0, e1, e2, e3, e4, e5]
theorem eq_objs (b : BaseV) (h : BaseOk b) (w : World) : (binOp .eql 30 (.agg (objsL b.obj).toArray) (.agg (objsL b.obj).toArray)).run Try.prog w = .ok (.bool true) w :=
  eq_self 30 (objsL b.obj).toArray key_objs (by simp [Value.formed, Try.underlying30, co_objs]; rfl) (objs_lits8 b.obj (fun i => obj_lits (b.obj i) (big_le (h.data i)) (big_le (h.a0 i)) (big_le (h.a1 i)) (big_le (h.a2 i)) 4)) w
theorem guard_objs : Try.prog.eqGuardType Try.prog.depth 30 = false := by kernel_rfl
theorem guard_last : Try.prog.eqGuardType Try.prog.depth 34 = false := by kernel_rfl
theorem objs_size (f : Fin 6 → ObjV) : (Try.prog.info? 30).map (·.size) = some (objsL f).toArray.size := by show _ = some 30; kernel_rfl

theorem baseC_objs (b : BaseV) (j : Nat) (v : Value) (h : (objsL b.obj)[j]? = some v) : (baseC b)[0 + j]? = some v := by
  have hj : j < 30 := (List.getElem?_eq_some_iff.1 h).1
  unfold baseC baseL
  rw [List.getElem?_toArray, Nat.zero_add, List.getElem?_append_left (show j < (objsL b.obj).length from hj)]
  exact h
theorem Has.objs_at {w : World} {g : Nat} {b : BaseV} (h : Has w g 37 (baseC b)) : w.rangeAt g 0 (objsL b.obj) := h.range _ _ fun j v hj => baseC_objs b j v hj
end Go.Proofs.Ytjajfeplgilejab
