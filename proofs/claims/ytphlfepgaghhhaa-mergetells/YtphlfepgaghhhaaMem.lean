/- Blocks that hold a row, by their cells: what a walk needs of structs and arrays that lie in variables. Nothing of the program is in it. -/
import Derived.Below
import Derived.OwnWalk
import Derived.WalkKit
import Derived.Laws.Rows
import Derived.Laws.Tables
import Derived.Laws.World
import Derived.Laws.CopyOwn
import Derived.Laws.ResultCell
import Derived.Lib.SmallJoins
import Derived.BigFrame
import Derived.Deep.Draws
namespace Go.Proofs.Ytphlfepgaghhhaa
set_option linter.unusedSimpArgs false
set_option linter.unusedVariables false
open Go.RowKit

/-- A block that holds a row. -/
def Has (w : World) (g : Nat) (t : TypeId) (c : Array Value) : Prop := w.heap[g]? = some (.cells c t (0, 0))

theorem Has.lt {w : World} {g : Nat} {t : TypeId} {c : Array Value} (h : Has w g t c) : g < w.heap.size := (Array.getElem?_eq_some_iff.1 h).1

theorem Has.later {w w' : World} {g : Nat} {t : TypeId} {c : Array Value} (h : Has w g t c) (hb : Below w.heap.size w w') : Has w' g t c := by
  unfold Has at *
  rw [hb.block g (Array.getElem?_eq_some_iff.1 h).1]
  exact h

theorem Has.cell {w : World} {g : Nat} {t : TypeId} {c : Array Value} (h : Has w g t c) (j : Nat) : w.cell? ⟨g, j, none⟩ = c[j]? := cell_of_row _ _ j c t (0, 0) h

theorem Has.free {w : World} {g : Nat} {t : TypeId} {c : Array Value} (h : Has w g t c) (j : Nat) : w.frozen? ⟨g, j, none⟩ = false := by
  unfold Has at h
  simp [World.frozen?, h]

theorem Has.new (w : World) (t : TypeId) (c : Array Value) : Has (w.alloc (.cells c t)) w.heap.size t c := by
  unfold Has
  show (w.heap.push _)[w.heap.size]? = _
  simp

theorem Has.alloc {w : World} {g : Nat} {t : TypeId} {c : Array Value} (h : Has w g t c) (o : Obj) : Has (w.alloc o) g t c :=
  h.later ((Below.refl _ _).alloc (Nat.le_refl _) _)

theorem Has.drew {w : World} {g : Nat} {t : TypeId} {c : Array Value} (h : Has w g t c) : Has w.drew g t c := h

theorem Has.drewN {w : World} {g : Nat} {t : TypeId} {c : Array Value} (h : Has w g t c) (n : Nat) : Has (w.drewN n) g t c := h

theorem Has.set {w : World} {g : Nat} {t : TypeId} {c : Array Value} (h : Has w g t c) (j : Nat) (v : Value) : Has (w.setCell ⟨g, j, none⟩ v) g t (c.setIfInBounds j v) := Go.Joins.block_setCell h v

theorem Has.set_other {w : World} {g : Nat} {t : TypeId} {c : Array Value} (h : Has w g t c) {a : Addr} (ha : g ≠ a.block) (v : Value) : Has (w.setCell a v) g t c := by
  unfold Has at *
  rw [Below.heap_setCell w a v g ha]
  exact h

theorem Has.row {w : World} {g : Nat} {t : TypeId} {c : Array Value} (h : Has w g t c) (c' : Array Value) : Has (w.setRow g c') g t c' := setRow_heap w g c c' t (0, 0) h

theorem Has.row_other {w : World} {g k : Nat} {t : TypeId} {c : Array Value} (h : Has w g t c) (hk : g ≠ k) (c' : Array Value) : Has (w.setRow k c') g t c := by
  unfold Has at *
  rw [setRow_other w k g c' hk]
  exact h

section laws
variable {P : Program} {ops : Array Oper} {rest : List Oper} {o : Oper} {a : Act} {w : World} {Q : Exit → Act → World → Prop}

/-- A whole struct or array out of its variable. -/
theorem wpList_load_has (hw : Region.wanted o (yielded ops a.tmps) = true) (ty : TypeId) (x : Operand) (ho : o.op = .load ty x) (g : Nat) (hx : a.eval x = .pointer (some ⟨g, 0, none⟩))
    (t : TypeId) (c : Array Value) (d : TypeDesc) (hu : P.underlying ty = some d) (hd : (match d with | .struct _ | .array _ _ => true | _ => false) = true) (hi : (P.info? ty).map (·.size) = some c.size)
    (hg : Has w g t c) (h : wpList P ops Q rest (a.put o.dst (.agg c)) w) : wpList P ops Q (o :: rest) a w :=
  BigFrame.wpList_want hw fun _ hK => wp_load_row ty x ho g hx t c (0, 0) d hg hu hd hi (hK _ _ h)

/-- A whole struct or array into its variable. -/
theorem wpList_store_has (hw : Region.wanted o (yielded ops a.tmps) = true) (ty : TypeId) (x y : Operand) (ho : o.op = .store ty x y) (g : Nat) (hx : a.eval x = .pointer (some ⟨g, 0, none⟩))
    (c : Array Value) (hy : a.eval y = .agg c) (t : TypeId) (old : Array Value) (hi : (P.info? ty).map (·.size) = some c.size) (hs : old.size = c.size) (h1 : c.all (·.oneCell') = true)
    (hg : Has w g t old) (h : wpList P ops Q rest (a.put o.dst undef) (w.setRow g c)) : wpList P ops Q (o :: rest) a w :=
  BigFrame.wpList_want hw fun _ hK => wp_store_row ty x y ho g c hx hy t old hg hi hs h1 (hK _ _ h)

/-- A new variable at its zero. -/
theorem wpList_alloc_has (hw : Region.wanted o (yielded ops a.tmps) = true) (t : TypeId) (ho : o.op = .alloc t) (c : Array Value) (hz : (P.info? t).map (·.zero) = some (some (.agg c)))
    (h : wpList P ops Q rest (a.put o.dst (.pointer (some ⟨w.heap.size, 0, none⟩))) (w.alloc (.cells c t))) : wpList P ops Q (o :: rest) a w := by
  refine BigFrame.wpList_want hw fun K hK => ?_
  cases hq : P.info? t with
  | none => simp [hq] at hz
  | some i =>
    have hz' : i.zero = some (.agg c) := by simpa [hq] using hz
    unfold Oper.wp execOp
    simp [ho, Sem.run_bind, Instr.alloc, zeroValue, typeInfo, hq, hz', newVar, newRow, run_newObj_alloc, Sem.run_pure, Result.andThen_ok, Value.cells]
    exact hK _ _ h

/-- A struct or array out of its parts. -/
theorem wpList_build_has (hw : Region.wanted o (yielded ops a.tmps) = true) (t : TypeId) (parts : Array (Nat × Operand)) (ho : o.op = .build t parts) (c : Array Value)
    (hf : P.built t (parts.map fun (i, x) => (i, a.eval x)).toList = some c)
    (h : wpList P ops Q rest (a.put o.dst (.agg c)) w) : wpList P ops Q (o :: rest) a w := by
  refine BigFrame.wpList_want hw fun K hK => ?_
  refine wp_build t parts ho (by rw [hf]; rfl) ?_
  rw [hf]
  exact hK _ _ h

/-- A function's end that hands back a struct or array, and one thing more. -/
theorem ret_has_tmp {fn : Func} {R : Ending → World → Prop} {p u : Tmp} {ty : TypeId} (h : fn.results = #[.cell p ty, .tmp u]) (g : Nat) (hp : a.tmps.getD p undef = .pointer (some ⟨g, 0, none⟩))
    (t : TypeId) (c : Array Value) (d : TypeDesc) (hu : P.underlying ty = some d) (hd : (match d with | .struct _ | .array _ _ => true | _ => false) = true) (hi : (P.info? ty).map (·.size) = some c.size)
    (hg : Has w g t c) (hdf : a.defers = []) (hR : R (.returned (.tuple #[.agg c, a.tmps.getD u undef])) w) : bodyPost P fn R .ret a w := by
  refine bodyPost_ret ?_ hdf hR
  rw [results_cell_tmp h, hp]
  simp [asAddr, run_loadVar_row w g t ty c (0, 0) d hg hu hd hi, Result.andThen]

/-- A function's end that hands back a struct or array. -/
theorem ret_has {fn : Func} {R : Ending → World → Prop} {p : Tmp} {ty : TypeId} (h : fn.results = #[.cell p ty]) (g : Nat) (hp : a.tmps.getD p undef = .pointer (some ⟨g, 0, none⟩))
    (t : TypeId) (c : Array Value) (d : TypeDesc) (hu : P.underlying ty = some d) (hd : (match d with | .struct _ | .array _ _ => true | _ => false) = true) (hi : (P.info? ty).map (·.size) = some c.size)
    (hg : Has w g t c) (hdf : a.defers = []) (hR : R (.returned (.agg c)) w) : bodyPost P fn R .ret a w :=
  bodyPost_ret (results_cell_row h a.tmps w g t c (0, 0) d hp hg hu hd hi) hdf hR
end laws
end Go.Proofs.Ytphlfepgaghhhaa
