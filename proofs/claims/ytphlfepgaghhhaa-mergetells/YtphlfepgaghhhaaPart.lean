/- Rows in the midst of a block, loaded whole, guarded too; elements of arrays that are values. Nothing of the program is in it. -/
import Derived.Test.YtphlfepgaghhhaaMem
import Derived.Deep.MidRow
import Derived.Tactics2
import Derived.Laws.Small
namespace Go.Proofs.Ytphlfepgaghhhaa
set_option linter.unusedSimpArgs false
set_option linter.unusedVariables false
open Go.RowKit

section laws
variable {P : Program} {ops : Array Oper} {rest : List Oper} {o : Oper} {a : Act} {w : World} {Q : Exit → Act → World → Prop}

theorem Has.range {w : World} {g : Nat} {t : TypeId} {c : Array Value} (h : Has w g t c) (k : Nat) (cs : List Value) (hc : ∀ j v, cs[j]? = some v → c[k + j]? = some v) : w.rangeAt g k cs := by
  intro j v hj
  rw [h.cell]
  exact hc j v hj

theorem wpList_load_mid' (hw : Region.wanted o (yielded ops a.tmps) = true) (ty : TypeId) (x : Operand) (ho : o.op = .load ty x)
    (b k : Nat) (hx : a.eval x = .pointer (some ⟨b, k, none⟩)) (cs : List Value) (d : TypeDesc) (hc : w.rangeAt b k cs)
    (hu : P.underlying ty = some d) (hd : d.isRow = true) (hi : (P.info? ty).map (·.size) = some cs.length)
    (h : wpList P ops Q rest (a.put o.dst (.agg cs.toArray)) w) : wpList P ops Q (o :: rest) a w :=
  BigFrame.wpList_want hw fun _ hK => wp_load_mid ty x ho b k hx cs d hc hu hd hi (hK _ _ h)

theorem run_loadVar_any (A : Addr) (ty : TypeId) (cs : List Value) (d : TypeDesc) (hc : ∀ j v, cs[j]? = some v → w.cell? (A.add j) = some v)
    (hu : P.underlying ty = some d) (hd : d.isRow = true) (hi : (P.info? ty).map (·.size) = some cs.length) :
    (loadVar ty A).run P w = .ok (.agg cs.toArray) w := by
  have hl : (loadCells A cs.length).run P w = .ok cs.toArray w := run_loadCells_list (P := P) w A cs hc
  cases hq : P.info? ty with
  | none => simp [hq] at hi
  | some i =>
    have hs : i.size = cs.length := by simpa [hq] using hi
    have hagg : (isAgg ty).run P w = .ok true w := by
      unfold isAgg
      rw [Sem.run_bind, run_underlying hu w]
      cases d <;> simp_all
    simp [loadVar, Sem.run_bind, hagg, sizeOf, typeInfo, hq, hs, hl]

theorem run_load_any {ev : Operand → Value} (ty : TypeId) (x : Operand) (ho : o.op = .load ty x) (A : Addr) (hx : ev x = .pointer (some A)) (cs : List Value) (d : TypeDesc) (hc : ∀ j v, cs[j]? = some v → w.cell? (A.add j) = some v)
    (hu : P.underlying ty = some d) (hd : d.isRow = true) (hi : (P.info? ty).map (·.size) = some cs.length) : (execOp ev o).run P w = .ok (.value (.agg cs.toArray)) w := by
  unfold execOp
  simp only [ho, hx, Instr.loadAt, Instr.sureAddr, Sem.run_bind, Sem.run_pure, Result.andThen_ok, run_loadVar_any A ty cs d hc hu hd hi]

/-- A whole row from wherever it lies. -/
theorem wpList_load_any (hw : Region.wanted o (yielded ops a.tmps) = true) (ty : TypeId) (x : Operand) (ho : o.op = .load ty x) (A : Addr) (hx : a.eval x = .pointer (some A)) (cs : List Value) (d : TypeDesc) (hc : ∀ j v, cs[j]? = some v → w.cell? (A.add j) = some v)
    (hu : P.underlying ty = some d) (hd : d.isRow = true) (hi : (P.info? ty).map (·.size) = some cs.length) (h : wpList P ops Q rest (a.put o.dst (.agg cs.toArray)) w) : wpList P ops Q (o :: rest) a w := by
  refine BigFrame.wpList_want hw fun K hK => ?_
  unfold Oper.wp
  rw [run_load_any ty x ho A hx cs d hc hu hd hi]
  exact hK _ _ h

theorem run_index_row (ty e : TypeId) (len n sz : Nat) (cs : Array Value) (d : TypeDesc) (hu : P.underlying ty = some (.array len e)) (hn : n < len) (hue : P.underlying e = some d) (hd : d.isRow = true) (hi : (P.info? e).map (·.size) = some sz) :
    (Instr.index ty (.agg cs) (.int .i64 (n : Int))).run P w = .ok (.agg (cs.extract (n * sz) (n * sz + sz))) w := by
  cases hq : P.info? e with
  | none => simp [hq] at hi
  | some i =>
    have hs : i.size = sz := by simpa [hq] using hi
    have hagg : (isAgg e).run P w = .ok true w := by
      unfold isAgg
      rw [Sem.run_bind, run_underlying hue w]
      cases d <;> simp_all
    have h0 : (0 : Int) ≤ (n : Int) ∧ (n : Int) < (len : Int) := by omega
    simp [Instr.index, asIntOf, Sem.run_bind, run_underlying hu, h0, sizeOf, typeInfo, hq, hs, part, hagg]
    intro hh
    omega

theorem wpList_index_row (hw : Region.wanted o (yielded ops a.tmps) = true) (ty : TypeId) (x y : Operand) (ho : o.op = .index ty x y) (n : Nat) (cs : Array Value) (hx : a.eval x = .agg cs) (hy : a.eval y = .int .i64 (n : Int))
    (e : TypeId) (len sz : Nat) (d : TypeDesc) (hu : P.underlying ty = some (.array len e)) (hn : n < len) (hue : P.underlying e = some d) (hd : d.isRow = true) (hi : (P.info? e).map (·.size) = some sz)
    (h : wpList P ops Q rest (a.put o.dst (.agg (cs.extract (n * sz) (n * sz + sz)))) w) : wpList P ops Q (o :: rest) a w := by
  refine BigFrame.wpList_want hw fun K hK => ?_
  unfold Oper.wp execOp
  simp only [ho, hx, hy]
  simp only [Sem.run_bind, run_index_row ty e len n sz cs d hu hn hue hd hi]
  exact hK _ _ h
/-- The greater of two, told by a number of the prover's. -/
theorem wpList_max {P : Program} (hw : Region.wanted o (yielded ops a.tmps) = true) (x y : Operand) (ts : Array TypeId) (ho : o.op = .call { callee := .builtin .max, args := #[x, y], argTypes := ts }) (k k' : IntKind) (X Y Z : Int) (hx : a.eval x = .int k X) (hy : a.eval y = .int k' Y)
    (hZ : (if Y > X then Y else X) = Z) (h : wpList P ops Q rest (a.put o.dst (.int k Z)) w) : wpList P ops Q (o :: rest) a w := by
  refine BigFrame.wpList_want hw fun K hK => ?_
  have r : (execOp a.eval o).run P w = .ok (.value (.int k Z)) w := by
    generalize a.eval = ev at hx hy
    unfold execOp
    simp [ho, hx, hy, Sem.run_bind, go_sem]
    simpa using hZ
  unfold Oper.wp
  rw [r]
  exact hK _ _ h

theorem wpList_min {P : Program} (hw : Region.wanted o (yielded ops a.tmps) = true) (x y : Operand) (ts : Array TypeId) (ho : o.op = .call { callee := .builtin .min, args := #[x, y], argTypes := ts }) (k k' : IntKind) (X Y Z : Int) (hx : a.eval x = .int k X) (hy : a.eval y = .int k' Y)
    (hZ : (if Y < X then Y else X) = Z) (h : wpList P ops Q rest (a.put o.dst (.int k Z)) w) : wpList P ops Q (o :: rest) a w := by
  refine BigFrame.wpList_want hw fun K hK => ?_
  have r : (execOp a.eval o).run P w = .ok (.value (.int k Z)) w := by
    generalize a.eval = ev at hx hy
    unfold execOp
    simp [ho, hx, hy, Sem.run_bind, go_sem]
    simpa using hZ
  unfold Oper.wp
  rw [r]
  exact hK _ _ h
end laws
end Go.Proofs.Ytphlfepgaghhhaa
