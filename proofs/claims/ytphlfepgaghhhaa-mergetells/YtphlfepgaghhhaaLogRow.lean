/- The law's own helper: a row of operations, added one by one. -/
import Derived.Test.YtphlfepgaghhhaaLogAdd
import Derived.Maps.AppendAt
namespace Go.Proofs.Ytphlfepgaghhhaa
set_option linter.unusedSimpArgs false
set_option linter.unusedVariables false
set_option maxRecDepth 100000
open Go.RowKit

theorem opR_len (l : List OpV) : (opR l).length = l.length := by unfold opR; rw [List.length_map]
theorem opR_each (l : List OpV) : ∀ r ∈ opR l, r.length = 6 := by
  intro r hr
  obtain ⟨x, _, rfl⟩ := List.mem_map.1 hr
  rfl
theorem opF_len (l : List OpV) : (opR l).flatten.length = l.length * 6 := by
  induction l with
  | nil => rfl
  | cons e l ih =>
    show (opL e ++ (opR l).flatten).length = _
    rw [List.length_append, ih, List.length_cons]
    show 6 + _ = _
    omega
theorem opF_snoc (l : List OpV) (o : OpV) : (opR (l ++ [o])).flatten = (opR l).flatten ++ opL o := by
  unfold opR
  rw [List.map_append, List.flatten_append]
  simp
/-- A row of one's own, as a slice of operations. -/
theorem ops_own {w : World} {base n : Nat} {v : Value} {D : List OpV} (h : w.ownsRow base 35 6 v n (opR D).flatten) : n = D.length ∧ ∃ ao c, v = .slice ao n c ∧ Sl w ao c 6 (opR D) ∧ (∀ d, ao = some d → v.ownBlock = some d.block) := by
  have hl : n = D.length := by have := h.1; rw [opF_len] at this; omega
  refine ⟨hl, ?_⟩
  rcases h.2 with ⟨hv, h0⟩ | ⟨g, cap, cur, hv, hg, hc, hle, hm, hcur⟩
  · have : D = [] := List.eq_nil_of_length_eq_zero (by omega)
    subst this
    exact ⟨none, 0, by rw [hv, h0], Sl.nothing _ _, fun d hd => by cases hd⟩
  · refine ⟨some ⟨g, 0, none⟩, cap, hv, ⟨by rw [opR_len]; omega, Nat.le_trans hm (by unfold maxLen; omega), (fun h => by cases h), opR_each D, fun ad had i hi j hj => ?_⟩, fun d hd => by obtain rfl := Option.some.inj hd; rw [hv]; rfl⟩
    obtain rfl := Option.some.inj had
    have hf := flatten_at (opR D) (opR_each D) i hi j hj
    have hl3 := opR_each D _ (List.getElem_mem hi)
    rw [List.getElem?_eq_getElem (show j < ((opR D)[i]).length by omega)] at hf ⊢
    exact h.cells (g := g) (by rw [hv]; rfl) _ _ hf
theorem Sl.grown {w w' : World} {row : Option Nat} {ao : Option Addr} {c sz : Nat} {rows : List (List Value)} (h : Sl w ao c sz rows) (hg : w.grownBy w' row) (hn : ∀ d, ao = some d → row ≠ some d.block) : Sl w' ao c sz rows := by
  refine ⟨h.le, h.cap, h.nil, h.each, fun ad had i hi j hj => ?_⟩
  have hc := h.at' ad had i hi j hj
  have hl := h.each _ (List.getElem_mem hi)
  rw [List.getElem?_eq_getElem (by omega)] at hc
  have hlt := World.block_lt_of_cell? w _ hc
  have hb : (ad.add (i * sz + j)).block = ad.block := by simp [Addr.add]; split <;> rfl
  have e : w'.heap[(ad.add (i * sz + j)).block]? = w.heap[(ad.add (i * sz + j)).block]? := hg.block _ hlt (by rw [hb]; exact fun e => hn ad had e.symm)
  rw [List.getElem?_eq_getElem (by omega), ← hc]
  unfold World.cell?
  rw [e]
theorem Sl.block_lt {w : World} {d : Addr} {c sz : Nat} {rows : List (List Value)} (h : Sl w (some d) c sz rows) (hn : 0 < rows.length) (hs : 0 < sz) : d.block < w.heap.size := by
  have hc := h.at' d rfl 0 hn 0 hs
  have hl := h.each _ (List.getElem_mem hn)
  rw [List.getElem?_eq_getElem (by omega)] at hc
  have hlt := World.block_lt_of_cell? w _ hc
  have hb : (d.add (0 * sz + 0)).block = d.block := by simp [Addr.add]
  rw [hb] at hlt
  exact hlt
theorem Has.grownBy {w w' : World} {row : Option Nat} {g : Nat} {t : TypeId} {c : Array Value} (h : Has w g t c) (hg : w.grownBy w' row) (hn : row ≠ some g) : Has w' g t c := by
  unfold Has at *
  rw [hg.block g (Array.getElem?_eq_some_iff.1 h).1 (fun e => hn e.symm)]
  exact h
theorem own_below {w w' : World} {base n : Nat} {t : TypeId} {sz : Nat} {v : Value} {xs : List Value} (h : w.ownsRow base t sz v n xs) (hb : Below w.heap.size w w') : w'.ownsRow base t sz v n xs :=
  h.kept (row := none) ⟨hb.os, hb.tape, hb.output, hb.size, fun k hk _ => hb.block k hk⟩ (by simp; exact Classical.em _)
theorem own_row {w : World} {base n k : Nat} {t : TypeId} {sz : Nat} {v : Value} {xs : List Value} (h : w.ownsRow base t sz v n xs) (hk : v.ownBlock ≠ some k) (c : Array Value) : (w.setRow k c).ownsRow base t sz v n xs :=
  h.kept (row := some k) ⟨rfl, rfl, rfl, by simp [World.setRow], fun j hj hn => setRow_other w k j c (fun e => hn (by rw [e]))⟩ (.inr hk)
theorem one_row (w : World) (t : TypeId) (c : Array Value) : ∀ j u, c.toList[j]? = some u → (w.alloc (.cells c t)).cell? ((⟨w.heap.size, 0, none⟩ : Addr).add j) = some u := by
  intro j u hj
  have h := (Has.new w t c).cell j
  rw [Addr.add_mid, Nat.zero_add, h]
  simpa using hj
theorem op_cells1 (x : OpV) : ∀ u ∈ (opC x).toList, u.oneCell' = true := by
  intro u hu
  simp [opC, opL, strV] at hu
  rcases hu with rfl | rfl | rfl | rfl | rfl | rfl <;> rfl
theorem op_info : ∃ i, Try.prog.info? 35 = some i ∧ i.zero = some (.agg (opC op0)) ∧ i.size = 6 ∧ i.bytes = 32 := by
  have h : (Try.prog.info? 35).map (fun i => (i.zero, i.size, i.bytes)) = some (some (.agg (opC op0)), 6, 32) := by kernel_rfl
  cases hi : Try.prog.info? 35 with
  | none => rw [hi] at h; cases h
  | some i =>
    rw [hi] at h
    simp only [Option.map_some, Option.some.injEq, Prod.mk.injEq] at h
    exact ⟨i, rfl, h.1, h.2.1, h.2.2⟩
theorem slice_one_op (o : OpV) (w : World) : (Instr.buildSlice 68 1 #[(0, .agg (opC o))]).run Try.prog w = .ok (.slice (some ⟨w.heap.size, 0, none⟩) 1 1) (w.alloc (.cells (opC o) 35)) := by
  have h : (Instr.buildSlice 68 1 #[(0, .agg (opC o))]).run Try.prog w = ((newRow 35 (opC o)).run Try.prog w).andThen (fun a w => .ok (.slice (some a) 1 1) w) := by kernel_rfl
  rw [h]
  simp [newRow, run_newObj_alloc, Sem.run_bind, Sem.run_pure, Result.andThen]
theorem wpList_build_three {P : Program} {ops : Array Oper} {rest : List Oper} {o : Oper} {a : Act} {w : World} {Q : Exit → Act → World → Prop} (hw : Region.wanted o (yielded ops a.tmps) = true) (t : TypeId) (i j k : Nat) (x y z : Operand) (ho : o.op = .build t #[(i, x), (j, y), (k, z)]) (p q r : Value) (hx : a.eval x = p) (hy : a.eval y = q) (hz : a.eval z = r) (c : Array Value) (hf : P.built t [(i, p), (j, q), (k, r)] = some c)
    (h : wpList P ops Q rest (a.put o.dst (.agg c)) w) : wpList P ops Q (o :: rest) a w :=
  wpList_build_has hw t _ ho c (by simpa [hx, hy, hz] using hf) h
theorem yields_build_three {P : Program} {ops : Array Oper} {S : World → Prop} {o : Oper} {a : Act} (hw : Region.wanted o (yielded ops a.tmps) = true) (t : TypeId) (i j k : Nat) (x y z : Operand) (ho : o.op = .build t #[(i, x), (j, y), (k, z)]) (p q r : Value) (hx : a.eval x = p) (hy : a.eval y = q) (hz : a.eval z = r) (c : Array Value) (hf : P.built t [(i, p), (j, q), (k, r)] = some c) : YieldsIf P ops S o (.agg c) a := by
  refine .inl ⟨hw, fun W _ => ?_⟩
  have hc : P.built t ((#[(i, x), (j, y), (k, z)] : Array (Nat × Operand)).map fun (i, x) => (i, a.eval x)).toList = some c := by simpa [hx, hy, hz] using hf
  unfold execOp
  simp only [ho, Sem.run_bind, run_build W t _ c hc, Result.andThen_ok]
  rfl
/-- The remainder of a number of 32 bits by one above nought. -/
theorem run_rem_u32 {P : Program} {o : Oper} {ev : Operand → Value} (ty ty' : TypeId) (x y : Operand) (ho : o.op = .binOp .rem ty x y ty') (n m k : Nat) (hx : ev x = .int .u32 (n : Int)) (hy : ev y = .int .u32 (m : Int)) (hn : n < 4294967296) (hm : 0 < m) (hk : n % m = k) (w : World) :
    (execOp ev o).run P w = .ok (.value (.int .u32 (k : Int))) w := by
  subst hk
  have h1 : ((m : Int) = 0) = False := by simp; omega
  have h2 : (n : Int).tmod (m : Int) = ((n % m : Nat) : Int) := rfl
  have h3 : n % m < 4294967296 := Nat.lt_of_le_of_lt (Nat.mod_le _ _) hn
  have h4 : IntKind.u32.wrap ((n % m : Nat) : Int) = ((n % m : Nat) : Int) := by
    simp [IntKind.wrap, IntKind.bits, IntKind.signed]
    omega
  unfold execOp
  simp only [ho, hx, hy]
  simp [Sem.run_bind, go_sem, h1, h2, h4]
  omega
/-- The sum of two numbers of 32 bits that stays below 2^32. -/
theorem run_add_u32 {P : Program} {o : Oper} {ev : Operand → Value} (ty ty' : TypeId) (x y : Operand) (ho : o.op = .binOp .add ty x y ty') (n m k : Nat) (hx : ev x = .int .u32 (n : Int)) (hy : ev y = .int .u32 (m : Int)) (hk : n + m = k) (hl : k < 4294967296) (w : World) :
    (execOp ev o).run P w = .ok (.value (.int .u32 (k : Int))) w := by
  subst hk
  have h4 : IntKind.u32.wrap ((n : Int) + (m : Int)) = ((n + m : Nat) : Int) := by
    simp [IntKind.wrap, IntKind.bits, IntKind.signed]
    omega
  unfold execOp
  simp only [ho, hx, hy]
  simp [Sem.run_bind, go_sem, h4]
theorem filter_take (l : List OpV) (n : Nat) (h : n < l.length) : (l.take (n + 1)).filter writesM = if writesM l[n] = true then (l.take n).filter writesM ++ [l[n]] else (l.take n).filter writesM := by
  rw [List.take_succ_eq_append_getElem h, List.filter_append]
  cases hw : writesM l[n] with
  | false => simp [hw]
  | true => simp [hw]
theorem filter_writes (l : List OpV) : ∀ o ∈ l.filter writesM, writesM o = true := fun o ho => (List.mem_filter.1 ho).2
theorem filter_ok {l : List OpV} (h : ∀ o ∈ l, OpOk o) : ∀ o ∈ l.filter writesM, OpOk o := fun o ho => h o (List.mem_filter.1 ho).1
theorem filter_len (l : List OpV) : (l.filter writesM).length ≤ l.length := List.length_filter_le _ _

end Go.Proofs.Ytphlfepgaghhhaa
