/- Ballots and acceptors in variables; ballots and increments held against each other. -/
import Derived.Test.YthpmkhbkbpifkaaBalMath
import Derived.Test.YthpmkhbkbpifkaaPackMaps
import Derived.Test.YthpmkhbkbpifkaaPackTools
namespace Go.Proofs.Ythpmkhbkbpifkaa
set_option linter.unusedSimpArgs false
set_option linter.unusedVariables false
set_option maxRecDepth 100000
open Go.RowKit

theorem bal_size (b : BalV) : (Try.prog.info? 31).map (·.size) = some (balC b).size := by show _ = some 2; kernel_rfl
theorem bal_zero : (Try.prog.info? 31).map (·.zero) = some (some (.agg (balC bal0))) := by kernel_rfl
theorem bal_built0 : Try.prog.built 31 [] = some (balC bal0) := by kernel_rfl
theorem bal_built2 (n k : Nat) : Try.prog.built 31 [(0, .int .u32 (n : Int)), (1, .int .u8 (k : Int))] = some (balC ⟨n, k⟩) := by kernel_rfl
theorem bal_one (b : BalV) : (balC b).all (·.oneCell') = true := by
  unfold balC
  simp [Value.oneCell']
theorem inc_built0 : Try.prog.built 23 [] = some (incC inc0) := by kernel_rfl
theorem acc_size (a : AccV) : (Try.prog.info? 77).map (·.size) = some (accC a).size := by show _ = some 7; kernel_rfl
theorem acc_zero : (Try.prog.info? 77).map (·.zero) = some (some (.agg (accC acc0))) := by kernel_rfl
theorem acc_built0 : Try.prog.built 77 [] = some (accC acc0) := by kernel_rfl

theorem bal_cells {w : World} {g : Nat} {t : TypeId} {b : BalV} (h : Has w g t (balC b)) : w.cell? ⟨g, 0, none⟩ = some (.int .u32 b.n) ∧ w.cell? ⟨g, 1, none⟩ = some (.int .u8 b.who) := ⟨h.cell 0, h.cell 1⟩

theorem acc_pro {w : World} {g : Nat} {t : TypeId} {a : AccV} (h : Has w g t (accC a)) : w.rangeAt g 0 (balC a.pro).toList := h.range 0 _ fun j v hj => by
  match j, hj with
  | 0, hj => exact hj
  | 1, hj => exact hj
theorem acc_acc {w : World} {g : Nat} {t : TypeId} {a : AccV} (h : Has w g t (accC a)) : w.rangeAt g 2 (balC a.acc).toList := h.range 2 _ fun j v hj => by
  match j, hj with
  | 0, hj => exact hj
  | 1, hj => exact hj
theorem acc_inc {w : World} {g : Nat} {t : TypeId} {a : AccV} (h : Has w g t (accC a)) : w.rangeAt g 4 (incC a.inc).toList := h.range 4 _ fun j v hj => by
  match j, hj with
  | 0, hj => exact hj
  | 1, hj => exact hj
  | 2, hj => exact hj

theorem Has.set2 {w : World} {g : Nat} {t : TypeId} {c : Array Value} (h : Has w g t c) (o : Nat) (v0 v1 : Value) :
    Has (w.setCells g o [v0, v1]) g t ((c.setIfInBounds o v0).setIfInBounds (o + 1) v1) := (h.set o v0).set (o + 1) v1
theorem Has.setPro {w : World} {g : Nat} {t : TypeId} {a : AccV} (h : Has w g t (accC a)) (b : BalV) : Has (w.setCells g 0 (balC b).toList) g t (accC { a with pro := b }) := h.set2 0 (.int .u32 b.n) (.int .u8 b.who)
theorem Has.setAcc {w : World} {g : Nat} {t : TypeId} {a : AccV} (h : Has w g t (accC a)) (b : BalV) : Has (w.setCells g 2 (balC b).toList) g t (accC { a with acc := b }) := h.set2 2 (.int .u32 b.n) (.int .u8 b.who)
theorem Has.setInc {w : World} {g : Nat} {t : TypeId} {a : AccV} (h : Has w g t (accC a)) (x : IncV) : Has (w.setCells g 4 (incC x).toList) g t (accC { a with inc := x }) := h.set3 4 (.int .u8 x.kind) (.int .u8 x.osd) (.int .i64 x.n)

theorem cells_bal : Try.prog.cellsOf 31 = 2 := by kernel_rfl
theorem guard_bal : Try.prog.eqGuardType Try.prog.depth 31 = false := by kernel_rfl
theorem bal_key : Try.prog.keyTypeAt 5 31 = true := by kernel_rfl
def balK (b : BalV) : List Lit := [.int .u32 b.n, .int .u8 b.who]
theorem bal_lits (b : BalV) (h : BalOk b) (D : Nat) : Try.prog.keyLits (D + 2) 31 (balC b).toList = some (balK b) := by
  have w0 := wf_u32 h.n
  have w1 := wf_u8 h.who
  unfold Program.keyLits
  rw [Try.underlying31]
  simp [balC, balK, cells_bal, cells_u32, cells_u8, Program.keyLits, Try.underlying29, Try.underlying5, w0, w1]
theorem balK_inj {a b : BalV} (h : balK a = balK b) : a = b := by
  obtain ⟨n, k⟩ := a
  obtain ⟨n', k'⟩ := b
  simp [balK] at h
  obtain ⟨h1, h2⟩ := h
  have : n = n' := by omega
  subst this
  have : k = k' := by omega
  subst this
  rfl
theorem bal_equal (a b : BalV) (ha : BalOk a) (hb : BalOk b) (w : World) : (Op.equalIn 10000 31 (.agg (balC a)) (.agg (balC b))).run Try.prog w = .ok (sameBal a b) w := by
  have fa : (Value.agg (balC a)).formed Try.prog 31 = true := by simp [Value.formed, Try.underlying31, cells_bal, balC]
  have fb : (Value.agg (balC b)).formed Try.prog 31 = true := by simp [Value.formed, Try.underlying31, cells_bal, balC]
  obtain ⟨r, hr, hiff⟩ := run_equalIn_deep 9995 5 31 bal_key w 5 5 (.agg (balC a)) (.agg (balC b)) (balK a) (balK b) fa fb (bal_lits a ha 3) (bal_lits b hb 3)
  rw [← bool_same (hiff.trans ⟨balK_inj, fun h => by rw [h]⟩) (sameBal_is a b)]
  exact hr
theorem eq_bal (a b : BalV) (ha : BalOk a) (hb : BalOk b) (w : World) : (binOp .eql 31 (.agg (balC a)) (.agg (balC b))).run Try.prog w = .ok (.bool (sameBal a b)) w := by
  rw [run_eql_struct, bal_equal a b ha hb]
  rfl
theorem neq_bal (a b : BalV) (ha : BalOk a) (hb : BalOk b) (w : World) : (binOp .neq 31 (.agg (balC a)) (.agg (balC b))).run Try.prog w = .ok (.bool (!sameBal a b)) w := by
  rw [run_neq_struct, bal_equal a b ha hb]
  rfl
theorem neq_inc (x y : IncV) (hx : IncOk x) (hy : IncOk y) (w : World) : (binOp .neq 23 (.agg (incC x)) (.agg (incC y))).run Try.prog w = .ok (.bool (!sameInc x y)) w := by
  have fa : (Value.agg (incC x)).formed Try.prog 23 = true := by simp [Value.formed, Try.underlying23, cells_inc, incC]
  have fb : (Value.agg (incC y)).formed Try.prog 23 = true := by simp [Value.formed, Try.underlying23, cells_inc, incC]
  obtain ⟨r, hr, hiff⟩ := run_equalIn_deep 9995 5 23 inc_key w 5 5 (.agg (incC x)) (.agg (incC y)) (incK x) (incK y) fa fb (inc_lits x hx 3) (inc_lits y hy 3)
  have hr : (Op.equalIn 10000 23 (.agg (incC x)) (.agg (incC y))).run Try.prog w = .ok r w := hr
  rw [run_neq_struct, hr, bool_same (hiff.trans ⟨incK_inj, fun h => by rw [h]⟩) (sameInc_is x y)]
  rfl

section laws
variable {ops : Array Oper} {rest : List Oper} {o : Oper} {a : Act} {w : World} {Q : Exit → Act → World → Prop} {S : World → Prop}

theorem load_bal (b : BalV) (hw : Region.wanted o (yielded ops a.tmps) = true) (x : Operand) (ho : o.op = .load 31 x) (g : Nat) (hx : a.eval x = .pointer (some ⟨g, 0, none⟩))
    (hg : Has w g 31 (balC b)) (h : wpList Try.prog ops Q rest (a.put o.dst (.agg (balC b))) w) : wpList Try.prog ops Q (o :: rest) a w :=
  wpList_load_has hw 31 x ho g hx 31 (balC b) _ Try.underlying31 rfl (bal_size b) hg h
theorem store_bal (b old : BalV) (hw : Region.wanted o (yielded ops a.tmps) = true) (x y : Operand) (ho : o.op = .store 31 x y) (g : Nat) (hx : a.eval x = .pointer (some ⟨g, 0, none⟩)) (hy : a.eval y = .agg (balC b))
    (hg : Has w g 31 (balC old)) (h : wpList Try.prog ops Q rest (a.put o.dst undef) (w.setRow g (balC b))) : wpList Try.prog ops Q (o :: rest) a w :=
  wpList_store_has hw 31 x y ho g hx (balC b) hy 31 (balC old) (bal_size b) rfl (bal_one b) hg h
theorem alloc_bal (hw : Region.wanted o (yielded ops a.tmps) = true) (ho : o.op = .alloc 31)
    (h : wpList Try.prog ops Q rest (a.put o.dst (.pointer (some ⟨w.heap.size, 0, none⟩))) (w.alloc (.cells (balC bal0) 31))) : wpList Try.prog ops Q (o :: rest) a w :=
  wpList_alloc_has hw 31 ho (balC bal0) bal_zero h
theorem alloc_inc0 (hw : Region.wanted o (yielded ops a.tmps) = true) (ho : o.op = .alloc 23)
    (h : wpList Try.prog ops Q rest (a.put o.dst (.pointer (some ⟨w.heap.size, 0, none⟩))) (w.alloc (.cells (incC inc0) 23))) : wpList Try.prog ops Q (o :: rest) a w :=
  wpList_alloc_has hw 23 ho (incC inc0) inc_zero h
theorem build_bal0 (hw : Region.wanted o (yielded ops a.tmps) = true) (ho : o.op = .build 31 #[])
    (h : wpList Try.prog ops Q rest (a.put o.dst (.agg (balC bal0))) w) : wpList Try.prog ops Q (o :: rest) a w :=
  wpList_build_has hw 31 #[] ho (balC bal0) (by simpa using bal_built0) h
theorem build_inc0 (hw : Region.wanted o (yielded ops a.tmps) = true) (ho : o.op = .build 23 #[])
    (h : wpList Try.prog ops Q rest (a.put o.dst (.agg (incC inc0))) w) : wpList Try.prog ops Q (o :: rest) a w :=
  wpList_build_has hw 23 #[] ho (incC inc0) (by simpa using inc_built0) h
theorem bin_bal_eq (b c : BalV) (hb : BalOk b) (hc : BalOk c) (hw : Region.wanted o (yielded ops a.tmps) = true) (x y : Operand) (ty' : TypeId) (ho : o.op = .binOp .eql 31 x y ty') (hx : a.eval x = .agg (balC b)) (hy : a.eval y = .agg (balC c))
    (h : wpList Try.prog ops Q rest (a.put o.dst (.bool (sameBal b c))) w) : wpList Try.prog ops Q (o :: rest) a w :=
  wpList_bin_agg hw .eql 31 ty' x y ho _ _ hx hy _ guard_bal (eq_bal b c hb hc w) h
theorem bin_bal_ne (b c : BalV) (hb : BalOk b) (hc : BalOk c) (hw : Region.wanted o (yielded ops a.tmps) = true) (x y : Operand) (ty' : TypeId) (ho : o.op = .binOp .neq 31 x y ty') (hx : a.eval x = .agg (balC b)) (hy : a.eval y = .agg (balC c))
    (h : wpList Try.prog ops Q rest (a.put o.dst (.bool (!sameBal b c))) w) : wpList Try.prog ops Q (o :: rest) a w :=
  wpList_bin_agg hw .neq 31 ty' x y ho _ _ hx hy _ guard_bal (neq_bal b c hb hc w) h
theorem bin_inc_ne (b c : IncV) (hb : IncOk b) (hc : IncOk c) (hw : Region.wanted o (yielded ops a.tmps) = true) (x y : Operand) (ty' : TypeId) (ho : o.op = .binOp .neq 23 x y ty') (hx : a.eval x = .agg (incC b)) (hy : a.eval y = .agg (incC c))
    (h : wpList Try.prog ops Q rest (a.put o.dst (.bool (!sameInc b c))) w) : wpList Try.prog ops Q (o :: rest) a w :=
  wpList_bin_agg hw .neq 23 ty' x y ho _ _ hx hy _ guard_inc (neq_inc b c hb hc w) h

theorem yields_bal (b : BalV) (hw : Region.wanted o (yielded ops a.tmps) = true) (x : Operand) (ho : o.op = .load 31 x) (g : Nat) (hx : a.eval x = .pointer (some ⟨g, 0, none⟩))
    (hg : ∀ w, S w → Has w g 31 (balC b)) : YieldsIf Try.prog ops S o (.agg (balC b)) a :=
  yields_load_has hw 31 x ho g hx 31 (balC b) _ Try.underlying31 rfl (bal_size b) hg
/-- A ballot, an increment in the midst of a block. -/
theorem yields_bal_mid (b : BalV) (hw : Region.wanted o (yielded ops a.tmps) = true) (x : Operand) (ho : o.op = .load 31 x) (g k : Nat) (hx : a.eval x = .pointer (some ⟨g, k, none⟩))
    (hg : ∀ w, S w → w.rangeAt g k (balC b).toList) : YieldsIf Try.prog ops S o (.agg (balC b)) a :=
  yieldsIf_load_mid hw 31 x ho g k hx (balC b).toList _ hg Try.underlying31 rfl (bal_size b)
theorem yields_inc_mid (y : IncV) (hw : Region.wanted o (yielded ops a.tmps) = true) (x : Operand) (ho : o.op = .load 23 x) (g k : Nat) (hx : a.eval x = .pointer (some ⟨g, k, none⟩))
    (hg : ∀ w, S w → w.rangeAt g k (incC y).toList) : YieldsIf Try.prog ops S o (.agg (incC y)) a :=
  yieldsIf_load_mid hw 23 x ho g k hx (incC y).toList _ hg Try.underlying23 rfl (inc_size y)
/-- The same, from wherever they lie. -/
theorem yields_bal_any (b : BalV) (hw : Region.wanted o (yielded ops a.tmps) = true) (x : Operand) (ho : o.op = .load 31 x) (A : Addr) (hx : a.eval x = .pointer (some A))
    (hg : ∀ w, S w → ∀ j v, (balC b).toList[j]? = some v → w.cell? (A.add j) = some v) : YieldsIf Try.prog ops S o (.agg (balC b)) a :=
  .inl ⟨hw, fun w hS => run_load_any 31 x ho A hx (balC b).toList _ (hg w hS) Try.underlying31 rfl (bal_size b)⟩
theorem yields_inc_any (y : IncV) (hw : Region.wanted o (yielded ops a.tmps) = true) (x : Operand) (ho : o.op = .load 23 x) (A : Addr) (hx : a.eval x = .pointer (some A))
    (hg : ∀ w, S w → ∀ j v, (incC y).toList[j]? = some v → w.cell? (A.add j) = some v) : YieldsIf Try.prog ops S o (.agg (incC y)) a :=
  .inl ⟨hw, fun w hS => run_load_any 23 x ho A hx (incC y).toList _ (hg w hS) Try.underlying23 rfl (inc_size y)⟩
theorem yields_bal_eq (b c : BalV) (hb : BalOk b) (hc : BalOk c) (hw : Region.wanted o (yielded ops a.tmps) = true) (x y : Operand) (ty' : TypeId) (ho : o.op = .binOp .eql 31 x y ty') (hx : a.eval x = .agg (balC b)) (hy : a.eval y = .agg (balC c)) :
    YieldsIf Try.prog ops S o (.bool (sameBal b c)) a := yields_bin_agg hw .eql 31 ty' x y ho _ _ hx hy _ guard_bal (eq_bal b c hb hc)
theorem yields_bal_ne (b c : BalV) (hb : BalOk b) (hc : BalOk c) (hw : Region.wanted o (yielded ops a.tmps) = true) (x y : Operand) (ty' : TypeId) (ho : o.op = .binOp .neq 31 x y ty') (hx : a.eval x = .agg (balC b)) (hy : a.eval y = .agg (balC c)) :
    YieldsIf Try.prog ops S o (.bool (!sameBal b c)) a := yields_bin_agg hw .neq 31 ty' x y ho _ _ hx hy _ guard_bal (neq_bal b c hb hc)
theorem yields_inc_eq (b c : IncV) (hb : IncOk b) (hc : IncOk c) (hw : Region.wanted o (yielded ops a.tmps) = true) (x y : Operand) (ty' : TypeId) (ho : o.op = .binOp .eql 23 x y ty') (hx : a.eval x = .agg (incC b)) (hy : a.eval y = .agg (incC c)) :
    YieldsIf Try.prog ops S o (.bool (sameInc b c)) a := yields_bin_agg hw .eql 23 ty' x y ho _ _ hx hy _ guard_inc (eq_inc b c hb hc)
theorem yields_inc_ne (b c : IncV) (hb : IncOk b) (hc : IncOk c) (hw : Region.wanted o (yielded ops a.tmps) = true) (x y : Operand) (ty' : TypeId) (ho : o.op = .binOp .neq 23 x y ty') (hx : a.eval x = .agg (incC b)) (hy : a.eval y = .agg (incC c)) :
    YieldsIf Try.prog ops S o (.bool (!sameInc b c)) a := yields_bin_agg hw .neq 23 ty' x y ho _ _ hx hy _ guard_inc (neq_inc b c hb hc)
theorem yields_build_bal0 (hw : Region.wanted o (yielded ops a.tmps) = true) (ho : o.op = .build 31 #[]) : YieldsIf Try.prog ops S o (.agg (balC bal0)) a := by
  refine .inl ⟨hw, fun w _ => ?_⟩
  unfold execOp
  simp [ho, run_build w 31 #[] (balC bal0) (by simpa using bal_built0), Sem.run_bind]
/-- What is built of parts whose values the prover names. -/
theorem yields_build_bal (n k : Nat) (hw : Region.wanted o (yielded ops a.tmps) = true) (x y : Operand) (ho : o.op = .build 31 #[(0, x), (1, y)]) (hx : a.eval x = .int .u32 (n : Int)) (hy : a.eval y = .int .u8 (k : Int)) : YieldsIf Try.prog ops S o (.agg (balC ⟨n, k⟩)) a := by
  refine .inl ⟨hw, fun w _ => ?_⟩
  unfold execOp
  simp [ho, hx, hy, run_build w 31 _ (balC ⟨n, k⟩) (bal_built2 n k), Sem.run_bind]
theorem plan_store_mid {i : Nat} {p : Plan} {P : Program} (hnth : nth ops.toList i = some o) (hw : Region.wanted o (yielded ops a.tmps) = true) (ty : TypeId) (x y : Operand) (ho : o.op = .store ty x y)
    (b k : Nat) (cells : Array Value) (hx : a.eval x = .pointer (some ⟨b, k, none⟩)) (hy : a.eval y = .agg cells)
    (ht : w.there b k cells.size) (hi : (P.info? ty).map (·.size) = some cells.size) (h1 : cells.all (·.oneCell') = true) (hS : S (w.setCells b k cells.toList))
    (h : wpPlan P ops Q S p (a.put o.dst undef) (w.setCells b k cells.toList)) : wpPlan P ops Q S (Plan.run i p) a w := by
  refine plan_run o hnth fun K hK => ?_
  rw [if_pos hw]
  exact wp_store_mid ty x y ho b k cells hx hy ht hi h1 (hK.out _ _ hS h)
end laws
end Go.Proofs.Ythpmkhbkbpifkaa
