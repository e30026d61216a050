/- Several texts in one, in build order: BalMath, BalMem, BalOpen. -/
import Derived.Test.YtecilienolabfaaGreatDoorPackMaps
import Derived.Test.YtecilienolabfaaGreatDoorPackRun
import Derived.Test.YtecilienolabfaaGreatDoorPackTools

/- BalMath: Ballots and acceptors as mathematics, and as rows of cells. -/
namespace Go.Proofs.YtecilienolabfaaGreatDoor
set_option linter.unusedSimpArgs false
set_option linter.unusedVariables false
open Go.RowKit

/-- A ballot. -/
structure BalV where
  n : Nat
  who : Nat

/-- What an acceptor keeps. -/
structure AccV where
  pro : BalV
  acc : BalV
  inc : IncV

def bal0 : BalV := ⟨0, 0⟩
def inc0 : IncV := ⟨0, 0, 0⟩
def acc0 : AccV := ⟨bal0, bal0, inc0⟩

def balC (b : BalV) : Array Value := #[.int .u32 b.n, .int .u8 b.who]
def accC (a : AccV) : Array Value := #[.int .u32 a.pro.n, .int .u8 a.pro.who, .int .u32 a.acc.n, .int .u8 a.acc.who, .int .u8 a.inc.kind, .int .u8 a.inc.osd, .int .i64 a.inc.n]

/-- Numbers fit their kinds. -/
structure BalOk (b : BalV) : Prop where
  n : b.n < 4294967296
  who : b.who < 256

structure AccOk (a : AccV) : Prop where
  pro : BalOk a.pro
  acc : BalOk a.acc
  inc : IncOk a.inc

theorem bal0_ok : BalOk bal0 := ⟨by decide, by decide⟩
theorem inc0_ok : IncOk inc0 := ⟨by decide, by decide, by decide, by decide⟩
theorem acc0_ok : AccOk acc0 := ⟨bal0_ok, bal0_ok, inc0_ok⟩

/-- The document's order, and what a ballot is. -/
def lessB (a b : BalV) : Bool := decide (a.n < b.n ∨ (a.n = b.n ∧ a.who < b.who))
def isB (b : BalV) : Bool := decide (0 < b.n ∧ b.who < 3)

theorem lessB_is (a b : BalV) : lessB a b = true ↔ (a.n < b.n ∨ (a.n = b.n ∧ a.who < b.who)) := decide_eq_true_iff
theorem isB_is (b : BalV) : isB b = true ↔ (0 < b.n ∧ b.who < 3) := decide_eq_true_iff

def sameBal (a b : BalV) : Bool := decide (a.n = b.n) && decide (a.who = b.who)
theorem sameBal_is (a b : BalV) : sameBal a b = true ↔ a = b := by
  obtain ⟨n, k⟩ := a
  obtain ⟨n', k'⟩ := b
  unfold sameBal
  simp

/-- Whether anything was accepted. -/
def hasA (a : AccV) : Bool := !sameBal a.acc bal0

/-- The errors, and what comes of Prepare and Accept. -/
def errP (p b : BalV) : Nat := if isB b = true then (if lessB b p = true then 100 else 0) else 10
def errA (p b : BalV) (x : IncV) : Nat := if isInc x = true then errP p b else 10
def prepM (a : AccV) (b : BalV) : AccV := if errP a.pro b = 0 then { a with pro := b } else a
def accM (a : AccV) (b : BalV) (x : IncV) : AccV := if errA a.pro b x = 0 then ⟨b, b, x⟩ else a
def tellB (a : AccV) (b : BalV) : BalV := if errP a.pro b = 0 then a.acc else bal0
def tellX (a : AccV) (b : BalV) : IncV := if errP a.pro b = 0 then a.inc else inc0
def tellH (a : AccV) (b : BalV) : Bool := if errP a.pro b = 0 then hasA a else false

theorem errP_cases (p b : BalV) : (errP p b = 10 ∧ isB b = false) ∨ (errP p b = 100 ∧ isB b = true ∧ lessB b p = true) ∨ (errP p b = 0 ∧ isB b = true ∧ lessB b p = false) := by
  unfold errP
  cases isB b <;> cases lessB b p <;> simp

theorem errA_cases (p b : BalV) (x : IncV) : (errA p b x = 10 ∧ (isInc x = false ∨ isB b = false)) ∨ (errA p b x = 100 ∧ isInc x = true ∧ isB b = true ∧ lessB b p = true) ∨ (errA p b x = 0 ∧ isInc x = true ∧ isB b = true ∧ lessB b p = false) := by
  unfold errA
  rcases errP_cases p b with ⟨h, k⟩ | ⟨h, k, l⟩ | ⟨h, k, l⟩ <;> cases isInc x <;> simp [*]

theorem prepM_ok {a : AccV} {b : BalV} (ha : AccOk a) (hb : BalOk b) : AccOk (prepM a b) := by
  unfold prepM
  split
  · exact ⟨hb, ha.acc, ha.inc⟩
  · exact ha
theorem accM_ok {a : AccV} {b : BalV} {x : IncV} (ha : AccOk a) (hb : BalOk b) (hx : IncOk x) : AccOk (accM a b x) := by
  unfold accM
  split
  · exact ⟨hb, hb, hx⟩
  · exact ha
theorem tellB_ok {a : AccV} {b : BalV} (ha : AccOk a) : BalOk (tellB a b) := by
  unfold tellB
  split
  · exact ha.acc
  · exact bal0_ok
theorem tellX_ok {a : AccV} {b : BalV} (ha : AccOk a) : IncOk (tellX a b) := by
  unfold tellX
  split
  · exact ha.inc
  · exact inc0_ok
end Go.Proofs.YtecilienolabfaaGreatDoor

/- BalMem: Ballots and acceptors in variables; ballots and increments held against each other. -/
namespace Go.Proofs.YtecilienolabfaaGreatDoor
set_option linter.unusedSimpArgs false
set_option linter.unusedVariables false
set_option maxRecDepth 100000
open Go.RowKit

theorem bal_size (b : BalV) : (Tryz.prog.info? 24).map (·.size) = some (balC b).size := by show _ = some 2; kernel_rfl
theorem bal_zero : (Tryz.prog.info? 24).map (·.zero) = some (some (.agg (balC bal0))) := by kernel_rfl
theorem bal_built0 : Tryz.prog.built 24 [] = some (balC bal0) := by kernel_rfl
theorem bal_built2 (n k : Nat) : Tryz.prog.built 24 [(0, .int .u32 (n : Int)), (1, .int .u8 (k : Int))] = some (balC ⟨n, k⟩) := by kernel_rfl
theorem bal_one (b : BalV) : (balC b).all (·.oneCell') = true := by
  unfold balC
  simp [Value.oneCell']
theorem inc_built0 : Tryz.prog.built 26 [] = some (incC inc0) := by kernel_rfl

theorem bal_cells {w : World} {g : Nat} {t : TypeId} {b : BalV} (h : Has w g t (balC b)) : w.cell? ⟨g, 0, none⟩ = some (.int .u32 b.n) ∧ w.cell? ⟨g, 1, none⟩ = some (.int .u8 b.who) := ⟨h.cell 0, h.cell 1⟩

theorem acc_pro {w : World} {g : Nat} {t : TypeId} {a : AccV} (h : Has w g t (accC a)) : w.rangeAt g 0 (balC a.pro).toList := h.range 0 _ fun j v hj => by
  match j, hj with
  | 0, hj => exact hj
  | 1, hj => exact hj
theorem acc_acc {w : World} {g : Nat} {t : TypeId} {a : AccV} (h : Has w g t (accC a)) : w.rangeAt g 2 (balC a.acc).toList := h.range 2 _ fun j v hj => by
  match j, hj with
  | 0, hj => exact hj
  | 1, hj => exact hj
theorem acc_inc {w : World} {g : Nat} {t : TypeId} {a : AccV} (h : Has w g t (accC a)) : w.rangeAt g 4 (incC a.inc).toList := h.range 4 _ fun j v hj => by
  match j, hj with
  | 0, hj => exact hj
  | 1, hj => exact hj
  | 2, hj => exact hj

theorem Has.set2 {w : World} {g : Nat} {t : TypeId} {c : Array Value} (h : Has w g t c) (o : Nat) (v0 v1 : Value) :
    Has (w.setCells g o [v0, v1]) g t ((c.setIfInBounds o v0).setIfInBounds (o + 1) v1) := (h.set o v0).set (o + 1) v1
theorem Has.setPro {w : World} {g : Nat} {t : TypeId} {a : AccV} (h : Has w g t (accC a)) (b : BalV) : Has (w.setCells g 0 (balC b).toList) g t (accC { a with pro := b }) := h.set2 0 (.int .u32 b.n) (.int .u8 b.who)
theorem Has.setAcc {w : World} {g : Nat} {t : TypeId} {a : AccV} (h : Has w g t (accC a)) (b : BalV) : Has (w.setCells g 2 (balC b).toList) g t (accC { a with acc := b }) := h.set2 2 (.int .u32 b.n) (.int .u8 b.who)
theorem Has.setInc {w : World} {g : Nat} {t : TypeId} {a : AccV} (h : Has w g t (accC a)) (x : IncV) : Has (w.setCells g 4 (incC x).toList) g t (accC { a with inc := x }) := h.set3 4 (.int .u8 x.kind) (.int .u8 x.osd) (.int .i64 x.n)

theorem cells_bal : Tryz.prog.cellsOf 24 = 2 := by kernel_rfl
theorem guard_bal : Tryz.prog.eqGuardType Tryz.prog.depth 24 = false := by kernel_rfl
theorem bal_key : Tryz.prog.keyTypeAt 5 24 = true := by kernel_rfl
def balK (b : BalV) : List Lit := [.int .u32 b.n, .int .u8 b.who]
theorem bal_lits (b : BalV) (h : BalOk b) (D : Nat) : Tryz.prog.keyLits (D + 2) 24 (balC b).toList = some (balK b) := by
  have w0 := wf_u32 h.n
  have w1 := wf_u8 h.who
  unfold Program.keyLits
  rw [Tryz.underlying24]
  simp [balC, balK, cells_bal, cells_u32, cells_u8, Program.keyLits, Tryz.underlying22, Tryz.underlying5, w0, w1]
theorem balK_inj {a b : BalV} (h : balK a = balK b) : a = b := by
  obtain ⟨n, k⟩ := a
  obtain ⟨n', k'⟩ := b
  simp [balK] at h
  obtain ⟨h1, h2⟩ := h
  have : n = n' := by omega
  subst this
  have : k = k' := by omega
  subst this
  rfl
theorem bal_equal (a b : BalV) (ha : BalOk a) (hb : BalOk b) (w : World) : (Op.equalIn 10000 24 (.agg (balC a)) (.agg (balC b))).run Tryz.prog w = .ok (sameBal a b) w := by
  have fa : (Value.agg (balC a)).formed Tryz.prog 24 = true := by simp [Value.formed, Tryz.underlying24, cells_bal, balC]
  have fb : (Value.agg (balC b)).formed Tryz.prog 24 = true := by simp [Value.formed, Tryz.underlying24, cells_bal, balC]
  obtain ⟨r, hr, hiff⟩ := run_equalIn_deep 9995 5 24 bal_key w 5 5 (.agg (balC a)) (.agg (balC b)) (balK a) (balK b) fa fb (bal_lits a ha 3) (bal_lits b hb 3)
  rw [← bool_same (hiff.trans ⟨balK_inj, fun h => by rw [h]⟩) (sameBal_is a b)]
  exact hr
theorem eq_bal (a b : BalV) (ha : BalOk a) (hb : BalOk b) (w : World) : (binOp .eql 24 (.agg (balC a)) (.agg (balC b))).run Tryz.prog w = .ok (.bool (sameBal a b)) w := by
  rw [run_eql_struct, bal_equal a b ha hb]
  rfl
theorem neq_bal (a b : BalV) (ha : BalOk a) (hb : BalOk b) (w : World) : (binOp .neq 24 (.agg (balC a)) (.agg (balC b))).run Tryz.prog w = .ok (.bool (!sameBal a b)) w := by
  rw [run_neq_struct, bal_equal a b ha hb]
  rfl
theorem neq_inc (x y : IncV) (hx : IncOk x) (hy : IncOk y) (w : World) : (binOp .neq 26 (.agg (incC x)) (.agg (incC y))).run Tryz.prog w = .ok (.bool (!sameInc x y)) w := by
  have fa : (Value.agg (incC x)).formed Tryz.prog 26 = true := by simp [Value.formed, Tryz.underlying26, cells_inc, incC]
  have fb : (Value.agg (incC y)).formed Tryz.prog 26 = true := by simp [Value.formed, Tryz.underlying26, cells_inc, incC]
  obtain ⟨r, hr, hiff⟩ := run_equalIn_deep 9995 5 26 inc_key w 5 5 (.agg (incC x)) (.agg (incC y)) (incK x) (incK y) fa fb (inc_lits x hx 3) (inc_lits y hy 3)
  have hr : (Op.equalIn 10000 26 (.agg (incC x)) (.agg (incC y))).run Tryz.prog w = .ok r w := hr
  rw [run_neq_struct, hr, bool_same (hiff.trans ⟨incK_inj, fun h => by rw [h]⟩) (sameInc_is x y)]
  rfl

section laws
variable {ops : Array Oper} {rest : List Oper} {o : Oper} {a : Act} {w : World} {Q : Exit → Act → World → Prop} {S : World → Prop}

theorem load_bal (b : BalV) (hw : Region.wanted o (yielded ops a.tmps) = true) (x : Operand) (ho : o.op = .load 24 x) (g : Nat) (hx : a.eval x = .pointer (some ⟨g, 0, none⟩))
    (hg : Has w g 24 (balC b)) (h : wpList Tryz.prog ops Q rest (a.put o.dst (.agg (balC b))) w) : wpList Tryz.prog ops Q (o :: rest) a w :=
  wpList_load_has hw 24 x ho g hx 24 (balC b) _ Tryz.underlying24 rfl (bal_size b) hg h
theorem store_bal (b old : BalV) (hw : Region.wanted o (yielded ops a.tmps) = true) (x y : Operand) (ho : o.op = .store 24 x y) (g : Nat) (hx : a.eval x = .pointer (some ⟨g, 0, none⟩)) (hy : a.eval y = .agg (balC b))
    (hg : Has w g 24 (balC old)) (h : wpList Tryz.prog ops Q rest (a.put o.dst undef) (w.setRow g (balC b))) : wpList Tryz.prog ops Q (o :: rest) a w :=
  wpList_store_has hw 24 x y ho g hx (balC b) hy 24 (balC old) (bal_size b) rfl (bal_one b) hg h
theorem alloc_bal (hw : Region.wanted o (yielded ops a.tmps) = true) (ho : o.op = .alloc 24)
    (h : wpList Tryz.prog ops Q rest (a.put o.dst (.pointer (some ⟨w.heap.size, 0, none⟩))) (w.alloc (.cells (balC bal0) 24))) : wpList Tryz.prog ops Q (o :: rest) a w :=
  wpList_alloc_has hw 24 ho (balC bal0) bal_zero h
theorem alloc_inc0 (hw : Region.wanted o (yielded ops a.tmps) = true) (ho : o.op = .alloc 26)
    (h : wpList Tryz.prog ops Q rest (a.put o.dst (.pointer (some ⟨w.heap.size, 0, none⟩))) (w.alloc (.cells (incC inc0) 26))) : wpList Tryz.prog ops Q (o :: rest) a w :=
  wpList_alloc_has hw 26 ho (incC inc0) inc_zero h
theorem build_bal0 (hw : Region.wanted o (yielded ops a.tmps) = true) (ho : o.op = .build 24 #[])
    (h : wpList Tryz.prog ops Q rest (a.put o.dst (.agg (balC bal0))) w) : wpList Tryz.prog ops Q (o :: rest) a w :=
  wpList_build_has hw 24 #[] ho (balC bal0) (by simpa using bal_built0) h
theorem build_inc0 (hw : Region.wanted o (yielded ops a.tmps) = true) (ho : o.op = .build 26 #[])
    (h : wpList Tryz.prog ops Q rest (a.put o.dst (.agg (incC inc0))) w) : wpList Tryz.prog ops Q (o :: rest) a w :=
  wpList_build_has hw 26 #[] ho (incC inc0) (by simpa using inc_built0) h
theorem bin_bal_eq (b c : BalV) (hb : BalOk b) (hc : BalOk c) (hw : Region.wanted o (yielded ops a.tmps) = true) (x y : Operand) (ty' : TypeId) (ho : o.op = .binOp .eql 24 x y ty') (hx : a.eval x = .agg (balC b)) (hy : a.eval y = .agg (balC c))
    (h : wpList Tryz.prog ops Q rest (a.put o.dst (.bool (sameBal b c))) w) : wpList Tryz.prog ops Q (o :: rest) a w :=
  wpList_bin_agg hw .eql 24 ty' x y ho _ _ hx hy _ guard_bal (eq_bal b c hb hc w) h
theorem bin_bal_ne (b c : BalV) (hb : BalOk b) (hc : BalOk c) (hw : Region.wanted o (yielded ops a.tmps) = true) (x y : Operand) (ty' : TypeId) (ho : o.op = .binOp .neq 24 x y ty') (hx : a.eval x = .agg (balC b)) (hy : a.eval y = .agg (balC c))
    (h : wpList Tryz.prog ops Q rest (a.put o.dst (.bool (!sameBal b c))) w) : wpList Tryz.prog ops Q (o :: rest) a w :=
  wpList_bin_agg hw .neq 24 ty' x y ho _ _ hx hy _ guard_bal (neq_bal b c hb hc w) h
theorem bin_inc_ne (b c : IncV) (hb : IncOk b) (hc : IncOk c) (hw : Region.wanted o (yielded ops a.tmps) = true) (x y : Operand) (ty' : TypeId) (ho : o.op = .binOp .neq 26 x y ty') (hx : a.eval x = .agg (incC b)) (hy : a.eval y = .agg (incC c))
    (h : wpList Tryz.prog ops Q rest (a.put o.dst (.bool (!sameInc b c))) w) : wpList Tryz.prog ops Q (o :: rest) a w :=
  wpList_bin_agg hw .neq 26 ty' x y ho _ _ hx hy _ guard_inc (neq_inc b c hb hc w) h

theorem yields_bal (b : BalV) (hw : Region.wanted o (yielded ops a.tmps) = true) (x : Operand) (ho : o.op = .load 24 x) (g : Nat) (hx : a.eval x = .pointer (some ⟨g, 0, none⟩))
    (hg : ∀ w, S w → Has w g 24 (balC b)) : YieldsIf Tryz.prog ops S o (.agg (balC b)) a :=
  yields_load_has hw 24 x ho g hx 24 (balC b) _ Tryz.underlying24 rfl (bal_size b) hg
/-- A ballot, an increment in the midst of a block. -/
theorem yields_bal_mid (b : BalV) (hw : Region.wanted o (yielded ops a.tmps) = true) (x : Operand) (ho : o.op = .load 24 x) (g k : Nat) (hx : a.eval x = .pointer (some ⟨g, k, none⟩))
    (hg : ∀ w, S w → w.rangeAt g k (balC b).toList) : YieldsIf Tryz.prog ops S o (.agg (balC b)) a :=
  yieldsIf_load_mid hw 24 x ho g k hx (balC b).toList _ hg Tryz.underlying24 rfl (bal_size b)
theorem yields_inc_mid (y : IncV) (hw : Region.wanted o (yielded ops a.tmps) = true) (x : Operand) (ho : o.op = .load 26 x) (g k : Nat) (hx : a.eval x = .pointer (some ⟨g, k, none⟩))
    (hg : ∀ w, S w → w.rangeAt g k (incC y).toList) : YieldsIf Tryz.prog ops S o (.agg (incC y)) a :=
  yieldsIf_load_mid hw 26 x ho g k hx (incC y).toList _ hg Tryz.underlying26 rfl (inc_size y)
/-- The same, from wherever they lie. -/
theorem yields_bal_any (b : BalV) (hw : Region.wanted o (yielded ops a.tmps) = true) (x : Operand) (ho : o.op = .load 24 x) (A : Addr) (hx : a.eval x = .pointer (some A))
    (hg : ∀ w, S w → ∀ j v, (balC b).toList[j]? = some v → w.cell? (A.add j) = some v) : YieldsIf Tryz.prog ops S o (.agg (balC b)) a :=
  .inl ⟨hw, fun w hS => run_load_any 24 x ho A hx (balC b).toList _ (hg w hS) Tryz.underlying24 rfl (bal_size b)⟩
theorem yields_inc_any (y : IncV) (hw : Region.wanted o (yielded ops a.tmps) = true) (x : Operand) (ho : o.op = .load 26 x) (A : Addr) (hx : a.eval x = .pointer (some A))
    (hg : ∀ w, S w → ∀ j v, (incC y).toList[j]? = some v → w.cell? (A.add j) = some v) : YieldsIf Tryz.prog ops S o (.agg (incC y)) a :=
  .inl ⟨hw, fun w hS => run_load_any 26 x ho A hx (incC y).toList _ (hg w hS) Tryz.underlying26 rfl (inc_size y)⟩
theorem yields_bal_eq (b c : BalV) (hb : BalOk b) (hc : BalOk c) (hw : Region.wanted o (yielded ops a.tmps) = true) (x y : Operand) (ty' : TypeId) (ho : o.op = .binOp .eql 24 x y ty') (hx : a.eval x = .agg (balC b)) (hy : a.eval y = .agg (balC c)) :
    YieldsIf Tryz.prog ops S o (.bool (sameBal b c)) a := yields_bin_agg hw .eql 24 ty' x y ho _ _ hx hy _ guard_bal (eq_bal b c hb hc)
theorem yields_bal_ne (b c : BalV) (hb : BalOk b) (hc : BalOk c) (hw : Region.wanted o (yielded ops a.tmps) = true) (x y : Operand) (ty' : TypeId) (ho : o.op = .binOp .neq 24 x y ty') (hx : a.eval x = .agg (balC b)) (hy : a.eval y = .agg (balC c)) :
    YieldsIf Tryz.prog ops S o (.bool (!sameBal b c)) a := yields_bin_agg hw .neq 24 ty' x y ho _ _ hx hy _ guard_bal (neq_bal b c hb hc)
theorem yields_inc_eq (b c : IncV) (hb : IncOk b) (hc : IncOk c) (hw : Region.wanted o (yielded ops a.tmps) = true) (x y : Operand) (ty' : TypeId) (ho : o.op = .binOp .eql 26 x y ty') (hx : a.eval x = .agg (incC b)) (hy : a.eval y = .agg (incC c)) :
    YieldsIf Tryz.prog ops S o (.bool (sameInc b c)) a := yields_bin_agg hw .eql 26 ty' x y ho _ _ hx hy _ guard_inc (eq_inc b c hb hc)
theorem yields_inc_ne (b c : IncV) (hb : IncOk b) (hc : IncOk c) (hw : Region.wanted o (yielded ops a.tmps) = true) (x y : Operand) (ty' : TypeId) (ho : o.op = .binOp .neq 26 x y ty') (hx : a.eval x = .agg (incC b)) (hy : a.eval y = .agg (incC c)) :
    YieldsIf Tryz.prog ops S o (.bool (!sameInc b c)) a := yields_bin_agg hw .neq 26 ty' x y ho _ _ hx hy _ guard_inc (neq_inc b c hb hc)
theorem yields_build_bal0 (hw : Region.wanted o (yielded ops a.tmps) = true) (ho : o.op = .build 24 #[]) : YieldsIf Tryz.prog ops S o (.agg (balC bal0)) a := by
  refine .inl ⟨hw, fun w _ => ?_⟩
  unfold execOp
  simp [ho, run_build w 24 #[] (balC bal0) (by simpa using bal_built0), Sem.run_bind]
/-- What is built of parts whose values the prover names. -/
theorem yields_build_bal (n k : Nat) (hw : Region.wanted o (yielded ops a.tmps) = true) (x y : Operand) (ho : o.op = .build 24 #[(0, x), (1, y)]) (hx : a.eval x = .int .u32 (n : Int)) (hy : a.eval y = .int .u8 (k : Int)) : YieldsIf Tryz.prog ops S o (.agg (balC ⟨n, k⟩)) a := by
  refine .inl ⟨hw, fun w _ => ?_⟩
  unfold execOp
  simp [ho, hx, hy, run_build w 24 _ (balC ⟨n, k⟩) (bal_built2 n k), Sem.run_bind]
theorem plan_store_mid {i : Nat} {p : Plan} {P : Program} (hnth : nth ops.toList i = some o) (hw : Region.wanted o (yielded ops a.tmps) = true) (ty : TypeId) (x y : Operand) (ho : o.op = .store ty x y)
    (b k : Nat) (cells : Array Value) (hx : a.eval x = .pointer (some ⟨b, k, none⟩)) (hy : a.eval y = .agg cells)
    (ht : w.there b k cells.size) (hi : (P.info? ty).map (·.size) = some cells.size) (h1 : cells.all (·.oneCell') = true) (hS : S (w.setCells b k cells.toList))
    (h : wpPlan P ops Q S p (a.put o.dst undef) (w.setCells b k cells.toList)) : wpPlan P ops Q S (Plan.run i p) a w := by
  refine plan_run o hnth fun K hK => ?_
  rw [if_pos hw]
  exact wp_store_mid ty x y ho b k cells hx hy ht hi h1 (hK.out _ _ hS h)
end laws
end Go.Proofs.YtecilienolabfaaGreatDoor

/- BalOpen: What comes in, opened: ballots by value. -/
namespace Go.Proofs.YtecilienolabfaaGreatDoor
set_option linter.unusedSimpArgs false
set_option linter.unusedVariables false
set_option maxRecDepth 100000
open Go.ChangeShapes Go.WideShapes Go.ChangeAt Go.RowKit

variable {H : Type} {enc : TypeId × Value → H} {W : World} {base : Nat} {spare : Nat → Bool} {held : Bool} {fuel : Nat} {y : DataW H × List MemPlace}

theorem list2 {α : Type} (l : List α) (h : l.length = 2) : ∃ a b, l = [a, b] := by
  match l, h with
  | [a, b], _ => exact ⟨a, b, rfl⟩

theorem reads_bal {cs : List Value} (h : DataW.trod enc Tryz.prog W base spare held fuel 24 cs = some y) : ∃ b : BalV, cs = (balC b).toList ∧ BalOk b := by
  obtain ⟨xs, n, _, _, hl, hxl, hf⟩ := DataW.trod_struct Tryz.underlying24 h
  rw [cells_bal] at hl
  have hxl : xs.length = 2 := hxl
  obtain ⟨c0, c1, rfl⟩ := list2 cs hl
  have h0 : DataW.trod enc Tryz.prog W base spare held n 22 (([c0, c1].drop 0).take (Tryz.prog.cellsOf 22)) = xs[0]? := hf 0 _ rfl
  have h1 : DataW.trod enc Tryz.prog W base spare held n 5 (([c0, c1].drop 1).take (Tryz.prog.cellsOf 5)) = xs[1]? := hf 1 _ rfl
  rw [cells_u32] at h0
  rw [cells_u8] at h1
  obtain ⟨y0, e0⟩ := some_of h0 (by omega)
  obtain ⟨y1, e1⟩ := some_of h1 (by omega)
  obtain ⟨x0, q0, _, w0⟩ := DataW.trod_int Tryz.underlying22 e0
  obtain ⟨x1, q1, _, w1⟩ := DataW.trod_int Tryz.underlying5 e1
  simp at q0 q1
  subst q0 q1
  have b0 := bounds_u32 w0
  have b1 := bounds_u8 w1
  obtain ⟨k, rfl⟩ := Int.eq_ofNat_of_zero_le b0.1
  obtain ⟨o, rfl⟩ := Int.eq_ofNat_of_zero_le b1.1
  exact ⟨⟨k, o⟩, rfl, ⟨show k < 4294967296 by omega, show o < 256 by omega⟩⟩

theorem open_bal {v : Value} {d : DataW H} {p : List MemPlace} (ok : Value.okWide Tryz.prog W .any base 24 v) (h : DataW.Trod enc Tryz.prog W 0 (fun _ => true) true 24 v d p) :
    ∃ b : BalV, v = .agg (balC b) ∧ BalOk b := by
  obtain ⟨cs, rfl, hsz⟩ := okWide_struct Tryz.underlying24 ok
  obtain ⟨fuel, hf⟩ := h
  obtain ⟨x, hx, hk⟩ := reads_bal hf
  exact ⟨x, by rw [show cs = balC x from Array.toList_inj.1 hx], hk⟩

end Go.Proofs.YtecilienolabfaaGreatDoor
