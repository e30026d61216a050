/- Three acceptors side by side; two of three. -/
import Derived.Test.YtlcappkokdgpgaaRisesFacts
import Derived.Test.YtlcappkokdgpgaaVal32
import Derived.Test.YtlcappkokdgpgaaAny
namespace Go.Proofs.Ytlcappkokdgpgaa
set_option linter.unusedSimpArgs false
set_option linter.unusedVariables false
set_option maxRecDepth 100000
open Go.RowKit

def arr2 (a b : Nat) : Array Value := #[.int .u8 a, .int .u8 b]
def arrpC (p : Nat → Nat) : Array Value := #[.pointer (some ⟨p 0, 0, none⟩), .pointer (some ⟨p 1, 0, none⟩), .pointer (some ⟨p 2, 0, none⟩)]
theorem arrp_size (p : Nat → Nat) : (Try.prog.info? 52).map (·.size) = some (arrpC p).size := by show _ = some 3; kernel_rfl
theorem arrp_zero : (Try.prog.info? 52).map (·.zero) = some (some (.agg #[.pointer none, .pointer none, .pointer none])) := by kernel_rfl
theorem arrp_one (p : Nat → Nat) : (arrpC p).all (·.oneCell') = true := by simp [arrpC, Value.oneCell']
theorem arrp_built (a b c : Nat) : Try.prog.built 52 [(0, .pointer (some ⟨a, 0, none⟩)), (1, .pointer (some ⟨b, 0, none⟩)), (2, .pointer (some ⟨c, 0, none⟩))] = some #[.pointer (some ⟨a, 0, none⟩), .pointer (some ⟨b, 0, none⟩), .pointer (some ⟨c, 0, none⟩)] := by kernel_rfl
theorem arrp_at {w : World} {g : Nat} {t : TypeId} {p : Nat → Nat} (h : Has w g t (arrpC p)) (i : Nat) (hi : i < 3) : w.cell? ⟨g, i, none⟩ = some (.pointer (some ⟨p i, 0, none⟩)) := by
  have := h.cell i
  match i, hi with
  | 0, _ => exact this
  | 1, _ => exact this
  | 2, _ => exact this

theorem wpList_build_3 {P : Program} {ops : Array Oper} {rest : List Oper} {o : Oper} {a : Act} {w : World} {Q : Exit → Act → World → Prop} (hw : Region.wanted o (yielded ops a.tmps) = true) (t : TypeId) (i j k : Nat) (x y z : Operand) (ho : o.op = .build t #[(i, x), (j, y), (k, z)]) (u v s : Value) (hx : a.eval x = u) (hy : a.eval y = v) (hz : a.eval z = s) (c : Array Value) (hf : P.built t [(i, u), (j, v), (k, s)] = some c)
    (h : wpList P ops Q rest (a.put o.dst (.agg c)) w) : wpList P ops Q (o :: rest) a w :=
  wpList_build_has hw t _ ho c (by simpa [hx, hy, hz] using hf) h
/-- An element of an array of plain cells that is a value. -/
theorem run_index_cell {P : Program} {o : Oper} {ev : Operand → Value} (ty e : TypeId) (x y : Operand) (ho : o.op = .index ty x y) (len n : Nat) (cs : Array Value) (v : Value) (hx : ev x = .agg cs) (hy : ev y = .int .i64 (n : Int)) (k : IntKind) (hu : P.underlying ty = some (.array len e)) (hn : n < len) (hue : P.underlying e = some (.int k)) (hi : (P.info? e).map (·.size) = some 1) (hv : cs[n]? = some v) (w : World) :
    (execOp ev o).run P w = .ok (.value v) w := by
  cases hq : P.info? e with
  | none => simp [hq] at hi
  | some i =>
    have hs : i.size = 1 := by simpa [hq] using hi
    have hagg : (isAgg e).run P w = .ok false w := by
      unfold isAgg
      rw [Sem.run_bind, run_underlying hue w]
      rfl
    have h0 : (0 : Int) ≤ (n : Int) ∧ (n : Int) < (len : Int) := by omega
    have hm : (Instr.index ty (.agg cs) (.int .i64 (n : Int))).run P w = .ok v w := by
      simp [Instr.index, asIntOf, Sem.run_bind, run_underlying hu, h0, sizeOf, typeInfo, hq, hs, part, hagg, hv]
      try (intro hh; omega)
    unfold execOp
    simp only [ho, hx, hy]
    simp [Sem.run_bind, hm]
theorem at_opn {P : Program} {ops : Array Oper} {rest : List Oper} {d : Option Tmp} {op : Op} {t : TypeId} {p : String} {af : Array Edge} {a : Act} {w : World} {Q : Exit → Act → World → Prop} (h : wpList P ops Q (⟨d, op, t, p, af, none⟩ :: rest) a w) : wpList P ops Q (⟨d, op, t, p, af, none⟩ :: rest) a w := h
theorem yields_build_inc1 {ops : Array Oper} {S : World → Prop} {o : Oper} {a : Act} (k : Nat) (hw : Region.wanted o (yielded ops a.tmps) = true) (x : Operand) (ho : o.op = .build 31 #[(0, x)]) (hx : a.eval x = .int .u8 (k : Int)) : YieldsIf Try.prog ops S o (.agg (incC ⟨k, 0, 0⟩)) a := by
  refine .inl ⟨hw, fun w _ => ?_⟩
  unfold execOp
  simp [ho, hx, run_build w 31 _ (incC ⟨k, 0, 0⟩) (inc_b1 k), Sem.run_bind]
theorem yields_named {P : Program} {ops : Array Oper} {S : World → Prop} {o : Oper} {a : Act} (v : Value) (hw : Region.wanted o (yielded ops a.tmps) = true) (hr : ∀ w, (execOp a.eval o).run P w = .ok (.value v) w) : YieldsIf P ops S o v a := .inl ⟨hw, fun w _ => hr w⟩

/-- Three acceptors. -/
structure Trio (w : World) (p : Nat → Nat) (st : Nat → AccV) : Prop where
  at' : ∀ j, j < 3 → Has w (p j) 56 (accC (st j))
  ok : ∀ j, j < 3 → AccOk (st j)
/-- Where they lie. -/
structure Lie (w0 : World) (p : Nat → Nat) : Prop where
  low : ∀ j, j < 3 → w0.heap.size ≤ p j
  ne : ∀ i j, i < 3 → j < 3 → i ≠ j → p i ≠ p j
def upd (st : Nat → AccV) (i : Nat) (A : AccV) : Nat → AccV := fun j => if j = i then A else st j
theorem upd_at (st : Nat → AccV) (i : Nat) (A : AccV) : upd st i A i = A := if_pos rfl
theorem upd_ne (st : Nat → AccV) {i j : Nat} (h : j ≠ i) (A : AccV) : upd st i A j = st j := if_neg h
theorem Trio.later {w w' : World} {p : Nat → Nat} {st : Nat → AccV} (h : Trio w p st) (k : Below w.heap.size w w') : Trio w' p st := ⟨fun j hj => (h.at' j hj).later k, h.ok⟩
theorem Trio.drew {w : World} {p : Nat → Nat} {st : Nat → AccV} (h : Trio w p st) : Trio w.drew p st := ⟨fun j hj => (h.at' j hj).drew, h.ok⟩
theorem Trio.but {w0 w w' : World} {p : Nat → Nat} {st : Nat → AccV} (h : Trio w p st) (hl : Lie w0 p) {i : Nat} (hi : i < 3) {A : AccV} (hA : Has w' (p i) 56 (accC A)) (ho : AccOk A) (k : But (p i) w w') : Trio w' p (upd st i A) := by
  refine ⟨fun j hj => ?_, fun j hj => ?_⟩
  · by_cases e : j = i
    · subst e
      rw [upd_at]
      exact hA
    · rw [upd_ne st e]
      exact k.has (h.at' j hj) (hl.ne j i hj hi e)
  · by_cases e : j = i
    · subst e
      rw [upd_at]
      exact ho
    · rw [upd_ne st e]
      exact h.ok j hj
theorem Trio.row_other {w : World} {p : Nat → Nat} {st : Nat → AccV} (h : Trio w p st) {g : Nat} (hg : ∀ j, j < 3 → p j ≠ g) (c : Array Value) : Trio (w.setRow g c) p st := ⟨fun j hj => (h.at' j hj).row_other (hg j hj) c, h.ok⟩
theorem Trio.same {w : World} {p : Nat → Nat} {st : Nat → AccV} (h : Trio w p st) (st' : Nat → AccV) (hs : ∀ j, j < 3 → st j = st' j) : Trio w p st' := ⟨fun j hj => by rw [← hs j hj]; exact h.at' j hj, fun j hj => by rw [← hs j hj]; exact h.ok j hj⟩

theorem Trio.apart {w w' : World} {p : Nat → Nat} {st : Nat → AccV} (h : Trio w p st) {g : Nat} (k : But g w w') (hg : ∀ j, j < 3 → p j ≠ g) : Trio w' p st := ⟨fun j hj => k.has (h.at' j hj) (hg j hj), h.ok⟩
theorem upd_self {st : Nat → AccV} {i : Nat} {A : AccV} (h : st i = A) (j : Nat) : upd st i A j = st j := by
  by_cases e : j = i
  · subst e
    rw [upd_at, h]
  · exact upd_ne st e A

/-- Behind k of the two promises. -/
def stK (b : BalV) (x y k : Nat) : Nat → AccV := fun j => if (j = x ∧ 0 < k) ∨ (j = y ∧ 1 < k) then ⟨b, bal0, inc0⟩ else acc0

theorem stK_next (b : BalV) {x y k i : Nat} (h : (k = 0 ∧ i = x) ∨ (k = 1 ∧ i = y)) (j : Nat) : upd (stK b x y k) i ⟨b, bal0, inc0⟩ j = stK b x y (k + 1) j := by
  unfold upd stK
  rcases h with ⟨rfl, rfl⟩ | ⟨rfl, rfl⟩
  · by_cases e : j = i
    · rw [if_pos e, if_pos (by omega)]
    · rw [if_neg e, if_neg (by omega), if_neg (by omega)]
  · by_cases e : j = i
    · rw [if_pos e, if_pos (by omega)]
    · rw [if_neg e]
      by_cases e' : j = x
      · rw [if_pos (by omega), if_pos (by omega)]
      · rw [if_neg (by omega), if_neg (by omega)]
theorem stK_at (b : BalV) {x y k i : Nat} (hxy : x ≠ y) (h : (k = 0 ∧ i = x) ∨ (k = 1 ∧ i = y)) : stK b x y k i = acc0 := by
  unfold stK
  rw [if_neg (by omega)]
theorem run_add_i64 {P : Program} {o : Oper} {ev : Operand → Value} (ty ty' : TypeId) (x y : Operand) (ho : o.op = .binOp .add ty x y ty') (n m k : Nat) (hx : ev x = .int .i64 (n : Int)) (hy : ev y = .int .i64 (m : Int)) (hk : n + m = k) (hl : k < 1000000) (w : World) :
    (execOp ev o).run P w = .ok (.value (.int .i64 (k : Int))) w := by
  subst hk
  have h4 : IntKind.i64.wrap ((n : Int) + (m : Int)) = ((n + m : Nat) : Int) := by
    simp [IntKind.wrap, IntKind.bits, IntKind.signed]
    omega
  unfold execOp
  simp only [ho, hx, hy]
  simp [Sem.run_bind, go_sem, h4]
theorem third {x y : Nat} (hx : x < 3) (hy : y < 3) (h : x ≠ y) : ∃ z, z < 3 ∧ z ≠ x ∧ z ≠ y ∧ ∀ j, j < 3 → j = x ∨ j = y ∨ j = z := ⟨3 - x - y, by omega, by omega, by omega, fun j hj => by omega⟩
theorem none_is : isInc ⟨4, 0, 0⟩ = true := by decide
theorem none_ok : IncOk ⟨4, 0, 0⟩ := ⟨by decide, by decide, by decide, by decide⟩
theorem less_b {m c r : Nat} : lessB ⟨c, r⟩ ⟨m, 1⟩ = true ∨ lessB ⟨c, r⟩ ⟨m, 1⟩ = false := by cases lessB ⟨c, r⟩ ⟨m, 1⟩ <;> simp

end Go.Proofs.Ytlcappkokdgpgaa
