/- Maps in memory whose keys are numbers of 32 bits one behind the other: look-ups, the next one put in, the length, a clone. Nothing of the program is in it. -/
import Derived.Test.YtmfgmdglpeadbaaPlan
import Derived.MapKept
import Derived.Carry
namespace Go.Proofs.Ytmfgmdglpeadbaa
set_option linter.unusedSimpArgs false
set_option linter.unusedVariables false
open Go.RowKit Go.MapKept

def entryN (o : Nat) (f : Nat → Value) (k : Nat) : MapEntry := ⟨.int .u32 ((k + o : Nat) : Int), f k, k⟩

def rowN (o : Nat) (f : Nat → Value) : Nat → Nat → List MapEntry
  | _, 0 => []
  | s, n + 1 => entryN o f s :: rowN o f (s + 1) n

theorem rowN_len (o : Nat) (f : Nat → Value) : ∀ s n, (rowN o f s n).length = n
  | _, 0 => rfl
  | s, n + 1 => by simp [rowN, rowN_len o f (s + 1) n]

theorem rowN_snoc (o : Nat) (f : Nat → Value) : ∀ s n, rowN o f s (n + 1) = rowN o f s n ++ [entryN o f (s + n)]
  | s, 0 => by simp [rowN]
  | s, n + 1 => by
    rw [rowN, rowN_snoc o f (s + 1) n, rowN]
    simp [Nat.add_assoc, Nat.add_comm 1 n]

theorem rowN_congr {o : Nat} {f g : Nat → Value} : ∀ s n, (∀ k, s ≤ k → k < s + n → f k = g k) → rowN o f s n = rowN o g s n
  | _, 0, _ => rfl
  | s, n + 1, h => by
    rw [rowN, rowN, rowN_congr (s + 1) n (fun k h1 h2 => h k (by omega) (by omega))]
    unfold entryN
    rw [h s (Nat.le_refl _) (by omega)]

/-- What is found at a number. -/
def foundN (o n : Nat) (f : Nat → Value) (e : Nat) : Option (Nat × Value) := if o ≤ e ∧ e < o + n then some (e - o, f (e - o)) else none

theorem find_row (o : Nat) (f : Nat → Value) (e : Nat) : ∀ n s, Instr.findNow (.int .u32) (.int .u32 (e : Int)) (rowN o f s n) s = some (if s + o ≤ e ∧ e < s + o + n then some (e - o, f (e - o)) else none)
  | 0, s => by
    rw [if_neg (by omega)]
    rfl
  | n + 1, s => by
    rw [rowN]
    unfold Instr.findNow
    have hs : Instr.sameNow (.int .u32) (.int .u32 (e : Int)) (entryN o f s).key = some ((e : Int) == ((s + o : Nat) : Int)) := by
      simp [entryN, Instr.sameNow]
    rw [hs]
    by_cases he : e = s + o
    · have h1 : ((e : Int) == ((s + o : Nat) : Int)) = true := by rw [beq_iff_eq, he]
      rw [h1, if_pos (by omega)]
      subst he
      simp [entryN]
    · have h1 : ((e : Int) == ((s + o : Nat) : Int)) = false := by rw [beq_eq_false_iff_ne]; omega
      rw [h1]
      show Instr.findNow (.int .u32) (.int .u32 (e : Int)) (rowN o f (s + 1) n) (s + 1) = _
      rw [find_row o f e n (s + 1)]
      by_cases hc : s + 1 + o ≤ e ∧ e < s + 1 + o + n
      · rw [if_pos hc, if_pos (by omega)]
      · rw [if_neg hc, if_neg (by omega)]

/-- Block b is a map of n entries, at o, o + 1, .. -/
def MapRow (w : World) (b o n : Nat) (f : Nat → Value) : Prop := w.heap[b]? = some (.map (rowN o f 0 n).toArray n)

theorem MapRow.lt {w : World} {b o n : Nat} {f : Nat → Value} (h : MapRow w b o n f) : b < w.heap.size := (Array.getElem?_eq_some_iff.1 h).1

theorem MapRow.later {w w' : World} {b o n : Nat} {f : Nat → Value} (h : MapRow w b o n f) (hb : Below w.heap.size w w') : MapRow w' b o n f := by
  have := h.lt
  unfold MapRow at *
  rw [hb.block b this]
  exact h

theorem MapRow.drew {w : World} {b o n : Nat} {f : Nat → Value} (h : MapRow w b o n f) : MapRow w.drew b o n f := h

theorem MapRow.new (w : World) (o n : Nat) (f : Nat → Value) : MapRow (w.alloc (.map (rowN o f 0 n).toArray n)) w.heap.size o n f := (heap_alloc w _).1

theorem find_at (o n : Nat) (f : Nat → Value) (e : Nat) : Instr.findNow (.int .u32) (.int .u32 (e : Int)) (rowN o f 0 n) 0 = some (foundN o n f e) := by
  rw [find_row o f e n 0]
  unfold foundN
  simp only [Nat.zero_add]

/-- What a look-up tells. -/
def lookN (o n : Nat) (f : Nat → Value) (z : Value) (e : Nat) : Value := if o ≤ e ∧ e < o + n then f (e - o) else z

theorem key_u32 (e : Int) : IsKey (.int .u32) (.int .u32 e) := rfl

section
variable {P : Program} {w : World} {b o n : Nat} {f : Nat → Value}

theorem run_look (h : MapRow w b o n f) (t k el : TypeId) (ht : P.underlying t = some (.map k el)) (hk : P.underlying k = some (.int .u32)) (z : Value) (hz : ∀ w, (zeroValue el).run P w = .ok z w) (e : Nat) :
    (Instr.lookup t (.map (some b)) (.int .u32 (e : Int)) false).run P w = .ok (lookN o n f z e) w := by
  have hf := run_findKey (P := P) (w := w) (kt := k) hk (find_at o n f e)
  unfold foundN at hf
  unfold lookN
  by_cases hc : o ≤ e ∧ e < o + n
  · rw [if_pos hc] at hf ⊢
    simp [Instr.lookup, Sem.run_bind, run_underlying ht, Go.MapKept.run_getObj_map (show w.heap[b]? = some (.map (rowN o f 0 n).toArray n) from h), run_checkKey hk (key_u32 _), hf, Result.andThen]
  · rw [if_neg hc] at hf ⊢
    simp [Instr.lookup, Sem.run_bind, run_underlying ht, Go.MapKept.run_getObj_map (show w.heap[b]? = some (.map (rowN o f 0 n).toArray n) from h), run_checkKey hk (key_u32 _), hf, hz, Result.andThen]

theorem run_look_ok (h : MapRow w b o n f) (t k el : TypeId) (ht : P.underlying t = some (.map k el)) (hk : P.underlying k = some (.int .u32)) (z : Value) (hz : ∀ w, (zeroValue el).run P w = .ok z w) (e : Nat) :
    (Instr.lookup t (.map (some b)) (.int .u32 (e : Int)) true).run P w = .ok (.tuple #[lookN o n f z e, .bool (decide (o ≤ e ∧ e < o + n))]) w := by
  have hf := run_findKey (P := P) (w := w) (kt := k) hk (find_at o n f e)
  unfold foundN at hf
  unfold lookN
  by_cases hc : o ≤ e ∧ e < o + n
  · rw [if_pos hc] at hf ⊢
    simp [Instr.lookup, Sem.run_bind, run_underlying ht, Go.MapKept.run_getObj_map (show w.heap[b]? = some (.map (rowN o f 0 n).toArray n) from h), run_checkKey hk (key_u32 _), hf, Result.andThen, hc]
  · rw [if_neg hc] at hf ⊢
    simp [Instr.lookup, Sem.run_bind, run_underlying ht, Go.MapKept.run_getObj_map (show w.heap[b]? = some (.map (rowN o f 0 n).toArray n) from h), run_checkKey hk (key_u32 _), hf, hz, Result.andThen]
    omega

/-- The world with another block. -/
def putBlock (w : World) (b : Nat) (o : Obj) : World := { w with heap := w.heap.setIfInBounds b o }

theorem putBlock_size (w : World) (b : Nat) (o : Obj) : (putBlock w b o).heap.size = w.heap.size := by simp [putBlock]
theorem putBlock_same {w : World} {b : Nat} (o : Obj) (h : b < w.heap.size) : (putBlock w b o).heap[b]? = some o := by simp [putBlock, h]
theorem putBlock_other (w : World) {b k : Nat} (o : Obj) (h : k ≠ b) : (putBlock w b o).heap[k]? = w.heap[k]? := by
  show (w.heap.setIfInBounds b o)[k]? = _
  simp [Ne.symm h]

theorem MapRow.put {w : World} {b o n m : Nat} {f g : Nat → Value} (h : MapRow w b o n f) : MapRow (putBlock w b (.map (rowN o g 0 m).toArray m)) b o m g := putBlock_same _ h.lt
theorem MapRow.put_other {w : World} {b c o n : Nat} {f : Nat → Value} (h : MapRow w c o n f) (hc : c ≠ b) (ob : Obj) : MapRow (putBlock w b ob) c o n f := (putBlock_other w ob hc).trans h
theorem Has.put_other {w : World} {b g : Nat} {t : TypeId} {c : Array Value} (h : Has w g t c) (hg : g ≠ b) (ob : Obj) : Has (putBlock w b ob) g t c := (putBlock_other w ob hg).trans h
theorem below_put {B : Nat} {w W : World} (h : Below B w W) {b : Nat} (hb : B ≤ b) (ob : Obj) : Below B w (putBlock W b ob) :=
  ⟨h.os, h.tape, h.output, by rw [putBlock_size]; exact h.size, fun k hk => (putBlock_other W ob (by omega)).trans (h.block k hk)⟩

/-- One more behind the others. -/
theorem run_next (h : MapRow w b o n f) (t k el : TypeId) (ht : P.underlying t = some (.map k el)) (hk : P.underlying k = some (.int .u32)) (e : Nat) (he : e = n + o) (v : Value) (g : Nat → Value) (hg : ∀ k, k < n → f k = g k) (hv : g n = v) :
    (Instr.mapUpdate t (.map (some b)) (.int .u32 (e : Int)) v).run P w = .ok () (putBlock w b (.map (rowN o g 0 (n + 1)).toArray (n + 1))) := by
  have hf := run_findKey (P := P) (w := w) (kt := k) hk (find_at o n f e)
  unfold foundN at hf
  rw [if_neg (by omega)] at hf
  have hr : (rowN o g 0 (n + 1)).toArray = (rowN o f 0 n).toArray.push ⟨.int .u32 (e : Int), v, n⟩ := by
    rw [rowN_snoc, rowN_congr (f := g) (g := f) 0 n (fun k _ hk => (hg k (by omega)).symm)]
    unfold entryN
    rw [Nat.zero_add, hv, he]
    simp
  rw [hr]
  simp [Instr.mapUpdate, Sem.run_bind, run_underlying ht, Go.MapKept.run_getObj_map (show w.heap[b]? = some (.map (rowN o f 0 n).toArray n) from h), run_checkKey hk (key_u32 _), hf, Go.MapKept.run_setObj_map _ (show w.heap[b]? = some (.map (rowN o f 0 n).toArray n) from h), Result.andThen, putBlock]

theorem run_len_map (h : MapRow w b o n f) (t k el : TypeId) (ht : P.underlying t = some (.map k el)) (ty : TypeId) :
    (Builtin.len_ #[t] ty #[.map (some b)]).run P w = .ok (.int .i64 (n : Int)) w := by
  simp [Builtin.len_, Sem.run_bind, run_underlying ht, Go.MapKept.run_getObj_map (show w.heap[b]? = some (.map (rowN o f 0 n).toArray n) from h), rowN_len, Result.andThen, goInt]
end

section laws
variable {P : Program} {ops : Array Oper} {rest : List Oper} {o : Oper} {a : Act} {w : World} {Q : Exit → Act → World → Prop} {S : World → Prop} {b O n : Nat} {f : Nat → Value}

theorem wpList_look (hw : Region.wanted o (yielded ops a.tmps) = true) (t : TypeId) (m x : Operand) (ho : o.op = .lookup t m x false) (hm : a.eval m = .map (some b)) (e : Nat) (hx : a.eval x = .int .u32 (e : Int)) (h : MapRow w b O n f)
    (k el : TypeId) (ht : P.underlying t = some (.map k el)) (hk : P.underlying k = some (.int .u32)) (z : Value) (hz : ∀ w, (zeroValue el).run P w = .ok z w) (v : Value) (hv : lookN O n f z e = v)
    (hK : wpList P ops Q rest (a.put o.dst v) w) : wpList P ops Q (o :: rest) a w := by
  refine BigFrame.wpList_want hw fun K hK' => ?_
  unfold Oper.wp execOp
  simp only [ho, hm, hx]
  simp only [Sem.run_bind, run_look h t k el ht hk z hz e, hv]
  exact hK' _ _ hK

theorem wpList_look_ok (hw : Region.wanted o (yielded ops a.tmps) = true) (t : TypeId) (m x : Operand) (ho : o.op = .lookup t m x true) (hm : a.eval m = .map (some b)) (e : Nat) (hx : a.eval x = .int .u32 (e : Int)) (h : MapRow w b O n f)
    (k el : TypeId) (ht : P.underlying t = some (.map k el)) (hk : P.underlying k = some (.int .u32)) (z : Value) (hz : ∀ w, (zeroValue el).run P w = .ok z w) (v : Value) (y : Bool) (hv : lookN O n f z e = v) (hy : decide (O ≤ e ∧ e < O + n) = y)
    (hK : wpList P ops Q rest (a.put o.dst (.tuple #[v, .bool y])) w) : wpList P ops Q (o :: rest) a w := by
  refine BigFrame.wpList_want hw fun K hK' => ?_
  unfold Oper.wp execOp
  simp only [ho, hm, hx]
  simp only [Sem.run_bind, run_look_ok h t k el ht hk z hz e, hv, hy]
  exact hK' _ _ hK

theorem wpList_insert (hw : Region.wanted o (yielded ops a.tmps) = true) (t : TypeId) (m x y : Operand) (ho : o.op = .insert t m x y) (hm : a.eval m = .map (some b)) (e : Nat) (hx : a.eval x = .int .u32 (e : Int)) (v : Value) (hy : a.eval y = v) (h : MapRow w b O n f)
    (k el : TypeId) (ht : P.underlying t = some (.map k el)) (hk : P.underlying k = some (.int .u32)) (he : e = n + O) (g : Nat → Value) (hg : ∀ k, k < n → f k = g k) (hv : g n = v)
    (hK : wpList P ops Q rest (a.put o.dst undef) (putBlock w b (.map (rowN O g 0 (n + 1)).toArray (n + 1)))) : wpList P ops Q (o :: rest) a w := by
  refine BigFrame.wpList_want hw fun K hK' => ?_
  unfold Oper.wp execOp
  simp only [ho, hm, hx, hy]
  simp only [Sem.run_bind, run_next h t k el ht hk e he v g hg hv]
  exact hK' _ _ hK

theorem yields_look {o : Oper} {a : Act} (hw : Region.wanted o (yielded ops a.tmps) = true) (t : TypeId) (m x : Operand) (ho : o.op = .lookup t m x false) (hm : a.eval m = .map (some b)) (e : Nat) (hx : a.eval x = .int .u32 (e : Int)) (h : ∀ w, S w → MapRow w b O n f)
    (k el : TypeId) (ht : P.underlying t = some (.map k el)) (hk : P.underlying k = some (.int .u32)) (z : Value) (hz : ∀ w, (zeroValue el).run P w = .ok z w) (v : Value) (hv : lookN O n f z e = v) : YieldsIf P ops S o v a := by
  refine .inl ⟨hw, fun w hSw => ?_⟩
  unfold execOp
  simp only [ho, hm, hx]
  simp only [Sem.run_bind, run_look (h w hSw) t k el ht hk z hz e, hv]
  rfl

theorem plan_next {i : Nat} {p : Plan} {a : Act} {w : World} (o : Oper) (ho : nth ops.toList i = some o) (hw : Region.wanted o (yielded ops a.tmps) = true) (t : TypeId) (m x y : Operand) (hop : o.op = .mapUpdate t m x y) (hm : a.eval m = .map (some b)) (e : Nat) (hx : a.eval x = .int .u32 (e : Int)) (v : Value) (hy : a.eval y = v) (h : MapRow w b O n f)
    (k el : TypeId) (ht : P.underlying t = some (.map k el)) (hk : P.underlying k = some (.int .u32)) (he : e = n + O) (g : Nat → Value) (hg : ∀ k, k < n → f k = g k) (hv : g n = v)
    (hS : S (putBlock w b (.map (rowN O g 0 (n + 1)).toArray (n + 1)))) (hK : wpPlan P ops Q S p (a.put o.dst undef) (putBlock w b (.map (rowN O g 0 (n + 1)).toArray (n + 1)))) : wpPlan P ops Q S (Plan.run i p) a w := by
  refine plan_run o ho fun K hK' => ?_
  rw [if_pos hw]
  unfold Oper.wp execOp
  simp only [hop, hm, hx, hy]
  simp only [Sem.run_bind, run_next h t k el ht hk e he v g hg hv]
  exact hK'.out _ _ hS hK
end laws
end Go.Proofs.Ytmfgmdglpeadbaa
