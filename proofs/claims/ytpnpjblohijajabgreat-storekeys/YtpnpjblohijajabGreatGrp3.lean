/- Pend, Hold, OffF, ArmBy, joined. -/
import Derived.Test.YtpnpjblohijajabGreatChecked
import Derived.Test.YtpnpjblohijajabGreatPackTools
import Derived.Test.YtpnpjblohijajabGreatGrp1
import Derived.Maps.RangeRun
namespace Go.Proofs.YtpnpjblohijajabGreat
section
set_option linter.unusedSimpArgs false
set_option linter.unusedVariables false
set_option maxRecDepth 100000
open Go.RowKit Go.MapKept

def sec0 : List UInt8 := List.replicate 64 0
def secC (s : List UInt8) : Array Value := (Bs s).toArray
theorem secC_size (s : List UInt8) : (secC s).size = s.length := by unfold secC; rw [List.size_toArray, Bs_length]
abbrev PendL := List (Nat × List UInt8)
def entS (x : Nat × List UInt8) (b : Nat) : MapEntry := ⟨.int .i64 (x.1 : Int), .agg (secC x.2), b⟩
def rowS : Nat → PendL → List MapEntry
  | _, [] => []
  | c, x :: l => entS x c :: rowS (c + 1) l
theorem rowS_len : ∀ (c : Nat) (l : PendL), (rowS c l).length = l.length
  | _, [] => rfl
  | c, x :: l => by simp [rowS, rowS_len (c + 1) l]
theorem rowS_snoc : ∀ (c : Nat) (l : PendL) (x : Nat × List UInt8), rowS c (l ++ [x]) = rowS c l ++ [entS x (c + l.length)]
  | c, [], x => rfl
  | c, y :: l, x => by
    rw [List.cons_append, rowS, rowS_snoc (c + 1) l x, rowS, List.length_cons, List.cons_append, show c + 1 + l.length = c + (l.length + 1) by omega]
/-- What is pending at a number. -/
def findP (l : PendL) (i : Nat) : Option (List UInt8) := (l.find? (fun x => x.1 == i)).map (·.2)
def placeP : PendL → Nat → Nat → Option (Nat × Value)
  | [], _, _ => none
  | x :: l, i, s => if x.1 = i then some (s, .agg (secC x.2)) else placeP l i (s + 1)
theorem place_find : ∀ (l : PendL) (i s : Nat), (placeP l i s).map (·.2) = (findP l i).map (fun s => Value.agg (secC s))
  | [], _, _ => rfl
  | x :: l, i, s => by
    unfold placeP findP
    rw [List.find?_cons]
    by_cases h : x.1 = i
    · rw [if_pos h, h, beq_self_eq_true]; rfl
    · rw [if_neg h, show (x.1 == i) = false by rw [beq_eq_false_iff_ne]; exact h]
      exact place_find l i (s + 1)
theorem find_rowS : ∀ (l : PendL) (c i s : Nat), Instr.findNow (.int .i64) (.int .i64 (i : Int)) (rowS c l) s = some (placeP l i s)
  | [], _, _, _ => rfl
  | x :: l, c, i, s => by
    rw [rowS]
    unfold Instr.findNow
    have hs : Instr.sameNow (.int .i64) (.int .i64 (i : Int)) (entS x c).key = some ((i : Int) == (x.1 : Int)) := by
      simp [entS, Instr.sameNow]
    rw [hs]
    unfold placeP
    by_cases he : x.1 = i
    · have h1 : ((i : Int) == (x.1 : Int)) = true := by rw [beq_iff_eq, he]
      rw [h1, if_pos he]
      rfl
    · have h1 : ((i : Int) == (x.1 : Int)) = false := by rw [beq_eq_false_iff_ne]; omega
      rw [h1, if_neg he]
      exact find_rowS l (c + 1) i (s + 1)
/-- Block b is such a map. -/
def PendAt (w : World) (b : Nat) (l : PendL) : Prop := ∃ c, w.heap[b]? = some (.map (rowS c l).toArray (c + l.length))
theorem PendAt.lt {w : World} {b : Nat} {l : PendL} (h : PendAt w b l) : b < w.heap.size := by
  obtain ⟨c, h⟩ := h
  exact (Array.getElem?_eq_some_iff.1 h).1
theorem PendAt.block {w w' : World} {b : Nat} {l : PendL} (h : PendAt w b l) (k : w'.heap[b]? = w.heap[b]?) : PendAt w' b l := by
  obtain ⟨c, h⟩ := h
  exact ⟨c, k.trans h⟩
theorem PendAt.later {w w' : World} {b : Nat} {l : PendL} (h : PendAt w b l) (hb : Below w.heap.size w w') : PendAt w' b l := h.block (hb.block b h.lt)
theorem PendAt.new (w : World) : PendAt (w.alloc (.map #[] 0)) w.heap.size [] := ⟨0, (heap_alloc w _).1⟩
theorem Has.not_map {w : World} {g b : Nat} {t : TypeId} {c : Array Value} {l : PendL} (h : Has w g t c) (k : PendAt w b l) : g ≠ b := by
  rintro rfl
  obtain ⟨c', k⟩ := k
  unfold Has at h
  rw [k] at h
  cases h
theorem key_i64 (e : Int) : IsKey (.int .i64) (.int .i64 e) := rfl
theorem sec_zero (w : World) : (zeroValue 66).run Tryz.prog w = .ok (.agg (secC sec0)) w := by kernel_rfl
section
variable {w : World} {b : Nat} {l : PendL}
theorem run_lookP (h : PendAt w b l) (i : Nat) :
    (Instr.lookup 45 (.map (some b)) (.int .i64 (i : Int)) true).run Tryz.prog w = .ok (.tuple #[.agg (secC ((findP l i).getD sec0)), .bool (findP l i).isSome]) w := by
  obtain ⟨c, h⟩ := h
  have hf := run_findKey (P := Tryz.prog) (w := w) (kt := 3) Tryz.underlying3 (find_rowS l c i 0)
  have hpf := place_find l i 0
  cases hp : placeP l i 0 with
  | none =>
    rw [hp] at hf hpf
    cases hq : findP l i with
    | some s => rw [hq] at hpf; cases hpf
    | none =>
      have hz := sec_zero w
      simp [Instr.lookup, Sem.run_bind, run_underlying Tryz.underlying45, Go.MapKept.run_getObj_map h, run_checkKey Tryz.underlying3 (key_i64 _), hf, hz, Result.andThen]
  | some q =>
    rw [hp] at hf hpf
    cases hq : findP l i with
    | none => rw [hq] at hpf; cases hpf
    | some s =>
      rw [hq] at hpf
      have hqs : q.2 = .agg (secC s) := by simpa using hpf
      obtain ⟨q1, q2⟩ := q
      replace hqs : q2 = .agg (secC s) := hqs
      subst hqs
      simp [Instr.lookup, Sem.run_bind, run_underlying Tryz.underlying45, Go.MapKept.run_getObj_map h, run_checkKey Tryz.underlying3 (key_i64 _), hf, Result.andThen]
theorem placeP_none : ∀ (l : PendL) (i s : Nat), findP l i = none → placeP l i s = none := fun l i s h => by
  have := place_find l i s
  rw [h] at this
  cases hp : placeP l i s with
  | none => rfl
  | some q => rw [hp] at this; cases this
/-- One more. -/
theorem run_addP (h : PendAt w b l) (i : Nat) (s : List UInt8) (hn : findP l i = none) :
    ∃ o, (Instr.mapUpdate 45 (.map (some b)) (.int .i64 (i : Int)) (.agg (secC s))).run Tryz.prog w = .ok () (putBlock w b o) ∧ PendAt (putBlock w b o) b (l ++ [(i, s)]) := by
  have hlt := h.lt
  obtain ⟨c, h⟩ := h
  have hf := run_findKey (P := Tryz.prog) (w := w) (kt := 3) Tryz.underlying3 (find_rowS l c i 0)
  rw [placeP_none l i 0 hn] at hf
  refine ⟨.map (rowS c (l ++ [(i, s)])).toArray (c + (l ++ [(i, s)]).length), ?_, c, putBlock_same _ hlt⟩
  have hr : (rowS c (l ++ [(i, s)])).toArray = (rowS c l).toArray.push ⟨.int .i64 (i : Int), .agg (secC s), c + l.length⟩ := by
    rw [rowS_snoc]
    unfold entS
    simp
  rw [hr, List.length_append, List.length_singleton, ← Nat.add_assoc]
  simp [Instr.mapUpdate, Sem.run_bind, run_underlying Tryz.underlying45, Go.MapKept.run_getObj_map h, run_checkKey Tryz.underlying3 (key_i64 _), hf, Go.MapKept.run_setObj_map _ h, Result.andThen, putBlock]
/-- None any more. -/
theorem run_clearP (h : PendAt w b l) (ty : TypeId) : ∃ o, (Builtin.clear_ #[45] ty #[.map (some b)]).run Tryz.prog w = .ok (.tuple #[]) (putBlock w b o) ∧ PendAt (putBlock w b o) b [] := by
  have hlt := h.lt
  obtain ⟨c, h⟩ := h
  refine ⟨.map #[] (c + l.length), ?_, c + l.length, putBlock_same _ hlt⟩
  simp [Builtin.clear_, Sem.run_bind, run_underlying Tryz.underlying45, Go.MapKept.run_getObj_map h, Go.MapKept.run_setObj_map _ h, Result.andThen, putBlock]
end
section laws
variable {ops : Array Oper} {rest : List Oper} {o : Oper} {a : Act} {w : World} {Q : Exit → Act → World → Prop} {S : World → Prop} {b : Nat} {l : PendL}
theorem wpList_lookP (hw : Region.wanted o (yielded ops a.tmps) = true) (m x : Operand) (ho : o.op = .lookup 45 m x true) (hm : a.eval m = .map (some b)) (i : Nat) (hx : a.eval x = .int .i64 (i : Int)) (h : PendAt w b l) (v : List UInt8) (y : Bool) (hv : (findP l i).getD sec0 = v) (hy : (findP l i).isSome = y)
    (hK : wpList Tryz.prog ops Q rest (a.put o.dst (.tuple #[.agg (secC v), .bool y])) w) : wpList Tryz.prog ops Q (o :: rest) a w := by
  refine BigFrame.wpList_want hw fun K hK' => ?_
  unfold Oper.wp execOp
  simp only [ho, hm, hx]
  simp only [Sem.run_bind, run_lookP h i, hv, hy]
  exact hK' _ _ hK
theorem plan_addP {i : Nat} {p : Plan} (o : Oper) (ho : nth ops.toList i = some o) (hw : Region.wanted o (yielded ops a.tmps) = true) (m x y : Operand) (hop : o.op = .mapUpdate 45 m x y) (hm : a.eval m = .map (some b)) (e : Nat) (hx : a.eval x = .int .i64 (e : Int)) (v : List UInt8) (hy : a.eval y = .agg (secC v)) (h : PendAt w b l) (hn : findP l e = none)
    (hK : ∀ ob, PendAt (putBlock w b ob) b (l ++ [(e, v)]) → S (putBlock w b ob) ∧ wpPlan Tryz.prog ops Q S p (a.put o.dst undef) (putBlock w b ob)) : wpPlan Tryz.prog ops Q S (Plan.run i p) a w := by
  refine plan_run o ho fun K hK' => ?_
  obtain ⟨ob, hr, hP⟩ := run_addP h e v hn
  rw [if_pos hw]
  unfold Oper.wp execOp
  simp only [hop, hm, hx, hy]
  simp only [Sem.run_bind, hr]
  exact hK'.out _ _ (hK ob hP).1 (hK ob hP).2
theorem wpList_clearP (hgd : o.guard = none) (m : Operand) (ho : o.op = Op.call { callee := Callee.builtin Builtin.clear, args := #[m], argTypes := #[45] }) (hm : a.eval m = .map (some b)) (h : PendAt w b l)
    (hK : ∀ ob, PendAt (putBlock w b ob) b [] → wpList Tryz.prog ops Q rest (a.put o.dst (.tuple #[])) (putBlock w b ob)) : wpList Tryz.prog ops Q (o :: rest) a w := by
  refine wpList_plain hgd fun K hK' => ?_
  obtain ⟨ob, hr, hP⟩ := run_clearP h o.type
  unfold Oper.wp
  simp [execOp, ho, resolve, invoke, builtin, hm, hr, Result.andThen]
  exact hK' _ _ (hK ob hP)
end laws
end

section
set_option linter.unusedSimpArgs false
set_option linter.unusedVariables false
open Go.RowKit

/-- But for one block the world is as it was. -/
structure But (p : Nat) (w w' : World) : Prop where
  os : w'.os = w.os
  tape : w'.tape = w.tape
  output : w'.output = w.output
  size : w.heap.size ≤ w'.heap.size
  block : ∀ k, k < w.heap.size → k ≠ p → w'.heap[k]? = w.heap[k]?

theorem But.of {p : Nat} {w w' : World} (h : Below w.heap.size w w') : But p w w' := ⟨h.os, h.tape, h.output, h.size, fun k hk _ => h.block k hk⟩
theorem But.trans {p : Nat} {a b c : World} (h : But p a b) (k : But p b c) : But p a c :=
  ⟨k.os.trans h.os, k.tape.trans h.tape, k.output.trans h.output, Nat.le_trans h.size k.size, fun i hi hn => (k.block i (Nat.lt_of_lt_of_le hi h.size) hn).trans (h.block i hi hn)⟩
theorem But.below {p : Nat} {w w' : World} {B : Nat} (h : But p w w') (hp : B ≤ p) (hB : B ≤ w.heap.size) : Below B w w' :=
  ⟨h.os, h.tape, h.output, h.size, fun k hk => h.block k (Nat.lt_of_lt_of_le hk hB) (by omega)⟩
theorem But.has {p : Nat} {w w' : World} {g : Nat} {t : TypeId} {c : Array Value} (h : But p w w') (hg : Has w g t c) (hn : g ≠ p) : Has w' g t c := by
  have := hg.lt
  unfold Has at *
  rw [h.block g this hn]
  exact hg
theorem But.later {p : Nat} {w w' w'' : World} (h : But p w w') (k : Below w'.heap.size w' w'') : But p w w'' := h.trans (But.of k)

theorem but_setCells {p : Nat} {w : World} (vs : List Value) (o : Nat) : But p w (w.setCells p o vs) := by
  induction vs generalizing w o with
  | nil => exact But.of (Below.refl _ _)
  | cons v vs ih =>
    have h1 : But p w (w.setCell ⟨p, o, none⟩ v) := by
      have := (Below.refl 0 w).setCell (show 0 ≤ (⟨p, o, none⟩ : Addr).block from Nat.zero_le _) v
      exact ⟨this.os, this.tape, this.output, this.size, fun k _ hk => Below.heap_setCell w ⟨p, o, none⟩ v k hk⟩
    exact h1.trans (ih (o + 1))

/-- A variable: its block, its type, its row. -/
abbrev Var := Nat × TypeId × Array Value

/-- Several variables, and what was there at first, as it was. -/
structure Env (w0 w : World) (l : List Var) : Prop where
  hold : ∀ e ∈ l, Has w e.1 e.2.1 e.2.2
  below : Below w0.heap.size w0 w

theorem Env.get {w0 w : World} {l : List Var} (h : Env w0 w l) (i : Nat) {g : Nat} {t : TypeId} {c : Array Value} (hi : l[i]? = some (g, t, c)) : Has w g t c := h.hold (g, t, c) (List.mem_of_getElem? hi)
theorem Env.start {w0 w : World} (h : Below w0.heap.size w0 w) : Env w0 w [] := ⟨(fun _ h => by cases h), h⟩
theorem Env.add {w0 w : World} {l : List Var} (h : Env w0 w l) {g : Nat} {t : TypeId} {c : Array Value} (hg : Has w g t c) : Env w0 w (l ++ [(g, t, c)]) :=
  ⟨fun e he => by
    rcases List.mem_append.1 he with he | he
    · exact h.hold e he
    · rw [List.mem_singleton.1 he]; exact hg, h.below⟩
theorem Env.later {w0 w w' : World} {l : List Var} (h : Env w0 w l) (k : Below w.heap.size w w') : Env w0 w' l := ⟨fun e he => (h.hold e he).later k, h.below.trans (k.mono h.below.size)⟩
theorem Env.drew {w0 w : World} {l : List Var} (h : Env w0 w l) : Env w0 w.drew l := ⟨fun e he => (h.hold e he).drew, h.below.drew⟩
theorem Env.but {w0 w w' : World} {l : List Var} {p : Nat} (h : Env w0 w l) (k : But p w w') (hp : w0.heap.size ≤ p) (ha : ∀ e ∈ l, e.1 ≠ p) : Env w0 w' l := ⟨fun e he => k.has (h.hold e he) (ha e he), h.below.trans (k.below hp h.below.size)⟩
theorem Env.alloc {w0 w : World} {l : List Var} (h : Env w0 w l) (t : TypeId) (c : Array Value) : Env w0 (w.alloc (.cells c t)) l := h.later ((Below.refl _ _).alloc (Nat.le_refl _) _)
theorem Env.row_other {w0 w : World} {l : List Var} (h : Env w0 w l) (g : Nat) (hg : w0.heap.size ≤ g) (ha : ∀ e ∈ l, e.1 ≠ g) (c : Array Value) : Env w0 (w.setRow g c) l := ⟨fun e he => (h.hold e he).row_other (ha e he) c, below_setRow h.below hg c⟩
theorem Env.lt {w0 w : World} {l : List Var} (h : Env w0 w l) : ∀ e ∈ l, e.1 < w.heap.size := fun e he => (h.hold e he).lt
theorem Env.ne {w0 w : World} {l : List Var} (h : Env w0 w l) {g : Nat} (hg : w.heap.size ≤ g) : ∀ e ∈ l, e.1 ≠ g := fun e he => by have := h.lt e he; omega
/-- The variables lie apart from a block. -/
def Apart (p : Nat) (l : List Var) : Prop := ∀ e ∈ l, e.1 ≠ p
theorem Apart.nil (p : Nat) : Apart p [] := fun _ h => by cases h
theorem Apart.add {p : Nat} {l : List Var} (h : Apart p l) {g : Nat} (hg : g ≠ p) (t : TypeId) (c : Array Value) : Apart p (l ++ [(g, t, c)]) := fun e he => by
  rcases List.mem_append.1 he with he | he
  · exact h e he
  · rw [List.mem_singleton.1 he]; exact hg
end

section
set_option linter.unusedSimpArgs false
set_option linter.unusedVariables false
open Go.RowKit

structure OffF (F : Nat → Prop) (w w' : World) : Prop where
  os : w'.os = w.os
  tape : w'.tape = w.tape
  output : w'.output = w.output
  size : w.heap.size ≤ w'.heap.size
  block : ∀ k, k < w.heap.size → ¬ F k → w'.heap[k]? = w.heap[k]?

theorem OffF.of {F : Nat → Prop} {w w' : World} (h : Below w.heap.size w w') : OffF F w w' := ⟨h.os, h.tape, h.output, h.size, fun k hk _ => h.block k hk⟩
theorem OffF.but {p : Nat} {w w' : World} (h : But p w w') : OffF (fun k => k = p) w w' := ⟨h.os, h.tape, h.output, h.size, fun k hk hn => h.block k hk hn⟩
theorem OffF.trans {F : Nat → Prop} {a b c : World} (h : OffF F a b) (k : OffF F b c) : OffF F a c :=
  ⟨k.os.trans h.os, k.tape.trans h.tape, k.output.trans h.output, Nat.le_trans h.size k.size, fun i hi hn => (k.block i (Nat.lt_of_lt_of_le hi h.size) hn).trans (h.block i hi hn)⟩
theorem OffF.below {F : Nat → Prop} {w w' : World} {B : Nat} (h : OffF F w w') (hF : ∀ b, F b → B ≤ b) (hB : B ≤ w.heap.size) : Below B w w' :=
  ⟨h.os, h.tape, h.output, h.size, fun k hk => h.block k (Nat.lt_of_lt_of_le hk hB) (fun hf => absurd (hF k hf) (by omega))⟩
theorem OffF.has {F : Nat → Prop} {w w' : World} {g : Nat} {t : TypeId} {c : Array Value} (h : OffF F w w') (hg : Has w g t c) (hn : ¬ F g) : Has w' g t c := by
  have := hg.lt
  unfold Has at *
  rw [h.block g this hn]
  exact hg
theorem Env.off {w0 w w' : World} {l : List Var} {F : Nat → Prop} (h : Env w0 w l) (k : OffF F w w') (hF : ∀ b, F b → w0.heap.size ≤ b) (ha : ∀ e ∈ l, ¬ F e.1) : Env w0 w' l := ⟨fun e he => k.has (h.hold e he) (ha e he), h.below.trans (k.below hF h.below.size)⟩
/-- The variables lie outside of some blocks. -/
def Clear (F : Nat → Prop) (l : List Var) : Prop := ∀ e ∈ l, ¬ F e.1
theorem Clear.nil (F : Nat → Prop) : Clear F [] := fun _ h => by cases h
theorem Clear.add {F : Nat → Prop} {l : List Var} (h : Clear F l) {g : Nat} (hg : ¬ F g) (t : TypeId) (c : Array Value) : Clear F (l ++ [(g, t, c)]) := fun e he => by
  rcases List.mem_append.1 he with he | he
  · exact h e he
  · rw [List.mem_singleton.1 he]; exact hg
theorem Clear.step {F F' : Nat → Prop} {w0 w : World} {l : List Var} (h : Clear F l) (hE : Env w0 w l) (hF : ∀ b, F' b → F b ∨ w.heap.size ≤ b) : Clear F' l := fun e he hf => by
  rcases hF e.1 hf with q | q
  · exact h e he q
  · have := hE.lt e he
    omega
theorem low_step {F F' : Nat → Prop} {B : Nat} {w : World} (h : ∀ b, F b → B ≤ b) (hB : B ≤ w.heap.size) (hF : ∀ b, F' b → F b ∨ w.heap.size ≤ b) : ∀ b, F' b → B ≤ b := fun b hb => by
  rcases hF b hb with q | q
  · exact h b q
  · omega
end

section
section kinds
variable {P : Program} {ops : Array Oper} {rest : List Oper} {d : Option Tmp} {t : TypeId} {p : String} {af : Array Edge} {gd : Option (Nat × Bool)} {a : Act} {w : World} {Q : Exit → Act → World → Prop}
theorem at_bin {b : BinOp} {u u' : TypeId} {x y : Operand} (h : wpList P ops Q (⟨d, .binOp b u x y u', t, p, af, gd⟩ :: rest) a w) : wpList P ops Q (⟨d, .binOp b u x y u', t, p, af, gd⟩ :: rest) a w := h
theorem at_bld {u : TypeId} {l : Array (Nat × Operand)} (h : wpList P ops Q (⟨d, .build u l, t, p, af, gd⟩ :: rest) a w) : wpList P ops Q (⟨d, .build u l, t, p, af, gd⟩ :: rest) a w := h
theorem at_sto {u : TypeId} {x y : Operand} (h : wpList P ops Q (⟨d, .store u x y, t, p, af, gd⟩ :: rest) a w) : wpList P ops Q (⟨d, .store u x y, t, p, af, gd⟩ :: rest) a w := h
theorem at_loa {u : TypeId} {x : Operand} (h : wpList P ops Q (⟨d, .load u x, t, p, af, gd⟩ :: rest) a w) : wpList P ops Q (⟨d, .load u x, t, p, af, gd⟩ :: rest) a w := h
theorem at_all {u : TypeId} (h : wpList P ops Q (⟨d, .alloc u, t, p, af, gd⟩ :: rest) a w) : wpList P ops Q (⟨d, .alloc u, t, p, af, gd⟩ :: rest) a w := h
theorem at_gr {op : Op} (n : Nat) (b : Bool) (h : wpList P ops Q (⟨d, op, t, p, af, some (n, b)⟩ :: rest) a w) : wpList P ops Q (⟨d, op, t, p, af, some (n, b)⟩ :: rest) a w := h
theorem at_g0 {op : Op} (h : wpList P ops Q (⟨d, op, t, p, af, none⟩ :: rest) a w) : wpList P ops Q (⟨d, op, t, p, af, none⟩ :: rest) a w := h
end kinds
end
end Go.Proofs.YtpnpjblohijajabGreat
