/- Several texts in one, in build order: Mem, Slice, SliceOf, Plan, Part, MemMore, PlanMem, MapRow. -/
import Derived.Below
import Derived.OwnWalk
import Derived.WalkKit
import Derived.Laws.Rows
import Derived.Laws.Tables
import Derived.Laws.World
import Derived.Laws.CopyOwn
import Derived.Laws.ResultCell
import Derived.Lib.SmallJoins
import Derived.BigFrame
import Derived.Deep.Draws
import Derived.Carry
import Derived.OpenShut
import Derived.ProofKit
import Derived.Deep.Slices
import Derived.Deep.MidRow
import Derived.Deep.RegionHeld3
import Derived.Laws.StructEq
import Derived.Tactics2
import Derived.Laws.Small
import Derived.WalkSpells
import Derived.WalkLawsBesides
import Derived.MapKept

/- Mem: Blocks that hold a row, by their cells: what a walk needs of structs and arrays that lie in variables. Nothing of the program is in it. -/
namespace Go.Proofs.YtpnpjblohijajabGreat
set_option linter.unusedSimpArgs false
set_option linter.unusedVariables false
open Go.RowKit

/-- A block that holds a row. -/
def Has (w : World) (g : Nat) (t : TypeId) (c : Array Value) : Prop := w.heap[g]? = some (.cells c t (0, 0))

theorem Has.lt {w : World} {g : Nat} {t : TypeId} {c : Array Value} (h : Has w g t c) : g < w.heap.size := (Array.getElem?_eq_some_iff.1 h).1

theorem Has.later {w w' : World} {g : Nat} {t : TypeId} {c : Array Value} (h : Has w g t c) (hb : Below w.heap.size w w') : Has w' g t c := by
  unfold Has at *
  rw [hb.block g (Array.getElem?_eq_some_iff.1 h).1]
  exact h

theorem Has.cell {w : World} {g : Nat} {t : TypeId} {c : Array Value} (h : Has w g t c) (j : Nat) : w.cell? ⟨g, j, none⟩ = c[j]? := cell_of_row _ _ j c t (0, 0) h

theorem Has.free {w : World} {g : Nat} {t : TypeId} {c : Array Value} (h : Has w g t c) (j : Nat) : w.frozen? ⟨g, j, none⟩ = false := by
  unfold Has at h
  simp [World.frozen?, h]

theorem Has.new (w : World) (t : TypeId) (c : Array Value) : Has (w.alloc (.cells c t)) w.heap.size t c := by
  unfold Has
  show (w.heap.push _)[w.heap.size]? = _
  simp

theorem Has.alloc {w : World} {g : Nat} {t : TypeId} {c : Array Value} (h : Has w g t c) (o : Obj) : Has (w.alloc o) g t c :=
  h.later ((Below.refl _ _).alloc (Nat.le_refl _) _)

theorem Has.drew {w : World} {g : Nat} {t : TypeId} {c : Array Value} (h : Has w g t c) : Has w.drew g t c := h

theorem Has.drewN {w : World} {g : Nat} {t : TypeId} {c : Array Value} (h : Has w g t c) (n : Nat) : Has (w.drewN n) g t c := h

theorem Has.set {w : World} {g : Nat} {t : TypeId} {c : Array Value} (h : Has w g t c) (j : Nat) (v : Value) : Has (w.setCell ⟨g, j, none⟩ v) g t (c.setIfInBounds j v) := Go.Joins.block_setCell h v

theorem Has.set_other {w : World} {g : Nat} {t : TypeId} {c : Array Value} (h : Has w g t c) {a : Addr} (ha : g ≠ a.block) (v : Value) : Has (w.setCell a v) g t c := by
  unfold Has at *
  rw [Below.heap_setCell w a v g ha]
  exact h

theorem Has.row {w : World} {g : Nat} {t : TypeId} {c : Array Value} (h : Has w g t c) (c' : Array Value) : Has (w.setRow g c') g t c' := setRow_heap w g c c' t (0, 0) h

theorem Has.row_other {w : World} {g k : Nat} {t : TypeId} {c : Array Value} (h : Has w g t c) (hk : g ≠ k) (c' : Array Value) : Has (w.setRow k c') g t c := by
  unfold Has at *
  rw [setRow_other w k g c' hk]
  exact h

section laws
variable {P : Program} {ops : Array Oper} {rest : List Oper} {o : Oper} {a : Act} {w : World} {Q : Exit → Act → World → Prop}

/-- A whole struct or array out of its variable. -/
theorem wpList_load_has (hw : Region.wanted o (yielded ops a.tmps) = true) (ty : TypeId) (x : Operand) (ho : o.op = .load ty x) (g : Nat) (hx : a.eval x = .pointer (some ⟨g, 0, none⟩))
    (t : TypeId) (c : Array Value) (d : TypeDesc) (hu : P.underlying ty = some d) (hd : (match d with | .struct _ | .array _ _ => true | _ => false) = true) (hi : (P.info? ty).map (·.size) = some c.size)
    (hg : Has w g t c) (h : wpList P ops Q rest (a.put o.dst (.agg c)) w) : wpList P ops Q (o :: rest) a w :=
  BigFrame.wpList_want hw fun _ hK => wp_load_row ty x ho g hx t c (0, 0) d hg hu hd hi (hK _ _ h)

/-- A whole struct or array into its variable. -/
theorem wpList_store_has (hw : Region.wanted o (yielded ops a.tmps) = true) (ty : TypeId) (x y : Operand) (ho : o.op = .store ty x y) (g : Nat) (hx : a.eval x = .pointer (some ⟨g, 0, none⟩))
    (c : Array Value) (hy : a.eval y = .agg c) (t : TypeId) (old : Array Value) (hi : (P.info? ty).map (·.size) = some c.size) (hs : old.size = c.size) (h1 : c.all (·.oneCell') = true)
    (hg : Has w g t old) (h : wpList P ops Q rest (a.put o.dst undef) (w.setRow g c)) : wpList P ops Q (o :: rest) a w :=
  BigFrame.wpList_want hw fun _ hK => wp_store_row ty x y ho g c hx hy t old hg hi hs h1 (hK _ _ h)

/-- A new variable at its zero. -/
theorem wpList_alloc_has (hw : Region.wanted o (yielded ops a.tmps) = true) (t : TypeId) (ho : o.op = .alloc t) (c : Array Value) (hz : (P.info? t).map (·.zero) = some (some (.agg c)))
    (h : wpList P ops Q rest (a.put o.dst (.pointer (some ⟨w.heap.size, 0, none⟩))) (w.alloc (.cells c t))) : wpList P ops Q (o :: rest) a w := by
  refine BigFrame.wpList_want hw fun K hK => ?_
  cases hq : P.info? t with
  | none => simp [hq] at hz
  | some i =>
    have hz' : i.zero = some (.agg c) := by simpa [hq] using hz
    unfold Oper.wp execOp
    simp [ho, Sem.run_bind, Instr.alloc, zeroValue, typeInfo, hq, hz', newVar, newRow, run_newObj_alloc, Sem.run_pure, Result.andThen_ok, Value.cells]
    exact hK _ _ h

/-- A struct or array out of its parts. -/
theorem wpList_build_has (hw : Region.wanted o (yielded ops a.tmps) = true) (t : TypeId) (parts : Array (Nat × Operand)) (ho : o.op = .build t parts) (c : Array Value)
    (hf : P.built t (parts.map fun (i, x) => (i, a.eval x)).toList = some c)
    (h : wpList P ops Q rest (a.put o.dst (.agg c)) w) : wpList P ops Q (o :: rest) a w := by
  refine BigFrame.wpList_want hw fun K hK => ?_
  refine wp_build t parts ho (by rw [hf]; rfl) ?_
  rw [hf]
  exact hK _ _ h

/-- A function's end that hands back a struct or array, and one thing more. -/
theorem ret_has_tmp {fn : Func} {R : Ending → World → Prop} {p u : Tmp} {ty : TypeId} (h : fn.results = #[.cell p ty, .tmp u]) (g : Nat) (hp : a.tmps.getD p undef = .pointer (some ⟨g, 0, none⟩))
    (t : TypeId) (c : Array Value) (d : TypeDesc) (hu : P.underlying ty = some d) (hd : (match d with | .struct _ | .array _ _ => true | _ => false) = true) (hi : (P.info? ty).map (·.size) = some c.size)
    (hg : Has w g t c) (hdf : a.defers = []) (hR : R (.returned (.tuple #[.agg c, a.tmps.getD u undef])) w) : bodyPost P fn R .ret a w := by
  refine bodyPost_ret ?_ hdf hR
  rw [results_cell_tmp h, hp]
  simp [asAddr, run_loadVar_row w g t ty c (0, 0) d hg hu hd hi, Result.andThen]

/-- A function's end that hands back a struct or array. -/
theorem ret_has {fn : Func} {R : Ending → World → Prop} {p : Tmp} {ty : TypeId} (h : fn.results = #[.cell p ty]) (g : Nat) (hp : a.tmps.getD p undef = .pointer (some ⟨g, 0, none⟩))
    (t : TypeId) (c : Array Value) (d : TypeDesc) (hu : P.underlying ty = some d) (hd : (match d with | .struct _ | .array _ _ => true | _ => false) = true) (hi : (P.info? ty).map (·.size) = some c.size)
    (hg : Has w g t c) (hdf : a.defers = []) (hR : R (.returned (.agg c)) w) : bodyPost P fn R .ret a w :=
  bodyPost_ret (results_cell_row h a.tmps w g t c (0, 0) d hp hg hu hd hi) hdf hR
end laws
end Go.Proofs.YtpnpjblohijajabGreat

/- Slice: Slices of structs: what they read as, and how they are opened. Nothing of the program is in it. -/
namespace Go.Proofs.YtpnpjblohijajabGreat
set_option linter.unusedSimpArgs false
set_option linter.unusedVariables false
open Go.ChangeShapes Go.WideShapes Go.ChangeAt Go.RowKit

/-- What a slice of rows of sz cells reads as. -/
structure Sl (w : World) (ao : Option Addr) (c sz : Nat) (rows : List (List Value)) : Prop where
  le : rows.length ≤ c
  cap : c ≤ 9223372036854775807
  nil : ao = none → c = 0
  each : ∀ r ∈ rows, r.length = sz
  at' : ∀ ad, ao = some ad → ∀ (i : Nat) (h : i < rows.length) (j : Nat), j < sz → w.cell? (ad.add (i * sz + j)) = (rows[i])[j]?

theorem Sl.nothing (w : World) (sz : Nat) : Sl w none 0 sz [] := ⟨Nat.le_refl _, by decide, fun _ => rfl, (fun _ h => by cases h), (fun _ h => by cases h)⟩

theorem Sl.later {w w' : World} {ao : Option Addr} {c sz : Nat} {rows : List (List Value)} (h : Sl w ao c sz rows) (hb : Below w.heap.size w w') : Sl w' ao c sz rows := by
  refine ⟨h.le, h.cap, h.nil, h.each, fun ad had i hi j hj => ?_⟩
  have hc := h.at' ad had i hi j hj
  have hl := h.each _ (List.getElem_mem hi)
  rw [List.getElem?_eq_getElem (by omega)] at hc
  have hlt := World.block_lt_of_cell? w _ hc
  rw [hb.cell hlt, hc, List.getElem?_eq_getElem (by omega)]

theorem Sl.drewN {w : World} {ao : Option Addr} {c sz : Nat} {rows : List (List Value)} (h : Sl w ao c sz rows) (n : Nat) : Sl (w.drewN n) ao c sz rows := ⟨h.le, h.cap, h.nil, h.each, h.at'⟩

theorem open_rows {H : Type} {enc : TypeId × Value → H} {P : Program} {W : World} {base : Nat} {t e : TypeId} {v : Value} {d : DataW H} {p : List MemPlace} {T : Type} (L : T → List Value) (ok : T → Prop) (sz : Nat)
    (ht : P.underlying t = some (.slice e)) (hce : P.cellsOf e = sz)
    (reads : ∀ (fuel : Nat) (y : DataW H × List MemPlace) (cs : List Value), DataW.trod enc P W 0 (fun _ => true) true fuel e cs = some y → ∃ x, cs = L x ∧ ok x) (hL : ∀ x, (L x).length = sz)
    (okv : Value.okWide P W .any base t v) (h : DataW.Trod enc P W 0 (fun _ => true) true t v d p) :
    ∃ (ao : Option Addr) (c : Nat) (xs : List T), v = .slice ao xs.length c ∧ Sl W ao c sz (xs.map L) ∧ ∀ x ∈ xs, ok x := by
  obtain ⟨ao, len, c, rfl⟩ := okWide_slice ht okv
  obtain ⟨fuel, hf⟩ := h
  rcases Go.Deep.open_slice ht hf with ⟨hcs, _⟩ | ⟨a, len', cap', m, n, D, Pl, hcs, _, hl, hm, hmm, _, hx⟩
  · simp [Value.cells] at hcs
    obtain ⟨rfl, rfl, rfl⟩ := hcs
    exact ⟨none, 0, [], rfl, Sl.nothing _ _, fun _ h => by cases h⟩
  · simp [Value.cells] at hcs
    obtain ⟨rfl, rfl, rfl⟩ := hcs
    have hm' : m = c := by simpa using hmm
    subst hm'
    have each : ∀ i : Fin len, ∃ x : T, ok x ∧ ∀ j, j < sz → W.cell? (a.add (i.val * sz + j)) = (L x)[j]? := by
      intro i
      obtain ⟨cs', h1, h2⟩ := hx i.val (by have := i.isLt; omega)
      rw [hce] at h1
      obtain ⟨_, hlen, hcell⟩ := World.cells?_some h1
      obtain ⟨x, rfl, hok⟩ := reads _ _ _ h2
      refine ⟨x, hok, fun j hj => ?_⟩
      have := hcell j hj
      rw [Go.Deep.add_add] at this
      exact this
    refine ⟨some a, m, List.ofFn fun i : Fin len => (each i).choose, by rw [List.length_ofFn], ⟨?_, hm, (fun h => by cases h), ?_, fun ad had i hi j hj => ?_⟩, ?_⟩
    · rw [List.length_map, List.length_ofFn]; exact hl
    · intro r hr
      obtain ⟨x, _, rfl⟩ := List.mem_map.1 hr
      exact hL x
    · obtain rfl := Option.some.inj had
      have hi' : i < len := by rw [List.length_map, List.length_ofFn] at hi; exact hi
      have := (each ⟨i, hi'⟩).choose_spec.2 j hj
      rw [this]
      simp
    · intro x hx
      obtain ⟨i, rfl⟩ := List.mem_ofFn.1 hx
      exact (each i).choose_spec.1
end Go.Proofs.YtpnpjblohijajabGreat

/- SliceOf: A slice that is the whole of a block. Nothing of the program is in it. -/
namespace Go.Proofs.YtpnpjblohijajabGreat
set_option linter.unusedSimpArgs false
set_option linter.unusedVariables false
open Go.RowKit

theorem flatten_at {sz : Nat} : ∀ (rows : List (List Value)), (∀ r ∈ rows, r.length = sz) → ∀ (i : Nat) (h : i < rows.length) (j : Nat), j < sz → (rows.flatten)[i * sz + j]? = (rows[i])[j]? := by
  intro rows
  induction rows with
  | nil => intro _ i h; cases h
  | cons r rows ih =>
    intro hr i h j hj
    have hl := hr r (List.mem_cons_self ..)
    rw [List.flatten_cons]
    match i with
    | 0 =>
      rw [List.getElem?_append_left (by rw [hl]; omega)]
      simp
    | i + 1 =>
      rw [List.getElem?_append_right (by rw [hl, Nat.succ_mul]; omega), hl, show (i + 1) * sz + j - sz = i * sz + j by rw [Nat.succ_mul]; omega]
      exact ih (fun r' h' => hr r' (List.mem_cons_of_mem _ h')) i (by simpa using h) j hj

theorem Sl.of_block {w : World} {g sz : Nat} {t : TypeId} {rows : List (List Value)} (h : Has w g t rows.flatten.toArray) (hr : ∀ r ∈ rows, r.length = sz) (hn : rows.length ≤ 1000000) : Sl w (some ⟨g, 0, none⟩) rows.length sz rows := by
  refine ⟨Nat.le_refl _, by omega, (fun h => by cases h), hr, fun ad had i hi j hj => ?_⟩
  obtain rfl := Option.some.inj had
  have hc := h.cell (i * sz + j)
  have e : (⟨g, 0, none⟩ : Addr).add (i * sz + j) = ⟨g, i * sz + j, none⟩ := by rw [Addr.add_mid, Nat.zero_add]
  rw [e, hc, List.getElem?_toArray]
  exact flatten_at rows hr i hi j hj
end Go.Proofs.YtpnpjblohijajabGreat

/- Plan: Regions that draw their order, by a plan: which operation is taken first, which alone can come up. Nothing of the program is in it. -/
namespace Go.Proofs.YtpnpjblohijajabGreat
set_option linter.unusedSimpArgs false
set_option linter.unusedVariables false
open Go.RowKit

/-- The way through a region, written as a piece of code: 'block': take an operation first; 'cond': run the only one that can come up; 'rangeFunc': run either of the two that can; 'skip': the end. -/
abbrev Plan := Code

def numOf : Operand → Nat
  | .tmp i => i
  | _ => 0

def Plan.done : Plan := .skip
def Plan.take (i : Nat) (p : Plan) : Plan := .block i p
def Plan.run (i : Nat) (p : Plan) : Plan := .cond (.tmp i) p .skip
def Plan.either (i : Nat) (p : Plan) (j : Nat) (q : Plan) : Plan := .rangeFunc (.tmp i) #[j] p q

/-- Nothing but takes and runs, by a list. -/
def Plan.of : List (Nat × Bool) → Plan → Plan
  | [], q => q
  | (i, true) :: l, q => .take i (Plan.of l q)
  | (i, false) :: l, q => .run i (Plan.of l q)

def Plan.fits (md : Region.Mode) (ops : Array Oper) : Code → Array Bool → Bool
  | .skip, l => (Region.ready md ops l).isEmpty
  | .block i p, l => Region.free md ops l i && ((Region.ready md ops l).contains i && Plan.fits md ops p (l.setIfInBounds i true))
  | .cond x p _, l => (Region.ready md ops l == [numOf x]) && Plan.fits md ops p (l.setIfInBounds (numOf x) true)
  | .rangeFunc x ts p q, l => (Region.ready md ops l == [numOf x, ts.getD 0 0]) && (Plan.fits md ops p (l.setIfInBounds (numOf x) true) && Plan.fits md ops q (l.setIfInBounds (ts.getD 0 0) true))
  | _, _ => false

def Plan.fuel : Code → Nat
  | .block _ p => Plan.fuel p + 1
  | .cond _ p _ => Plan.fuel p + 1
  | .rangeFunc _ _ p q => max (Plan.fuel p) (Plan.fuel q) + 1
  | _ => 0

section
variable {P : Program} {ops : Array Oper} {Q : Exit → Act → World → Prop} {S : World → Prop} {md : Region.Mode}

/-- The walk along a plan. -/
def wpPlan (P : Program) (ops : Array Oper) (Q : Exit → Act → World → Prop) (S : World → Prop) : Code → Act → World → Prop
  | .skip, a, w => Q .normal a w
  | .block i p, a, w => ∃ o v, ops[i]? = some o ∧ YieldsIf P ops S o v a ∧ wpPlan P ops Q S p (a.put o.dst v) w
  | .cond x p _, a, w => wpOp P ops Q (numOf x) (fun a' w' => S w' ∧ wpPlan P ops Q S p a' w') a w
  | .rangeFunc x ts p q, a, w => wpOp P ops Q (numOf x) (fun a' w' => S w' ∧ wpPlan P ops Q S p a' w') a w ∧ wpOp P ops Q (ts.getD 0 0) (fun a' w' => S w' ∧ wpPlan P ops Q S q a' w') a w
  | _, _, _ => False

theorem wpAnyH_of_plan (hs : Region.noSelect ops = true) (hQ : ∀ (d : Option Tmp) v c a w, Q (.panic c) (a.put d v) w → Q (.panic c) a w) :
    ∀ (p : Plan) (fuel : Nat) (listed : Array Bool) (a : Act) (w : World), Plan.fuel p ≤ fuel → Plan.fits md ops p listed = true → S w → wpPlan P ops Q S p a w → wpAnyH P md ops Q S fuel listed a w := by
  intro p
  induction p with
  | skip =>
    intro fuel listed a w _ hf _ h
    exact wpAnyH_done (by simpa [Plan.fits] using hf) h fuel
  | block i p ih =>
    intro fuel listed a w hn hf hS h
    obtain ⟨o, v, ho, hy, h⟩ := h
    simp only [Plan.fits, Bool.and_eq_true] at hf
    cases fuel with
    | zero => simp [Plan.fuel] at hn
    | succ fuel => exact wpAnyH_take ho hs hf.1 hf.2.1 (hQ _ _) hy hS (ih fuel _ _ _ (by simpa [Plan.fuel] using hn) hf.2.2 hS h)
  | cond x p _ ih _ =>
    intro fuel listed a w hn hf hS h
    simp only [Plan.fits, Bool.and_eq_true, beq_iff_eq] at hf
    cases fuel with
    | zero => simp [Plan.fuel] at hn
    | succ fuel =>
      refine wpAnyH_all hf.1 (by simp) fun j hj => ?_
      have e : j = numOf x := by simpa using hj
      rw [e]
      exact wpOp_mono (fun a' w' h' => ⟨h'.1, ih fuel _ a' w' (by simpa [Plan.fuel] using hn) hf.2 h'.1 h'.2⟩) h
  | rangeFunc x ts p q ih ih' =>
    intro fuel listed a w hn hf hS h
    simp only [Plan.fits, Bool.and_eq_true, beq_iff_eq] at hf
    cases fuel with
    | zero => simp [Plan.fuel] at hn
    | succ fuel =>
      have hn' : Plan.fuel p ≤ fuel ∧ Plan.fuel q ≤ fuel := by simp only [Plan.fuel] at hn; omega
      refine wpAnyH_all hf.1 (by simp) fun k hk => ?_
      have hk' : k = numOf x ∨ k = ts.getD 0 0 := by simpa using hk
      rcases hk' with e | e
      · rw [e]
        exact wpOp_mono (fun a' w' h' => ⟨h'.1, ih fuel _ a' w' hn'.1 hf.2.1 h'.1 h'.2⟩) h.1
      · rw [e]
        exact wpOp_mono (fun a' w' h' => ⟨h'.1, ih' fuel _ a' w' hn'.2 hf.2.2 h'.1 h'.2⟩) h.2
  | _ =>
    intro fuel listed a w _ hf _ _
    simp [Plan.fits] at hf

/-- The beginning: the region is shown not to panic. -/
theorem wp_region_plan {id : Nat} {a : Act} {w : World} (S : World → Prop) (p : Plan) (hm : P.follows .mixedOrders = true) (hs : Region.noSelect ops = true) (hf : Plan.fits .any ops p (Array.replicate ops.size false) = true) (hn : decide (Plan.fuel p ≤ ops.size) = true)
    (hS : S w.drew) (h : wpPlan P ops (NoPanic Q) S p a w.drew) : (Code.region id ops true).wp P Q a w :=
  wp_region_noPanic (wp_region_held hm (wpAnyH_of_plan hs (fun _ _ _ _ _ h => h) p _ _ a w.drew (of_decide_eq_true hn) hf hS h))

theorem plan_done {a : Act} {w : World} (h : Q .normal a w) : wpPlan P ops (NoPanic Q) S Plan.done a w := NoPanic.normal h

/-- An operation by its place, so that it comes out written. -/
def nth : List Oper → Nat → Option Oper
  | [], _ => none
  | o :: _, 0 => some o
  | _ :: l, n + 1 => nth l n

theorem nth_eq : ∀ (l : List Oper) (i : Nat), nth l i = l[i]?
  | [], _ => by simp [nth]
  | _ :: _, 0 => rfl
  | _ :: l, n + 1 => by simpa [nth] using nth_eq l n

theorem nth_at {i : Nat} {o : Oper} (h : nth ops.toList i = some o) : ops[i]? = some o := by
  rw [nth_eq] at h
  simpa using h

theorem plan_take {i : Nat} {p : Plan} {a : Act} {w : World} (o : Oper) (v : Value) (ho : nth ops.toList i = some o) (hy : YieldsIf P ops S o v a) (h : wpPlan P ops Q S p (a.put o.dst v) w) : wpPlan P ops Q S (Plan.take i p) a w := ⟨o, v, nth_at ho, hy, h⟩

/-- A guarded operation that is passed over. -/
theorem plan_pass {i : Nat} {p : Plan} {a : Act} {w : World} (o : Oper) (ho : nth ops.toList i = some o) (hw : Region.wanted o (yielded ops a.tmps) = false) (h : wpPlan P ops Q S p (a.put o.dst undef) w) : wpPlan P ops Q S (Plan.take i p) a w :=
  ⟨o, undef, nth_at ho, .inr ⟨hw, rfl⟩, h⟩

theorem plan_run {i : Nat} {p : Plan} {a : Act} {w : World} (o : Oper) (ho : nth ops.toList i = some o)
    (h : ∀ K : Act → World → Prop, Shut (∀ a w, S w → wpPlan P ops Q S p a w → K a w) → if Region.wanted o (yielded ops a.tmps) = true then Oper.wp P o a w K Q else K (a.put o.dst undef) w) : wpPlan P ops Q S (Plan.run i p) a w :=
  wpOp_step (nth_at ho) (fun K' hK => h K' (fun a w hS hW => hK a w ⟨hS, hW⟩))

theorem plan_either {i j : Nat} {p q : Plan} {a : Act} {w : World} (h : wpPlan P ops Q S (Plan.run i p) a w) (h' : wpPlan P ops Q S (Plan.run j q) a w) : wpPlan P ops Q S (Plan.either i p j q) a w := ⟨h, h'⟩

/-- A whole struct or array out of its variable, in every world of S. -/
theorem yields_load_has {o : Oper} {a : Act} (hw : Region.wanted o (yielded ops a.tmps) = true) (ty : TypeId) (x : Operand) (ho : o.op = .load ty x) (g : Nat) (hx : a.eval x = .pointer (some ⟨g, 0, none⟩))
    (t : TypeId) (c : Array Value) (d : TypeDesc) (hu : P.underlying ty = some d) (hd : (match d with | .struct _ | .array _ _ => true | _ => false) = true) (hi : (P.info? ty).map (·.size) = some c.size)
    (hg : ∀ w, S w → Has w g t c) : YieldsIf P ops S o (.agg c) a := by
  refine .inl ⟨hw, fun w hSw => ?_⟩
  unfold execOp
  simp only [ho, hx]
  simp only [Sem.run_bind, Instr.loadAt, Instr.sureAddr, Sem.run_pure, Result.andThen]
  rw [run_loadVar_row w g t ty c (0, 0) d (hg w hSw) hu hd hi]

theorem run_bin_agg {o : Oper} {ev : Operand → Value} {w : World} (b : BinOp) (ty ty' : TypeId) (x y : Operand) (ho : o.op = .binOp b ty x y ty') (X Y : Array Value) (hx : ev x = .agg X) (hy : ev y = .agg Y) (v : Value) (hm : P.eqGuardType P.depth ty = false)
    (h : (binOp b ty (.agg X) (.agg Y)).run P w = .ok v w) : (execOp ev o).run P w = .ok (.value v) w := by
  unfold execOp
  simp only [ho, hx, hy]
  simp only [Sem.run_bind, run_eqGuard_agg (hm := hm), Result.andThen_ok, h, Sem.run_pure]

/-- Two rows held against each other, in whatever world. -/
theorem yields_bin_agg {o : Oper} {a : Act} (hw : Region.wanted o (yielded ops a.tmps) = true) (b : BinOp) (ty ty' : TypeId) (x y : Operand) (ho : o.op = .binOp b ty x y ty') (X Y : Array Value) (hx : a.eval x = .agg X) (hy : a.eval y = .agg Y) (v : Value) (hm : P.eqGuardType P.depth ty = false)
    (h : ∀ w, (binOp b ty (.agg X) (.agg Y)).run P w = .ok v w) : YieldsIf P ops S o v a :=
  .inl ⟨hw, fun w _ => run_bin_agg b ty ty' x y ho X Y hx hy v hm (h w)⟩

theorem wpList_bin_agg {o : Oper} {a : Act} {w : World} {rest : List Oper} (hw : Region.wanted o (yielded ops a.tmps) = true) (b : BinOp) (ty ty' : TypeId) (x y : Operand) (ho : o.op = .binOp b ty x y ty') (X Y : Array Value) (hx : a.eval x = .agg X) (hy : a.eval y = .agg Y) (v : Value) (hm : P.eqGuardType P.depth ty = false)
    (hv : (binOp b ty (.agg X) (.agg Y)).run P w = .ok v w) (h : wpList P ops Q rest (a.put o.dst v) w) : wpList P ops Q (o :: rest) a w := by
  refine BigFrame.wpList_want hw fun K hK => ?_
  unfold Oper.wp
  rw [run_bin_agg b ty ty' x y ho X Y hx hy v hm hv]
  exact hK _ _ h

theorem yields_move {o : Oper} {a : Act} (hw : Region.wanted o (yielded ops a.tmps) = true) (x : Operand) (ho : o.op = .move x) : YieldsIf P ops S o (a.eval x) a := .inl ⟨hw, fun w _ => BigFrame.run_move x ho w⟩
theorem yields_assign {o : Oper} {a : Act} (hw : Region.wanted o (yielded ops a.tmps) = true) (x : Operand) (ho : o.op = .assign x) : YieldsIf P ops S o (a.eval x) a := .inl ⟨hw, fun w _ => BigFrame.run_assign x ho w⟩
end
end Go.Proofs.YtpnpjblohijajabGreat

/- Part: Rows in the midst of a block, loaded whole, guarded too; elements of arrays that are values. Nothing of the program is in it. -/
namespace Go.Proofs.YtpnpjblohijajabGreat
set_option linter.unusedSimpArgs false
set_option linter.unusedVariables false
open Go.RowKit

section laws
variable {P : Program} {ops : Array Oper} {rest : List Oper} {o : Oper} {a : Act} {w : World} {Q : Exit → Act → World → Prop}

theorem Has.range {w : World} {g : Nat} {t : TypeId} {c : Array Value} (h : Has w g t c) (k : Nat) (cs : List Value) (hc : ∀ j v, cs[j]? = some v → c[k + j]? = some v) : w.rangeAt g k cs := by
  intro j v hj
  rw [h.cell]
  exact hc j v hj

theorem wpList_load_mid' (hw : Region.wanted o (yielded ops a.tmps) = true) (ty : TypeId) (x : Operand) (ho : o.op = .load ty x)
    (b k : Nat) (hx : a.eval x = .pointer (some ⟨b, k, none⟩)) (cs : List Value) (d : TypeDesc) (hc : w.rangeAt b k cs)
    (hu : P.underlying ty = some d) (hd : d.isRow = true) (hi : (P.info? ty).map (·.size) = some cs.length)
    (h : wpList P ops Q rest (a.put o.dst (.agg cs.toArray)) w) : wpList P ops Q (o :: rest) a w :=
  BigFrame.wpList_want hw fun _ hK => wp_load_mid ty x ho b k hx cs d hc hu hd hi (hK _ _ h)

theorem run_loadVar_any (A : Addr) (ty : TypeId) (cs : List Value) (d : TypeDesc) (hc : ∀ j v, cs[j]? = some v → w.cell? (A.add j) = some v)
    (hu : P.underlying ty = some d) (hd : d.isRow = true) (hi : (P.info? ty).map (·.size) = some cs.length) :
    (loadVar ty A).run P w = .ok (.agg cs.toArray) w := by
  have hl : (loadCells A cs.length).run P w = .ok cs.toArray w := run_loadCells_list (P := P) w A cs hc
  cases hq : P.info? ty with
  | none => simp [hq] at hi
  | some i =>
    have hs : i.size = cs.length := by simpa [hq] using hi
    have hagg : (isAgg ty).run P w = .ok true w := by
      unfold isAgg
      rw [Sem.run_bind, run_underlying hu w]
      cases d <;> simp_all
    simp [loadVar, Sem.run_bind, hagg, sizeOf, typeInfo, hq, hs, hl]

theorem run_load_any {ev : Operand → Value} (ty : TypeId) (x : Operand) (ho : o.op = .load ty x) (A : Addr) (hx : ev x = .pointer (some A)) (cs : List Value) (d : TypeDesc) (hc : ∀ j v, cs[j]? = some v → w.cell? (A.add j) = some v)
    (hu : P.underlying ty = some d) (hd : d.isRow = true) (hi : (P.info? ty).map (·.size) = some cs.length) : (execOp ev o).run P w = .ok (.value (.agg cs.toArray)) w := by
  unfold execOp
  simp only [ho, hx, Instr.loadAt, Instr.sureAddr, Sem.run_bind, Sem.run_pure, Result.andThen_ok, run_loadVar_any A ty cs d hc hu hd hi]

/-- A whole row from wherever it lies. -/
theorem wpList_load_any (hw : Region.wanted o (yielded ops a.tmps) = true) (ty : TypeId) (x : Operand) (ho : o.op = .load ty x) (A : Addr) (hx : a.eval x = .pointer (some A)) (cs : List Value) (d : TypeDesc) (hc : ∀ j v, cs[j]? = some v → w.cell? (A.add j) = some v)
    (hu : P.underlying ty = some d) (hd : d.isRow = true) (hi : (P.info? ty).map (·.size) = some cs.length) (h : wpList P ops Q rest (a.put o.dst (.agg cs.toArray)) w) : wpList P ops Q (o :: rest) a w := by
  refine BigFrame.wpList_want hw fun K hK => ?_
  unfold Oper.wp
  rw [run_load_any ty x ho A hx cs d hc hu hd hi]
  exact hK _ _ h

theorem run_index_row (ty e : TypeId) (len n sz : Nat) (cs : Array Value) (d : TypeDesc) (hu : P.underlying ty = some (.array len e)) (hn : n < len) (hue : P.underlying e = some d) (hd : d.isRow = true) (hi : (P.info? e).map (·.size) = some sz) :
    (Instr.index ty (.agg cs) (.int .i64 (n : Int))).run P w = .ok (.agg (cs.extract (n * sz) (n * sz + sz))) w := by
  cases hq : P.info? e with
  | none => simp [hq] at hi
  | some i =>
    have hs : i.size = sz := by simpa [hq] using hi
    have hagg : (isAgg e).run P w = .ok true w := by
      unfold isAgg
      rw [Sem.run_bind, run_underlying hue w]
      cases d <;> simp_all
    have h0 : (0 : Int) ≤ (n : Int) ∧ (n : Int) < (len : Int) := by omega
    simp [Instr.index, asIntOf, Sem.run_bind, run_underlying hu, h0, sizeOf, typeInfo, hq, hs, part, hagg]
    intro hh
    omega

theorem wpList_index_row (hw : Region.wanted o (yielded ops a.tmps) = true) (ty : TypeId) (x y : Operand) (ho : o.op = .index ty x y) (n : Nat) (cs : Array Value) (hx : a.eval x = .agg cs) (hy : a.eval y = .int .i64 (n : Int))
    (e : TypeId) (len sz : Nat) (d : TypeDesc) (hu : P.underlying ty = some (.array len e)) (hn : n < len) (hue : P.underlying e = some d) (hd : d.isRow = true) (hi : (P.info? e).map (·.size) = some sz)
    (h : wpList P ops Q rest (a.put o.dst (.agg (cs.extract (n * sz) (n * sz + sz)))) w) : wpList P ops Q (o :: rest) a w := by
  refine BigFrame.wpList_want hw fun K hK => ?_
  unfold Oper.wp execOp
  simp only [ho, hx, hy]
  simp only [Sem.run_bind, run_index_row ty e len n sz cs d hu hn hue hd hi]
  exact hK _ _ h
/-- The greater of two, told by a number of the prover's. -/
theorem wpList_max {P : Program} (hw : Region.wanted o (yielded ops a.tmps) = true) (x y : Operand) (ts : Array TypeId) (ho : o.op = .call { callee := .builtin .max, args := #[x, y], argTypes := ts }) (k k' : IntKind) (X Y Z : Int) (hx : a.eval x = .int k X) (hy : a.eval y = .int k' Y)
    (hZ : (if Y > X then Y else X) = Z) (h : wpList P ops Q rest (a.put o.dst (.int k Z)) w) : wpList P ops Q (o :: rest) a w := by
  refine BigFrame.wpList_want hw fun K hK => ?_
  have r : (execOp a.eval o).run P w = .ok (.value (.int k Z)) w := by
    generalize a.eval = ev at hx hy
    unfold execOp
    simp [ho, hx, hy, Sem.run_bind, go_sem]
    simpa using hZ
  unfold Oper.wp
  rw [r]
  exact hK _ _ h

theorem wpList_min {P : Program} (hw : Region.wanted o (yielded ops a.tmps) = true) (x y : Operand) (ts : Array TypeId) (ho : o.op = .call { callee := .builtin .min, args := #[x, y], argTypes := ts }) (k k' : IntKind) (X Y Z : Int) (hx : a.eval x = .int k X) (hy : a.eval y = .int k' Y)
    (hZ : (if Y < X then Y else X) = Z) (h : wpList P ops Q rest (a.put o.dst (.int k Z)) w) : wpList P ops Q (o :: rest) a w := by
  refine BigFrame.wpList_want hw fun K hK => ?_
  have r : (execOp a.eval o).run P w = .ok (.value (.int k Z)) w := by
    generalize a.eval = ev at hx hy
    unfold execOp
    simp [ho, hx, hy, Sem.run_bind, go_sem]
    simpa using hZ
  unfold Oper.wp
  rw [r]
  exact hK _ _ h
end laws
end Go.Proofs.YtpnpjblohijajabGreat

/- MemMore: Rows in the midst of a block, stored whole; new variables; functions that hand back several structs. Nothing of the program is in it. -/
namespace Go.Proofs.YtpnpjblohijajabGreat
set_option linter.unusedSimpArgs false
set_option linter.unusedVariables false
set_option maxRecDepth 100000
open Go.RowKit

theorem Has.there {w : World} {g : Nat} {t : TypeId} {c : Array Value} (h : Has w g t c) (o n : Nat) (hn : o + n ≤ c.size) : w.there g o n := fun j hj => by
  refine ⟨?_, h.free _⟩
  rw [h.cell, Array.getElem?_eq_getElem (by omega)]
  rfl

theorem Has.set3 {w : World} {g : Nat} {t : TypeId} {c : Array Value} (h : Has w g t c) (o : Nat) (v0 v1 v2 : Value) :
    Has (w.setCells g o [v0, v1, v2]) g t (((c.setIfInBounds o v0).setIfInBounds (o + 1) v1).setIfInBounds (o + 1 + 1) v2) :=
  ((h.set o v0).set (o + 1) v1).set (o + 1 + 1) v2

theorem Has.cells_other {w : World} {g k : Nat} {t : TypeId} {c : Array Value} (h : Has w g t c) (hk : g ≠ k) : ∀ (vs : List Value) (o : Nat), Has (w.setCells k o vs) g t c := by
  intro vs
  induction vs generalizing w with
  | nil => intro o; exact h
  | cons v vs ih => intro o; exact ih (h.set_other (a := ⟨k, o, none⟩) hk v) (o + 1)

theorem below_setCells {B : Nat} {w W : World} (h : Below B w W) {k : Nat} (hk : B ≤ k) : ∀ (vs : List Value) (o : Nat), Below B w (W.setCells k o vs) := by
  intro vs
  induction vs generalizing W with
  | nil => intro o; exact h
  | cons v vs ih => intro o; exact ih (h.setCell (show B ≤ (⟨k, o, none⟩ : Addr).block from hk) v) (o + 1)

section laws
variable {P : Program} {ops : Array Oper} {rest : List Oper} {o : Oper} {a : Act} {w : World} {Q : Exit → Act → World → Prop}

/-- A function's end that hands back two structs. -/
theorem ret_has_two {fn : Func} {R : Ending → World → Prop} {p q : Tmp} {ty uy : TypeId} (h : fn.results = #[.cell p ty, .cell q uy]) (g k : Nat) (hp : a.tmps.getD p undef = .pointer (some ⟨g, 0, none⟩)) (hq : a.tmps.getD q undef = .pointer (some ⟨k, 0, none⟩))
    (t u : TypeId) (c e : Array Value) (d f : TypeDesc) (hu : P.underlying ty = some d) (hd : (match d with | .struct _ | .array _ _ => true | _ => false) = true) (hi : (P.info? ty).map (·.size) = some c.size)
    (hv : P.underlying uy = some f) (hf : (match f with | .struct _ | .array _ _ => true | _ => false) = true) (hj : (P.info? uy).map (·.size) = some e.size)
    (hg : Has w g t c) (hk : Has w k u e) (hdf : a.defers = []) (hR : R (.returned (.tuple #[.agg c, .agg e])) w) : bodyPost P fn R .ret a w := by
  refine bodyPost_ret ?_ hdf hR
  have hp' : a.tmps[p]?.getD undef = .pointer (some ⟨g, 0, none⟩) := by simpa using hp
  have hq' : a.tmps[q]?.getD undef = .pointer (some ⟨k, 0, none⟩) := by simpa using hq
  simp [results, h, hp', hq', asAddr, Sem.run_bind, run_loadVar_row w g t ty c (0, 0) d hg hu hd hi, run_loadVar_row w k u uy e (0, 0) f hk hv hf hj, Result.andThen]

theorem wpList_build_one (hw : Region.wanted o (yielded ops a.tmps) = true) (t : TypeId) (i : Nat) (x : Operand) (ho : o.op = .build t #[(i, x)]) (v : Value) (hx : a.eval x = v) (c : Array Value) (hf : P.built t [(i, v)] = some c)
    (h : wpList P ops Q rest (a.put o.dst (.agg c)) w) : wpList P ops Q (o :: rest) a w :=
  wpList_build_has hw t _ ho c (by simpa [hx] using hf) h
theorem wpList_build_two (hw : Region.wanted o (yielded ops a.tmps) = true) (t : TypeId) (i j : Nat) (x y : Operand) (ho : o.op = .build t #[(i, x), (j, y)]) (u v : Value) (hx : a.eval x = u) (hy : a.eval y = v) (c : Array Value) (hf : P.built t [(i, u), (j, v)] = some c)
    (h : wpList P ops Q rest (a.put o.dst (.agg c)) w) : wpList P ops Q (o :: rest) a w :=
  wpList_build_has hw t _ ho c (by simpa [hx, hy] using hf) h

theorem wpList_store_mid' (hw : Region.wanted o (yielded ops a.tmps) = true) (ty : TypeId) (x y : Operand) (ho : o.op = .store ty x y)
    (b k : Nat) (cells : Array Value) (hx : a.eval x = .pointer (some ⟨b, k, none⟩)) (hy : a.eval y = .agg cells)
    (ht : w.there b k cells.size) (hi : (P.info? ty).map (·.size) = some cells.size) (h1 : cells.all (·.oneCell') = true)
    (h : wpList P ops Q rest (a.put o.dst undef) (w.setCells b k cells.toList)) : wpList P ops Q (o :: rest) a w :=
  BigFrame.wpList_want hw fun _ hK => wp_store_mid ty x y ho b k cells hx hy ht hi h1 (hK _ _ h)
end laws
theorem alloc_sz (w : World) (o : Obj) : (w.alloc o).heap.size = w.heap.size + 1 := by simp
theorem one_var (w : World) (t : TypeId) (c : Array Value) : ∃ W, w.alloc (.cells c t) = W ∧ Has W w.heap.size t c ∧ Below w.heap.size w W :=
  ⟨_, rfl, Has.new _ _ _, (Below.refl _ _).alloc (Nat.le_refl _) _⟩
theorem two_vars (w : World) (t1 t2 : TypeId) (c1 c2 : Array Value) : ∃ W, (w.alloc (.cells c1 t1)).alloc (.cells c2 t2) = W ∧ Has W w.heap.size t1 c1 ∧ Has W (w.heap.size + 1) t2 c2 ∧ Below w.heap.size w W := by
  refine ⟨_, rfl, (Has.new _ _ _).alloc _, ?_, ((Below.refl _ _).alloc (Nat.le_refl _) _).alloc (by simp) _⟩
  have := Has.new (w.alloc (.cells c1 t1)) t2 c2
  simpa using this
theorem three_vars (w : World) (t1 t2 t3 : TypeId) (c1 c2 c3 : Array Value) : ∃ W, ((w.alloc (.cells c1 t1)).alloc (.cells c2 t2)).alloc (.cells c3 t3) = W ∧ Has W w.heap.size t1 c1 ∧ Has W (w.heap.size + 1) t2 c2 ∧ Has W (w.heap.size + 1 + 1) t3 c3 ∧ Below w.heap.size w W := by
  refine ⟨_, rfl, ((Has.new _ _ _).alloc _).alloc _, ?_, ?_, (((Below.refl _ _).alloc (Nat.le_refl _) _).alloc (by simp) _).alloc (by simp; omega) _⟩
  · have := (Has.new (w.alloc (.cells c1 t1)) t2 c2).alloc (.cells c3 t3)
    simpa using this
  · have := Has.new ((w.alloc (.cells c1 t1)).alloc (.cells c2 t2)) t3 c3
    simpa using this
/-- A new variable that is filled at once. -/
theorem new_var (w : World) (t : TypeId) (z c : Array Value) : ∃ W, (w.alloc (.cells z t)).setRow w.heap.size c = W ∧ Has W w.heap.size t c ∧ Below w.heap.size w W :=
  ⟨_, rfl, (Has.new w t z).row _, below_setRow ((Below.refl _ _).alloc (Nat.le_refl _) _) (Nat.le_refl _) _⟩

end Go.Proofs.YtpnpjblohijajabGreat

/- PlanMem: New variables and whole stores, along a plan. Nothing of the program is in it. -/
namespace Go.Proofs.YtpnpjblohijajabGreat
set_option linter.unusedSimpArgs false
set_option linter.unusedVariables false
open Go.RowKit

section
variable {P : Program} {ops : Array Oper} {Q : Exit → Act → World → Prop} {S : World → Prop}

theorem plan_alloc_has {i : Nat} {p : Plan} {a : Act} {w : World} (o : Oper) (ho : nth ops.toList i = some o) (hw : Region.wanted o (yielded ops a.tmps) = true) (t : TypeId) (hop : o.op = .alloc t) (c : Array Value) (hz : (P.info? t).map (·.zero) = some (some (.agg c)))
    (hS : S (w.alloc (.cells c t))) (h : wpPlan P ops Q S p (a.put o.dst (.pointer (some ⟨w.heap.size, 0, none⟩))) (w.alloc (.cells c t))) : wpPlan P ops Q S (Plan.run i p) a w := by
  refine plan_run o ho fun K hK => ?_
  rw [if_pos hw]
  cases hq : P.info? t with
  | none => simp [hq] at hz
  | some i =>
    have hz' : i.zero = some (.agg c) := by simpa [hq] using hz
    unfold Oper.wp execOp
    simp [hop, Sem.run_bind, Instr.alloc, zeroValue, typeInfo, hq, hz', newVar, newRow, run_newObj_alloc, Sem.run_pure, Result.andThen_ok, Value.cells]
    exact hK.out _ _ hS h

theorem plan_store_has {i : Nat} {p : Plan} {a : Act} {w : World} (o : Oper) (ho : nth ops.toList i = some o) (hw : Region.wanted o (yielded ops a.tmps) = true) (ty : TypeId) (x y : Operand) (hop : o.op = .store ty x y) (g : Nat) (hx : a.eval x = .pointer (some ⟨g, 0, none⟩))
    (c : Array Value) (hy : a.eval y = .agg c) (t : TypeId) (old : Array Value) (hi : (P.info? ty).map (·.size) = some c.size) (hs : old.size = c.size) (h1 : c.all (·.oneCell') = true)
    (hg : Has w g t old) (hS : S (w.setRow g c)) (h : wpPlan P ops Q S p (a.put o.dst undef) (w.setRow g c)) : wpPlan P ops Q S (Plan.run i p) a w := by
  refine plan_run o ho fun K hK => ?_
  rw [if_pos hw]
  exact wp_store_row ty x y hop g c hx hy t old hg hi hs h1 (hK.out _ _ hS h)
end
end Go.Proofs.YtpnpjblohijajabGreat

/- MapRow: Maps in memory whose keys are numbers of 32 bits one behind the other: look-ups, the next one put in, the length, a clone. Nothing of the program is in it. -/
namespace Go.Proofs.YtpnpjblohijajabGreat
set_option linter.unusedSimpArgs false
set_option linter.unusedVariables false
open Go.RowKit Go.MapKept

def entryN (o : Nat) (f : Nat → Value) (k : Nat) : MapEntry := ⟨.int .u32 ((k + o : Nat) : Int), f k, k⟩

def rowN (o : Nat) (f : Nat → Value) : Nat → Nat → List MapEntry
  | _, 0 => []
  | s, n + 1 => entryN o f s :: rowN o f (s + 1) n

theorem rowN_len (o : Nat) (f : Nat → Value) : ∀ s n, (rowN o f s n).length = n
  | _, 0 => rfl
  | s, n + 1 => by simp [rowN, rowN_len o f (s + 1) n]

theorem rowN_snoc (o : Nat) (f : Nat → Value) : ∀ s n, rowN o f s (n + 1) = rowN o f s n ++ [entryN o f (s + n)]
  | s, 0 => by simp [rowN]
  | s, n + 1 => by
    rw [rowN, rowN_snoc o f (s + 1) n, rowN]
    simp [Nat.add_assoc, Nat.add_comm 1 n]

theorem rowN_congr {o : Nat} {f g : Nat → Value} : ∀ s n, (∀ k, s ≤ k → k < s + n → f k = g k) → rowN o f s n = rowN o g s n
  | _, 0, _ => rfl
  | s, n + 1, h => by
    rw [rowN, rowN, rowN_congr (s + 1) n (fun k h1 h2 => h k (by omega) (by omega))]
    unfold entryN
    rw [h s (Nat.le_refl _) (by omega)]

/-- What is found at a number. -/
def foundN (o n : Nat) (f : Nat → Value) (e : Nat) : Option (Nat × Value) := if o ≤ e ∧ e < o + n then some (e - o, f (e - o)) else none

theorem find_row (o : Nat) (f : Nat → Value) (e : Nat) : ∀ n s, Instr.findNow (.int .u32) (.int .u32 (e : Int)) (rowN o f s n) s = some (if s + o ≤ e ∧ e < s + o + n then some (e - o, f (e - o)) else none)
  | 0, s => by
    rw [if_neg (by omega)]
    rfl
  | n + 1, s => by
    rw [rowN]
    unfold Instr.findNow
    have hs : Instr.sameNow (.int .u32) (.int .u32 (e : Int)) (entryN o f s).key = some ((e : Int) == ((s + o : Nat) : Int)) := by
      simp [entryN, Instr.sameNow]
    rw [hs]
    by_cases he : e = s + o
    · have h1 : ((e : Int) == ((s + o : Nat) : Int)) = true := by rw [beq_iff_eq, he]
      rw [h1, if_pos (by omega)]
      subst he
      simp [entryN]
    · have h1 : ((e : Int) == ((s + o : Nat) : Int)) = false := by rw [beq_eq_false_iff_ne]; omega
      rw [h1]
      show Instr.findNow (.int .u32) (.int .u32 (e : Int)) (rowN o f (s + 1) n) (s + 1) = _
      rw [find_row o f e n (s + 1)]
      by_cases hc : s + 1 + o ≤ e ∧ e < s + 1 + o + n
      · rw [if_pos hc, if_pos (by omega)]
      · rw [if_neg hc, if_neg (by omega)]

/-- Block b is a map of n entries, at o, o + 1, .. -/
def MapRow (w : World) (b o n : Nat) (f : Nat → Value) : Prop := w.heap[b]? = some (.map (rowN o f 0 n).toArray n)

theorem MapRow.lt {w : World} {b o n : Nat} {f : Nat → Value} (h : MapRow w b o n f) : b < w.heap.size := (Array.getElem?_eq_some_iff.1 h).1

theorem MapRow.later {w w' : World} {b o n : Nat} {f : Nat → Value} (h : MapRow w b o n f) (hb : Below w.heap.size w w') : MapRow w' b o n f := by
  have := h.lt
  unfold MapRow at *
  rw [hb.block b this]
  exact h

theorem MapRow.drew {w : World} {b o n : Nat} {f : Nat → Value} (h : MapRow w b o n f) : MapRow w.drew b o n f := h

theorem MapRow.new (w : World) (o n : Nat) (f : Nat → Value) : MapRow (w.alloc (.map (rowN o f 0 n).toArray n)) w.heap.size o n f := (heap_alloc w _).1

theorem find_at (o n : Nat) (f : Nat → Value) (e : Nat) : Instr.findNow (.int .u32) (.int .u32 (e : Int)) (rowN o f 0 n) 0 = some (foundN o n f e) := by
  rw [find_row o f e n 0]
  unfold foundN
  simp only [Nat.zero_add]

/-- What a look-up tells. -/
def lookN (o n : Nat) (f : Nat → Value) (z : Value) (e : Nat) : Value := if o ≤ e ∧ e < o + n then f (e - o) else z

theorem key_u32 (e : Int) : IsKey (.int .u32) (.int .u32 e) := rfl

section
variable {P : Program} {w : World} {b o n : Nat} {f : Nat → Value}

theorem run_look (h : MapRow w b o n f) (t k el : TypeId) (ht : P.underlying t = some (.map k el)) (hk : P.underlying k = some (.int .u32)) (z : Value) (hz : ∀ w, (zeroValue el).run P w = .ok z w) (e : Nat) :
    (Instr.lookup t (.map (some b)) (.int .u32 (e : Int)) false).run P w = .ok (lookN o n f z e) w := by
  have hf := run_findKey (P := P) (w := w) (kt := k) hk (find_at o n f e)
  unfold foundN at hf
  unfold lookN
  by_cases hc : o ≤ e ∧ e < o + n
  · rw [if_pos hc] at hf ⊢
    simp [Instr.lookup, Sem.run_bind, run_underlying ht, Go.MapKept.run_getObj_map (show w.heap[b]? = some (.map (rowN o f 0 n).toArray n) from h), run_checkKey hk (key_u32 _), hf, Result.andThen]
  · rw [if_neg hc] at hf ⊢
    simp [Instr.lookup, Sem.run_bind, run_underlying ht, Go.MapKept.run_getObj_map (show w.heap[b]? = some (.map (rowN o f 0 n).toArray n) from h), run_checkKey hk (key_u32 _), hf, hz, Result.andThen]

theorem run_look_ok (h : MapRow w b o n f) (t k el : TypeId) (ht : P.underlying t = some (.map k el)) (hk : P.underlying k = some (.int .u32)) (z : Value) (hz : ∀ w, (zeroValue el).run P w = .ok z w) (e : Nat) :
    (Instr.lookup t (.map (some b)) (.int .u32 (e : Int)) true).run P w = .ok (.tuple #[lookN o n f z e, .bool (decide (o ≤ e ∧ e < o + n))]) w := by
  have hf := run_findKey (P := P) (w := w) (kt := k) hk (find_at o n f e)
  unfold foundN at hf
  unfold lookN
  by_cases hc : o ≤ e ∧ e < o + n
  · rw [if_pos hc] at hf ⊢
    simp [Instr.lookup, Sem.run_bind, run_underlying ht, Go.MapKept.run_getObj_map (show w.heap[b]? = some (.map (rowN o f 0 n).toArray n) from h), run_checkKey hk (key_u32 _), hf, Result.andThen, hc]
  · rw [if_neg hc] at hf ⊢
    simp [Instr.lookup, Sem.run_bind, run_underlying ht, Go.MapKept.run_getObj_map (show w.heap[b]? = some (.map (rowN o f 0 n).toArray n) from h), run_checkKey hk (key_u32 _), hf, hz, Result.andThen]
    omega

/-- The world with another block. -/
def putBlock (w : World) (b : Nat) (o : Obj) : World := { w with heap := w.heap.setIfInBounds b o }

theorem putBlock_size (w : World) (b : Nat) (o : Obj) : (putBlock w b o).heap.size = w.heap.size := by simp [putBlock]
theorem putBlock_same {w : World} {b : Nat} (o : Obj) (h : b < w.heap.size) : (putBlock w b o).heap[b]? = some o := by simp [putBlock, h]
theorem putBlock_other (w : World) {b k : Nat} (o : Obj) (h : k ≠ b) : (putBlock w b o).heap[k]? = w.heap[k]? := by
  show (w.heap.setIfInBounds b o)[k]? = _
  simp [Ne.symm h]

theorem MapRow.put {w : World} {b o n m : Nat} {f g : Nat → Value} (h : MapRow w b o n f) : MapRow (putBlock w b (.map (rowN o g 0 m).toArray m)) b o m g := putBlock_same _ h.lt
theorem MapRow.put_other {w : World} {b c o n : Nat} {f : Nat → Value} (h : MapRow w c o n f) (hc : c ≠ b) (ob : Obj) : MapRow (putBlock w b ob) c o n f := (putBlock_other w ob hc).trans h
theorem Has.put_other {w : World} {b g : Nat} {t : TypeId} {c : Array Value} (h : Has w g t c) (hg : g ≠ b) (ob : Obj) : Has (putBlock w b ob) g t c := (putBlock_other w ob hg).trans h
theorem below_put {B : Nat} {w W : World} (h : Below B w W) {b : Nat} (hb : B ≤ b) (ob : Obj) : Below B w (putBlock W b ob) :=
  ⟨h.os, h.tape, h.output, by rw [putBlock_size]; exact h.size, fun k hk => (putBlock_other W ob (by omega)).trans (h.block k hk)⟩

/-- One more behind the others. -/
theorem run_next (h : MapRow w b o n f) (t k el : TypeId) (ht : P.underlying t = some (.map k el)) (hk : P.underlying k = some (.int .u32)) (e : Nat) (he : e = n + o) (v : Value) (g : Nat → Value) (hg : ∀ k, k < n → f k = g k) (hv : g n = v) :
    (Instr.mapUpdate t (.map (some b)) (.int .u32 (e : Int)) v).run P w = .ok () (putBlock w b (.map (rowN o g 0 (n + 1)).toArray (n + 1))) := by
  have hf := run_findKey (P := P) (w := w) (kt := k) hk (find_at o n f e)
  unfold foundN at hf
  rw [if_neg (by omega)] at hf
  have hr : (rowN o g 0 (n + 1)).toArray = (rowN o f 0 n).toArray.push ⟨.int .u32 (e : Int), v, n⟩ := by
    rw [rowN_snoc, rowN_congr (f := g) (g := f) 0 n (fun k _ hk => (hg k (by omega)).symm)]
    unfold entryN
    rw [Nat.zero_add, hv, he]
    simp
  rw [hr]
  simp [Instr.mapUpdate, Sem.run_bind, run_underlying ht, Go.MapKept.run_getObj_map (show w.heap[b]? = some (.map (rowN o f 0 n).toArray n) from h), run_checkKey hk (key_u32 _), hf, Go.MapKept.run_setObj_map _ (show w.heap[b]? = some (.map (rowN o f 0 n).toArray n) from h), Result.andThen, putBlock]

theorem run_len_map (h : MapRow w b o n f) (t k el : TypeId) (ht : P.underlying t = some (.map k el)) (ty : TypeId) :
    (Builtin.len_ #[t] ty #[.map (some b)]).run P w = .ok (.int .i64 (n : Int)) w := by
  simp [Builtin.len_, Sem.run_bind, run_underlying ht, Go.MapKept.run_getObj_map (show w.heap[b]? = some (.map (rowN o f 0 n).toArray n) from h), rowN_len, Result.andThen, goInt]
end

section laws
variable {P : Program} {ops : Array Oper} {rest : List Oper} {o : Oper} {a : Act} {w : World} {Q : Exit → Act → World → Prop} {S : World → Prop} {b O n : Nat} {f : Nat → Value}

theorem wpList_look (hw : Region.wanted o (yielded ops a.tmps) = true) (t : TypeId) (m x : Operand) (ho : o.op = .lookup t m x false) (hm : a.eval m = .map (some b)) (e : Nat) (hx : a.eval x = .int .u32 (e : Int)) (h : MapRow w b O n f)
    (k el : TypeId) (ht : P.underlying t = some (.map k el)) (hk : P.underlying k = some (.int .u32)) (z : Value) (hz : ∀ w, (zeroValue el).run P w = .ok z w) (v : Value) (hv : lookN O n f z e = v)
    (hK : wpList P ops Q rest (a.put o.dst v) w) : wpList P ops Q (o :: rest) a w := by
  refine BigFrame.wpList_want hw fun K hK' => ?_
  unfold Oper.wp execOp
  simp only [ho, hm, hx]
  simp only [Sem.run_bind, run_look h t k el ht hk z hz e, hv]
  exact hK' _ _ hK

theorem wpList_look_ok (hw : Region.wanted o (yielded ops a.tmps) = true) (t : TypeId) (m x : Operand) (ho : o.op = .lookup t m x true) (hm : a.eval m = .map (some b)) (e : Nat) (hx : a.eval x = .int .u32 (e : Int)) (h : MapRow w b O n f)
    (k el : TypeId) (ht : P.underlying t = some (.map k el)) (hk : P.underlying k = some (.int .u32)) (z : Value) (hz : ∀ w, (zeroValue el).run P w = .ok z w) (v : Value) (y : Bool) (hv : lookN O n f z e = v) (hy : decide (O ≤ e ∧ e < O + n) = y)
    (hK : wpList P ops Q rest (a.put o.dst (.tuple #[v, .bool y])) w) : wpList P ops Q (o :: rest) a w := by
  refine BigFrame.wpList_want hw fun K hK' => ?_
  unfold Oper.wp execOp
  simp only [ho, hm, hx]
  simp only [Sem.run_bind, run_look_ok h t k el ht hk z hz e, hv, hy]
  exact hK' _ _ hK

theorem wpList_insert (hw : Region.wanted o (yielded ops a.tmps) = true) (t : TypeId) (m x y : Operand) (ho : o.op = .insert t m x y) (hm : a.eval m = .map (some b)) (e : Nat) (hx : a.eval x = .int .u32 (e : Int)) (v : Value) (hy : a.eval y = v) (h : MapRow w b O n f)
    (k el : TypeId) (ht : P.underlying t = some (.map k el)) (hk : P.underlying k = some (.int .u32)) (he : e = n + O) (g : Nat → Value) (hg : ∀ k, k < n → f k = g k) (hv : g n = v)
    (hK : wpList P ops Q rest (a.put o.dst undef) (putBlock w b (.map (rowN O g 0 (n + 1)).toArray (n + 1)))) : wpList P ops Q (o :: rest) a w := by
  refine BigFrame.wpList_want hw fun K hK' => ?_
  unfold Oper.wp execOp
  simp only [ho, hm, hx, hy]
  simp only [Sem.run_bind, run_next h t k el ht hk e he v g hg hv]
  exact hK' _ _ hK

theorem yields_look {o : Oper} {a : Act} (hw : Region.wanted o (yielded ops a.tmps) = true) (t : TypeId) (m x : Operand) (ho : o.op = .lookup t m x false) (hm : a.eval m = .map (some b)) (e : Nat) (hx : a.eval x = .int .u32 (e : Int)) (h : ∀ w, S w → MapRow w b O n f)
    (k el : TypeId) (ht : P.underlying t = some (.map k el)) (hk : P.underlying k = some (.int .u32)) (z : Value) (hz : ∀ w, (zeroValue el).run P w = .ok z w) (v : Value) (hv : lookN O n f z e = v) : YieldsIf P ops S o v a := by
  refine .inl ⟨hw, fun w hSw => ?_⟩
  unfold execOp
  simp only [ho, hm, hx]
  simp only [Sem.run_bind, run_look (h w hSw) t k el ht hk z hz e, hv]
  rfl

theorem plan_next {i : Nat} {p : Plan} {a : Act} {w : World} (o : Oper) (ho : nth ops.toList i = some o) (hw : Region.wanted o (yielded ops a.tmps) = true) (t : TypeId) (m x y : Operand) (hop : o.op = .mapUpdate t m x y) (hm : a.eval m = .map (some b)) (e : Nat) (hx : a.eval x = .int .u32 (e : Int)) (v : Value) (hy : a.eval y = v) (h : MapRow w b O n f)
    (k el : TypeId) (ht : P.underlying t = some (.map k el)) (hk : P.underlying k = some (.int .u32)) (he : e = n + O) (g : Nat → Value) (hg : ∀ k, k < n → f k = g k) (hv : g n = v)
    (hS : S (putBlock w b (.map (rowN O g 0 (n + 1)).toArray (n + 1)))) (hK : wpPlan P ops Q S p (a.put o.dst undef) (putBlock w b (.map (rowN O g 0 (n + 1)).toArray (n + 1)))) : wpPlan P ops Q S (Plan.run i p) a w := by
  refine plan_run o ho fun K hK' => ?_
  rw [if_pos hw]
  unfold Oper.wp execOp
  simp only [hop, hm, hx, hy]
  simp only [Sem.run_bind, run_next h t k el ht hk e he v g hg hv]
  exact hK'.out _ _ hS hK
end laws
end Go.Proofs.YtpnpjblohijajabGreat
