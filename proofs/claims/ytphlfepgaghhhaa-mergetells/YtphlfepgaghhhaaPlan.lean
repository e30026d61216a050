/- Regions that draw their order, by a plan: which operation is taken first, which alone can come up. Nothing of the program is in it. -/
import Derived.Test.YtphlfepgaghhhaaMem
import Derived.Deep.RegionHeld3
import Derived.Laws.StructEq
namespace Go.Proofs.Ytphlfepgaghhhaa
set_option linter.unusedSimpArgs false
set_option linter.unusedVariables false
open Go.RowKit

/-- The way through a region, written as a piece of code: 'block': take an operation first; 'cond': run the only one that can come up; 'rangeFunc': run either of the two that can; 'skip': the end. -/
abbrev Plan := Code

def numOf : Operand → Nat
  | .tmp i => i
  | _ => 0

def Plan.done : Plan := .skip
def Plan.take (i : Nat) (p : Plan) : Plan := .block i p
def Plan.run (i : Nat) (p : Plan) : Plan := .cond (.tmp i) p .skip
def Plan.either (i : Nat) (p : Plan) (j : Nat) (q : Plan) : Plan := .rangeFunc (.tmp i) #[j] p q

/-- Nothing but takes and runs, by a list. -/
def Plan.of : List (Nat × Bool) → Plan → Plan
  | [], q => q
  | (i, true) :: l, q => .take i (Plan.of l q)
  | (i, false) :: l, q => .run i (Plan.of l q)

def Plan.fits (md : Region.Mode) (ops : Array Oper) : Code → Array Bool → Bool
  | .skip, l => (Region.ready md ops l).isEmpty
  | .block i p, l => Region.free md ops l i && ((Region.ready md ops l).contains i && Plan.fits md ops p (l.setIfInBounds i true))
  | .cond x p _, l => (Region.ready md ops l == [numOf x]) && Plan.fits md ops p (l.setIfInBounds (numOf x) true)
  | .rangeFunc x ts p q, l => (Region.ready md ops l == [numOf x, ts.getD 0 0]) && (Plan.fits md ops p (l.setIfInBounds (numOf x) true) && Plan.fits md ops q (l.setIfInBounds (ts.getD 0 0) true))
  | _, _ => false

def Plan.fuel : Code → Nat
  | .block _ p => Plan.fuel p + 1
  | .cond _ p _ => Plan.fuel p + 1
  | .rangeFunc _ _ p q => max (Plan.fuel p) (Plan.fuel q) + 1
  | _ => 0

section
variable {P : Program} {ops : Array Oper} {Q : Exit → Act → World → Prop} {S : World → Prop} {md : Region.Mode}

/-- The walk along a plan. -/
def wpPlan (P : Program) (ops : Array Oper) (Q : Exit → Act → World → Prop) (S : World → Prop) : Code → Act → World → Prop
  | .skip, a, w => Q .normal a w
  | .block i p, a, w => ∃ o v, ops[i]? = some o ∧ YieldsIf P ops S o v a ∧ wpPlan P ops Q S p (a.put o.dst v) w
  | .cond x p _, a, w => wpOp P ops Q (numOf x) (fun a' w' => S w' ∧ wpPlan P ops Q S p a' w') a w
  | .rangeFunc x ts p q, a, w => wpOp P ops Q (numOf x) (fun a' w' => S w' ∧ wpPlan P ops Q S p a' w') a w ∧ wpOp P ops Q (ts.getD 0 0) (fun a' w' => S w' ∧ wpPlan P ops Q S q a' w') a w
  | _, _, _ => False

theorem wpAnyH_of_plan (hs : Region.noSelect ops = true) (hQ : ∀ (d : Option Tmp) v c a w, Q (.panic c) (a.put d v) w → Q (.panic c) a w) :
    ∀ (p : Plan) (fuel : Nat) (listed : Array Bool) (a : Act) (w : World), Plan.fuel p ≤ fuel → Plan.fits md ops p listed = true → S w → wpPlan P ops Q S p a w → wpAnyH P md ops Q S fuel listed a w := by
  intro p
  induction p with
  | skip =>
    intro fuel listed a w _ hf _ h
    exact wpAnyH_done (by simpa [Plan.fits] using hf) h fuel
  | block i p ih =>
    intro fuel listed a w hn hf hS h
    obtain ⟨o, v, ho, hy, h⟩ := h
    simp only [Plan.fits, Bool.and_eq_true] at hf
    cases fuel with
    | zero => simp [Plan.fuel] at hn
    | succ fuel => exact wpAnyH_take ho hs hf.1 hf.2.1 (hQ _ _) hy hS (ih fuel _ _ _ (by simpa [Plan.fuel] using hn) hf.2.2 hS h)
  | cond x p _ ih _ =>
    intro fuel listed a w hn hf hS h
    simp only [Plan.fits, Bool.and_eq_true, beq_iff_eq] at hf
    cases fuel with
    | zero => simp [Plan.fuel] at hn
    | succ fuel =>
      refine wpAnyH_all hf.1 (by simp) fun j hj => ?_
      have e : j = numOf x := by simpa using hj
      rw [e]
      exact wpOp_mono (fun a' w' h' => ⟨h'.1, ih fuel _ a' w' (by simpa [Plan.fuel] using hn) hf.2 h'.1 h'.2⟩) h
  | rangeFunc x ts p q ih ih' =>
    intro fuel listed a w hn hf hS h
    simp only [Plan.fits, Bool.and_eq_true, beq_iff_eq] at hf
    cases fuel with
    | zero => simp [Plan.fuel] at hn
    | succ fuel =>
      have hn' : Plan.fuel p ≤ fuel ∧ Plan.fuel q ≤ fuel := by simp only [Plan.fuel] at hn; omega
      refine wpAnyH_all hf.1 (by simp) fun k hk => ?_
      have hk' : k = numOf x ∨ k = ts.getD 0 0 := by simpa using hk
      rcases hk' with e | e
      · rw [e]
        exact wpOp_mono (fun a' w' h' => ⟨h'.1, ih fuel _ a' w' hn'.1 hf.2.1 h'.1 h'.2⟩) h.1
      · rw [e]
        exact wpOp_mono (fun a' w' h' => ⟨h'.1, ih' fuel _ a' w' hn'.2 hf.2.2 h'.1 h'.2⟩) h.2
  | _ =>
    intro fuel listed a w _ hf _ _
    simp [Plan.fits] at hf

/-- The beginning: the region is shown not to panic. -/
theorem wp_region_plan {id : Nat} {a : Act} {w : World} (S : World → Prop) (p : Plan) (hm : P.follows .mixedOrders = true) (hs : Region.noSelect ops = true) (hf : Plan.fits .any ops p (Array.replicate ops.size false) = true) (hn : decide (Plan.fuel p ≤ ops.size) = true)
    (hS : S w.drew) (h : wpPlan P ops (NoPanic Q) S p a w.drew) : (Code.region id ops true).wp P Q a w :=
  wp_region_noPanic (wp_region_held hm (wpAnyH_of_plan hs (fun _ _ _ _ _ h => h) p _ _ a w.drew (of_decide_eq_true hn) hf hS h))

theorem plan_done {a : Act} {w : World} (h : Q .normal a w) : wpPlan P ops (NoPanic Q) S Plan.done a w := NoPanic.normal h

/-- An operation by its place, so that it comes out written. -/
def nth : List Oper → Nat → Option Oper
  | [], _ => none
  | o :: _, 0 => some o
  | _ :: l, n + 1 => nth l n

theorem nth_eq : ∀ (l : List Oper) (i : Nat), nth l i = l[i]?
  | [], _ => by simp [nth]
  | _ :: _, 0 => rfl
  | _ :: l, n + 1 => by simpa [nth] using nth_eq l n

theorem nth_at {i : Nat} {o : Oper} (h : nth ops.toList i = some o) : ops[i]? = some o := by
  rw [nth_eq] at h
  simpa using h

theorem plan_take {i : Nat} {p : Plan} {a : Act} {w : World} (o : Oper) (v : Value) (ho : nth ops.toList i = some o) (hy : YieldsIf P ops S o v a) (h : wpPlan P ops Q S p (a.put o.dst v) w) : wpPlan P ops Q S (Plan.take i p) a w := ⟨o, v, nth_at ho, hy, h⟩

/-- A guarded operation that is passed over. -/
theorem plan_pass {i : Nat} {p : Plan} {a : Act} {w : World} (o : Oper) (ho : nth ops.toList i = some o) (hw : Region.wanted o (yielded ops a.tmps) = false) (h : wpPlan P ops Q S p (a.put o.dst undef) w) : wpPlan P ops Q S (Plan.take i p) a w :=
  ⟨o, undef, nth_at ho, .inr ⟨hw, rfl⟩, h⟩

theorem plan_run {i : Nat} {p : Plan} {a : Act} {w : World} (o : Oper) (ho : nth ops.toList i = some o)
    (h : ∀ K : Act → World → Prop, Shut (∀ a w, S w → wpPlan P ops Q S p a w → K a w) → if Region.wanted o (yielded ops a.tmps) = true then Oper.wp P o a w K Q else K (a.put o.dst undef) w) : wpPlan P ops Q S (Plan.run i p) a w :=
  wpOp_step (nth_at ho) (fun K' hK => h K' (fun a w hS hW => hK a w ⟨hS, hW⟩))

theorem plan_either {i j : Nat} {p q : Plan} {a : Act} {w : World} (h : wpPlan P ops Q S (Plan.run i p) a w) (h' : wpPlan P ops Q S (Plan.run j q) a w) : wpPlan P ops Q S (Plan.either i p j q) a w := ⟨h, h'⟩

/-- A whole struct or array out of its variable, in every world of S. -/
theorem yields_load_has {o : Oper} {a : Act} (hw : Region.wanted o (yielded ops a.tmps) = true) (ty : TypeId) (x : Operand) (ho : o.op = .load ty x) (g : Nat) (hx : a.eval x = .pointer (some ⟨g, 0, none⟩))
    (t : TypeId) (c : Array Value) (d : TypeDesc) (hu : P.underlying ty = some d) (hd : (match d with | .struct _ | .array _ _ => true | _ => false) = true) (hi : (P.info? ty).map (·.size) = some c.size)
    (hg : ∀ w, S w → Has w g t c) : YieldsIf P ops S o (.agg c) a := by
  refine .inl ⟨hw, fun w hSw => ?_⟩
  unfold execOp
  simp only [ho, hx]
  simp only [Sem.run_bind, Instr.loadAt, Instr.sureAddr, Sem.run_pure, Result.andThen]
  rw [run_loadVar_row w g t ty c (0, 0) d (hg w hSw) hu hd hi]

theorem run_bin_agg {o : Oper} {ev : Operand → Value} {w : World} (b : BinOp) (ty ty' : TypeId) (x y : Operand) (ho : o.op = .binOp b ty x y ty') (X Y : Array Value) (hx : ev x = .agg X) (hy : ev y = .agg Y) (v : Value) (hm : P.eqGuardType P.depth ty = false)
    (h : (binOp b ty (.agg X) (.agg Y)).run P w = .ok v w) : (execOp ev o).run P w = .ok (.value v) w := by
  unfold execOp
  simp only [ho, hx, hy]
  simp only [Sem.run_bind, run_eqGuard_agg (hm := hm), Result.andThen_ok, h, Sem.run_pure]

/-- Two rows held against each other, in whatever world. -/
theorem yields_bin_agg {o : Oper} {a : Act} (hw : Region.wanted o (yielded ops a.tmps) = true) (b : BinOp) (ty ty' : TypeId) (x y : Operand) (ho : o.op = .binOp b ty x y ty') (X Y : Array Value) (hx : a.eval x = .agg X) (hy : a.eval y = .agg Y) (v : Value) (hm : P.eqGuardType P.depth ty = false)
    (h : ∀ w, (binOp b ty (.agg X) (.agg Y)).run P w = .ok v w) : YieldsIf P ops S o v a :=
  .inl ⟨hw, fun w _ => run_bin_agg b ty ty' x y ho X Y hx hy v hm (h w)⟩

theorem wpList_bin_agg {o : Oper} {a : Act} {w : World} {rest : List Oper} (hw : Region.wanted o (yielded ops a.tmps) = true) (b : BinOp) (ty ty' : TypeId) (x y : Operand) (ho : o.op = .binOp b ty x y ty') (X Y : Array Value) (hx : a.eval x = .agg X) (hy : a.eval y = .agg Y) (v : Value) (hm : P.eqGuardType P.depth ty = false)
    (hv : (binOp b ty (.agg X) (.agg Y)).run P w = .ok v w) (h : wpList P ops Q rest (a.put o.dst v) w) : wpList P ops Q (o :: rest) a w := by
  refine BigFrame.wpList_want hw fun K hK => ?_
  unfold Oper.wp
  rw [run_bin_agg b ty ty' x y ho X Y hx hy v hm hv]
  exact hK _ _ h

theorem yields_move {o : Oper} {a : Act} (hw : Region.wanted o (yielded ops a.tmps) = true) (x : Operand) (ho : o.op = .move x) : YieldsIf P ops S o (a.eval x) a := .inl ⟨hw, fun w _ => BigFrame.run_move x ho w⟩
theorem yields_assign {o : Oper} {a : Act} (hw : Region.wanted o (yielded ops a.tmps) = true) (x : Operand) (ho : o.op = .assign x) : YieldsIf P ops S o (a.eval x) a := .inl ⟨hw, fun w _ => BigFrame.run_assign x ho w⟩
end
end Go.Proofs.Ytphlfepgaghhhaa
