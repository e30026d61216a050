/- Regions that draw their order: what holds behind them, said once for all orders; and steps without a plan, where three and more can come up. Nothing of the program is in it. -/
import Derived.Test.YthpmkhbkbpifkaaPackTools
namespace Go.Proofs.Ythpmkhbkbpifkaa
set_option linter.unusedSimpArgs false
set_option linter.unusedVariables false
open Go.RowKit

/-- What is to hold behind a region: F of what was and what is; elsewhere the post as it stands. -/
def MidQ (F : Act → Act → World → Prop) (a : Act) (Q : Exit → Act → World → Prop) : Exit → Act → World → Prop
  | .normal, a', w' => F a a' w'
  | e, a', w' => Q e a' w'

section
variable {P : Program} {ops : Array Oper} {Q : Exit → Act → World → Prop} {S : World → Prop}

theorem MidQ.imp {F : Act → Act → World → Prop} {a : Act} (hk : ∀ a' w', F a a' w' → Q .normal a' w') : ∀ (e : Exit) (a' : Act) (w' : World), MidQ F a Q e a' w' → Q e a' w' := fun e a' w' h => by
  cases e <;> first | exact hk _ _ h | exact h

theorem mid_done {F : Act → Act → World → Prop} {a a' : Act} {w' : World} (h : F a a' w') : MidQ F a Q .normal a' w' := h

theorem wp_region_plan_mid {id : Nat} {a : Act} {w : World} (S : World → Prop) (p : Plan) (F : Act → Act → World → Prop) (hm : P.follows .mixedOrders = true) (hs : Region.noSelect ops = true) (hf : Plan.fits .any ops p (Array.replicate ops.size false) = true) (hn : decide (Plan.fuel p ≤ ops.size) = true)
    (hS : S w.drew) (h : wpPlan P ops (NoPanic (MidQ F a Q)) S p a w.drew) (hk : ∀ a' w', F a a' w' → Q .normal a' w') : (Code.region id ops true).wp P Q a w :=
  Code.wp_mono (MidQ.imp hk) (wp_region_plan S p hm hs hf hn hS h)

theorem wp_region_any_mid {id : Nat} {a : Act} {w : World} (S : World → Prop) (n : Nat) (L : Array Bool) (F : Act → Act → World → Prop) (hm : P.follows .mixedOrders = true) (hn : ops.size = n) (hL : Array.replicate ops.size false = L)
    (h : wpAnyH P .any ops (NoPanic (MidQ F a Q)) S n L a w.drew) (hk : ∀ a' w', F a a' w' → Q .normal a' w') : (Code.region id ops true).wp P Q a w := by
  subst hn hL
  exact Code.wp_mono (MidQ.imp hk) (wp_region_noPanic (wp_region_held hm h))

theorem any_done {fuel : Nat} {L : Array Bool} {a : Act} {w : World} (hr : Region.ready .any ops L = []) (h : Q .normal a w) : wpAnyH P .any ops (NoPanic Q) S fuel L a w := wpAnyH_done hr (NoPanic.normal h) fuel
theorem any_take {fuel : Nat} {L : Array Bool} {a : Act} {w : World} (i : Nat) (o : Oper) (v : Value) (ho : nth ops.toList i = some o) (hs : Region.noSelect ops = true) (hf : Region.free .any ops L i = true) (hr : (Region.ready .any ops L).contains i = true) (hS : S w) (hy : YieldsIf P ops S o v a)
    (h : wpAnyH P .any ops (NoPanic Q) S fuel (L.setIfInBounds i true) (a.put o.dst v) w) : wpAnyH P .any ops (NoPanic Q) S (fuel + 1) L a w := wpAnyH_take (nth_at ho) hs hf hr (fun _ _ _ h => h) hy hS h

/-- One of those that can come up, behind a '∀ K'. -/
def AnyRun (P : Program) (ops : Array Oper) (Q : Exit → Act → World → Prop) (S : World → Prop) (fuel : Nat) (L : Array Bool) (i : Nat) (a : Act) (w : World) : Prop := wpOp P ops (NoPanic Q) i (fun a' w' => S w' ∧ wpAnyH P .any ops (NoPanic Q) S fuel (L.setIfInBounds i true) a' w') a w
theorem any_one {fuel : Nat} {L : Array Bool} {a : Act} {w : World} (i : Nat) (hr : Region.ready .any ops L = [i]) (h : AnyRun P ops Q S fuel L i a w) : wpAnyH P .any ops (NoPanic Q) S (fuel + 1) L a w :=
  wpAnyH_all hr (by simp) fun j hj => by
    have e : j = i := by simpa using hj
    rw [e]
    exact h
theorem any_two {fuel : Nat} {L : Array Bool} {a : Act} {w : World} (i j : Nat) (hr : Region.ready .any ops L = [i, j]) (h : AnyRun P ops Q S fuel L i a w) (h' : AnyRun P ops Q S fuel L j a w) : wpAnyH P .any ops (NoPanic Q) S (fuel + 1) L a w :=
  wpAnyH_all hr (by simp) fun k hk => by
    have e : k = i ∨ k = j := by simpa using hk
    rcases e with e | e
    · rw [e]; exact h
    · rw [e]; exact h'
theorem any_three {fuel : Nat} {L : Array Bool} {a : Act} {w : World} (i j k : Nat) (hr : Region.ready .any ops L = [i, j, k]) (h : AnyRun P ops Q S fuel L i a w) (h' : AnyRun P ops Q S fuel L j a w) (h'' : AnyRun P ops Q S fuel L k a w) : wpAnyH P .any ops (NoPanic Q) S (fuel + 1) L a w :=
  wpAnyH_all hr (by simp) fun l hl => by
    have e : l = i ∨ l = j ∨ l = k := by simpa using hl
    rcases e with e | e | e
    · rw [e]; exact h
    · rw [e]; exact h'
    · rw [e]; exact h''
theorem any_run {fuel : Nat} {L : Array Bool} {i : Nat} {a : Act} {w : World} (o : Oper) (ho : nth ops.toList i = some o)
    (h : ∀ K : Act → World → Prop, Shut (∀ a w, S w → wpAnyH P .any ops (NoPanic Q) S fuel (L.setIfInBounds i true) a w → K a w) → if Region.wanted o (yielded ops a.tmps) = true then Oper.wp P o a w K (NoPanic Q) else K (a.put o.dst undef) w) : AnyRun P ops Q S fuel L i a w :=
  wpOp_step (nth_at ho) (fun K' hK => h K' (fun a w hS hW => hK a w ⟨hS, hW⟩))
theorem any_alloc_has {fuel : Nat} {L : Array Bool} {i : Nat} {a : Act} {w : World} (o : Oper) (ho : nth ops.toList i = some o) (hw : Region.wanted o (yielded ops a.tmps) = true) (t : TypeId) (hop : o.op = .alloc t) (c : Array Value) (hz : (P.info? t).map (·.zero) = some (some (.agg c)))
    (hS : S (w.alloc (.cells c t))) (h : wpAnyH P .any ops (NoPanic Q) S fuel (L.setIfInBounds i true) (a.put o.dst (.pointer (some ⟨w.heap.size, 0, none⟩))) (w.alloc (.cells c t))) : AnyRun P ops Q S fuel L i a w := by
  refine any_run o ho fun K hK => ?_
  rw [if_pos hw]
  cases hq : P.info? t with
  | none => simp [hq] at hz
  | some i =>
    have hz' : i.zero = some (.agg c) := by simpa [hq] using hz
    unfold Oper.wp execOp
    simp [hop, Sem.run_bind, Instr.alloc, zeroValue, typeInfo, hq, hz', newVar, newRow, run_newObj_alloc, Sem.run_pure, Result.andThen_ok, Value.cells]
    exact hK.out _ _ hS h
theorem any_store_has {fuel : Nat} {L : Array Bool} {i : Nat} {a : Act} {w : World} (o : Oper) (ho : nth ops.toList i = some o) (hw : Region.wanted o (yielded ops a.tmps) = true) (ty : TypeId) (x y : Operand) (hop : o.op = .store ty x y) (g : Nat) (hx : a.eval x = .pointer (some ⟨g, 0, none⟩))
    (c : Array Value) (hy : a.eval y = .agg c) (t : TypeId) (old : Array Value) (hi : (P.info? ty).map (·.size) = some c.size) (hs : old.size = c.size) (h1 : c.all (·.oneCell') = true)
    (hg : Has w g t old) (hS : S (w.setRow g c)) (h : wpAnyH P .any ops (NoPanic Q) S fuel (L.setIfInBounds i true) (a.put o.dst undef) (w.setRow g c)) : AnyRun P ops Q S fuel L i a w := by
  refine any_run o ho fun K hK => ?_
  rw [if_pos hw]
  exact wp_store_row ty x y hop g c hx hy t old hg hi hs h1 (hK.out _ _ hS h)
end
end Go.Proofs.Ythpmkhbkbpifkaa
