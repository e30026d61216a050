/- A region that draws its order, of which three operations can come up at once behind some that are taken first. Nothing of the program is in it. -/
import Derived.Test.YtjajfeplgilejaaPlan
namespace Go.Proofs.Ytjajfeplgilejaa
set_option linter.unusedSimpArgs false
set_option linter.unusedVariables false
open Go.RowKit

def topFits (md : Region.Mode) (ops : Array Oper) (i j k : Nat) (p q r : Plan) : List Nat → Array Bool → Bool
  | [], l => (Region.ready md ops l == [i, j, k]) && (Plan.fits md ops p (l.setIfInBounds i true) && (Plan.fits md ops q (l.setIfInBounds j true) && Plan.fits md ops r (l.setIfInBounds k true)))
  | t :: ts, l => Region.free md ops l t && ((Region.ready md ops l).contains t && topFits md ops i j k p q r ts (l.setIfInBounds t true))
def topFuel (p q r : Plan) (ts : List Nat) : Nat := max (Plan.fuel p) (max (Plan.fuel q) (Plan.fuel r)) + 1 + ts.length

section
variable {P : Program} {ops : Array Oper} {Q : Exit → Act → World → Prop} {S : World → Prop} {md : Region.Mode}

def wpTop (P : Program) (ops : Array Oper) (Q : Exit → Act → World → Prop) (S : World → Prop) (i j k : Nat) (p q r : Plan) : List Nat → Act → World → Prop
  | [], a, w => wpPlan P ops Q S (Plan.run i p) a w ∧ wpPlan P ops Q S (Plan.run j q) a w ∧ wpPlan P ops Q S (Plan.run k r) a w
  | t :: ts, a, w => ∃ o v, ops[t]? = some o ∧ YieldsIf P ops S o v a ∧ wpTop P ops Q S i j k p q r ts (a.put o.dst v) w

theorem wpAnyH_of_top (hs : Region.noSelect ops = true) (hQ : ∀ (d : Option Tmp) v c a w, Q (.panic c) (a.put d v) w → Q (.panic c) a w) (i j k : Nat) (p q r : Plan) :
    ∀ (ts : List Nat) (fuel : Nat) (listed : Array Bool) (a : Act) (w : World), topFuel p q r ts ≤ fuel → topFits md ops i j k p q r ts listed = true → S w → wpTop P ops Q S i j k p q r ts a w → wpAnyH P md ops Q S fuel listed a w := by
  intro ts
  induction ts with
  | nil =>
    intro fuel listed a w hn hf hS h
    simp only [topFits, Bool.and_eq_true, beq_iff_eq] at hf
    cases fuel with
    | zero => simp [topFuel] at hn
    | succ fuel =>
      have hn' : Plan.fuel p ≤ fuel ∧ Plan.fuel q ≤ fuel ∧ Plan.fuel r ≤ fuel := by simp only [topFuel, List.length_nil] at hn; omega
      refine wpAnyH_all hf.1 (by simp) fun x hx => ?_
      have hx' : x = i ∨ x = j ∨ x = k := by simpa using hx
      rcases hx' with e | e | e
      · rw [e]
        exact wpOp_mono (fun a' w' h' => ⟨h'.1, wpAnyH_of_plan hs hQ p fuel _ a' w' hn'.1 hf.2.1 h'.1 h'.2⟩) h.1
      · rw [e]
        exact wpOp_mono (fun a' w' h' => ⟨h'.1, wpAnyH_of_plan hs hQ q fuel _ a' w' hn'.2.1 hf.2.2.1 h'.1 h'.2⟩) h.2.1
      · rw [e]
        exact wpOp_mono (fun a' w' h' => ⟨h'.1, wpAnyH_of_plan hs hQ r fuel _ a' w' hn'.2.2 hf.2.2.2 h'.1 h'.2⟩) h.2.2
  | cons t ts ih =>
    intro fuel listed a w hn hf hS h
    obtain ⟨o, v, ho, hy, h⟩ := h
    simp only [topFits, Bool.and_eq_true] at hf
    cases fuel with
    | zero => simp [topFuel] at hn
    | succ fuel => exact wpAnyH_take ho hs hf.1 hf.2.1 (hQ _ _) hy hS (ih fuel _ _ _ (by simp only [topFuel, List.length_cons] at hn ⊢; omega) hf.2.2 hS h)

theorem wp_region_three {id : Nat} {a : Act} {w : World} (S : World → Prop) (ts : List Nat) (i j k : Nat) (p q r : Plan) (hm : P.follows .mixedOrders = true) (hs : Region.noSelect ops = true) (hf : topFits .any ops i j k p q r ts (Array.replicate ops.size false) = true) (hn : decide (topFuel p q r ts ≤ ops.size) = true)
    (hS : S w.drew) (h : wpTop P ops (NoPanic Q) S i j k p q r ts a w.drew) : (Code.region id ops true).wp P Q a w :=
  wp_region_noPanic (wp_region_held hm (wpAnyH_of_top hs (fun _ _ _ _ _ h => h) i j k p q r ts _ _ a w.drew (of_decide_eq_true hn) hf hS h))

theorem top_take {i j k t : Nat} {p q r : Plan} {ts : List Nat} {a : Act} {w : World} (o : Oper) (v : Value) (ho : nth ops.toList t = some o) (hy : YieldsIf P ops S o v a) (h : wpTop P ops Q S i j k p q r ts (a.put o.dst v) w) : wpTop P ops Q S i j k p q r (t :: ts) a w := ⟨o, v, nth_at ho, hy, h⟩
theorem top_three {i j k : Nat} {p q r : Plan} {a : Act} {w : World} (h1 : wpPlan P ops Q S (Plan.run i p) a w) (h2 : wpPlan P ops Q S (Plan.run j q) a w) (h3 : wpPlan P ops Q S (Plan.run k r) a w) : wpTop P ops Q S i j k p q r [] a w := ⟨h1, h2, h3⟩
end
end Go.Proofs.Ytjajfeplgilejaa
