/- A long region that draws its order, gone through as it is written: the order is looked at once, pair by pair. Nothing of the program is in it. -/
import Derived.Test.YtoffbjdoampebaaPlan
namespace Go.Proofs.Ytoffbjdoampebaa
set_option linter.unusedSimpArgs false
set_option linter.unusedVariables false
open Go.RowKit

def lexFits (md : Region.Mode) (ops : Array Oper) : Nat → List Oper → List (Nat × Bool) → Bool
  | _, [], [] => true
  | i, o :: l, (k, b) :: bs =>
    (k == i) && (o.after.toList.all (fun e => !Region.binds md e || Nat.blt e.on i) &&
    ((match b with
      | true => l.all fun oj => oj.after.toList.any (fun e => Region.binds md e && e.on == i) || o.apart ops oj
      | false => l.all fun oj => oj.after.toList.any fun e => Region.binds md e && Nat.ble i e.on) &&
    lexFits md ops (i + 1) l bs))
  | _, _, _ => false

section
variable {P : Program} {ops : Array Oper} {Q : Exit → Act → World → Prop} {S : World → Prop} {md : Region.Mode}

theorem wpAnyH_of_lex (hs : Region.noSelect ops = true) (hQ : ∀ (d : Option Tmp) v c a w, Q (.panic c) (a.put d v) w → Q (.panic c) a w) :
    ∀ (l : List Oper) (bs : List (Nat × Bool)) (i : Nat) (L : Array Bool) (a : Act) (w : World), (∀ j, l[j]? = ops[i + j]?) → (∀ j, j < ops.size → L.getD j true = decide (j < i)) → L.size = ops.size → lexFits md ops i l bs = true → S w →
      wpPlan P ops Q S (Plan.of bs .done) a w → wpAnyH P md ops Q S l.length L a w := by
  intro l
  induction l with
  | nil =>
    intro bs i L a w hl hL hz hf hS h
    match bs, hf with
    | [], _ =>
      refine wpAnyH_done ?_ h 0
      refine List.eq_nil_iff_forall_not_mem.2 fun j hj => ?_
      obtain ⟨h1, o, ho, _⟩ := mem_ready.1 hj
      have hj' : j < ops.size := (Array.getElem?_eq_some_iff.1 ho).1
      have h2 := hl (j - i)
      by_cases hji : i ≤ j
      · rw [show i + (j - i) = j by omega, ho] at h2
        simp at h2
      · have h3 := hL j hj'
        rw [h1, decide_eq_true (by omega)] at h3
        cases h3
  | cons o l ih =>
    intro bs i L a w hl hL hz hf hS h
    match bs, hf, h with
    | (k, b) :: bs, hf, h =>
      simp only [lexFits, Bool.and_eq_true, beq_iff_eq] at hf
      obtain ⟨rfl, hdep, hrest, hf⟩ := hf
      have h0 : ops[k]? = some o := by simpa using (hl 0).symm
      have hk : k < ops.size := (Array.getElem?_eq_some_iff.1 h0).1
      have hl' : ∀ j, l[j]? = ops[k + 1 + j]? := fun j => by
        have := hl (j + 1)
        simpa [Nat.add_assoc, Nat.add_comm 1 j] using this
      have hready : k ∈ Region.ready md ops L := by
        refine mem_ready.2 ⟨?_, o, h0, fun e he hb => ?_⟩
        · rw [hL k hk, decide_eq_false (by omega)]
        · have h1 := List.all_eq_true.1 hdep e (by simpa using he)
          rw [hb] at h1
          have h2 : e.on < k := by simpa [Nat.blt_eq] using h1
          have h3 := hL e.on (by omega)
          rw [decide_eq_true h2] at h3
          have h4 : e.on < L.size := by omega
          simpa [Array.getD, h4] using h3
      have later : ∀ j oj, ops[j]? = some oj → k < j → oj ∈ l := fun j oj hj hlt => by
        have := hl' (j - (k + 1))
        rw [show k + 1 + (j - (k + 1)) = j by omega, hj] at this
        exact List.mem_of_getElem? this
      have hunl : ∀ j, L.getD j true = false → k ≤ j := fun j hj => by
        have hjs : j < ops.size := by
          by_cases h' : j < L.size
          · omega
          · simp [Array.getD, h'] at hj
        have h3 := hL j hjs
        rw [hj] at h3
        have := of_decide_eq_false h3.symm
        omega
      have hL' : ∀ j, j < ops.size → (L.setIfInBounds k true).getD j true = decide (j < k + 1) := fun j hj => by
        by_cases hjk : k = j
        · subst hjk
          rw [decide_eq_true (by omega)]
          have : k < L.size := by omega
          simp [Array.getD, this]
        · rw [getD_set_ne true hjk, hL j hj]
          congr 1
          exact propext ⟨fun _ => by omega, fun _ => by omega⟩
      have hz' : (L.setIfInBounds k true).size = ops.size := by rw [Array.size_setIfInBounds]; exact hz
      match b, hrest, h with
      | true, hrest, h =>
        obtain ⟨o', v, ho', hy, h⟩ := h
        rw [h0] at ho'
        obtain rfl := Option.some.inj ho'
        refine wpAnyH_first h0 (Region.noSelect_spec hs) (hQ _ _) l.length L a w ?_ hready hy hS (ih bs (k + 1) _ _ _ hl' hL' hz' hf hS h)
        intro j oj hj hjk hun hno
        have hge := hunl j hun
        have hmem := later j oj hj (by omega)
        have h1 := List.all_eq_true.1 hrest oj hmem
        rw [Bool.or_eq_true] at h1
        rcases h1 with h1 | h1
        · obtain ⟨e, he, h2⟩ := List.any_eq_true.1 h1
          rw [Bool.and_eq_true, beq_iff_eq] at h2
          exact absurd h2.2 (hno e (by simpa using he) h2.1)
        · exact h1
      | false, hrest, h =>
        refine ⟨fun h' => absurd (h' ▸ hready) (by simp), fun j hj => ?_⟩
        have hjk : j = k := by
          obtain ⟨h1, oj, hoj, hall⟩ := mem_ready.1 hj
          have hge := hunl j h1
          by_cases hlt : k < j
          · have h2 := List.all_eq_true.1 hrest oj (later j oj hoj hlt)
            obtain ⟨e, he, h3⟩ := List.any_eq_true.1 h2
            rw [Bool.and_eq_true] at h3
            have h4 := hall e (by simpa using he) h3.1
            have h5 : k ≤ e.on := by simpa [Nat.ble_eq] using h3.2
            have h6 : e.on < L.size := by
              by_cases h' : e.on < L.size
              · exact h'
              · simp [Array.getD, h'] at h4
            have h7 := hL e.on (by omega)
            have h8 : L.getD e.on true = L.getD e.on false := by simp [Array.getD, h6]
            rw [h8, h4] at h7
            have := of_decide_eq_true h7.symm
            omega
          · omega
        subst hjk
        exact wpOp_mono (fun a' w' h' => ⟨h'.1, ih bs (j + 1) _ a' w' hl' hL' hz' hf h'.1 h'.2⟩) h

/-- The beginning: the region is shown not to panic. -/
theorem wp_region_lex {id : Nat} {a : Act} {w : World} (S : World → Prop) (bs : List (Nat × Bool)) (hm : P.follows .mixedOrders = true) (hs : Region.noSelect ops = true) (hf : lexFits .any ops 0 ops.toList bs = true)
    (hS : S w.drew) (h : wpPlan P ops (NoPanic Q) S (Plan.of bs .done) a w.drew) : (Code.region id ops true).wp P Q a w := by
  refine wp_region_noPanic (wp_region_held (S := S) hm ?_)
  have := wpAnyH_of_lex (md := .any) hs (fun _ _ _ _ _ h => h) ops.toList bs 0 (Array.replicate ops.size false) a w.drew (fun j => by simp) (fun j hj => by simp [Array.getD, hj]) (by simp) hf hS h
  simpa using this
end
end Go.Proofs.Ytoffbjdoampebaa
