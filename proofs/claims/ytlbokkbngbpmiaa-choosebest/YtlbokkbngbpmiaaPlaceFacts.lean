/- What the picks of a group are: unlike, of weight, on unlike hosts; who is the first; what they hang on. -/
import Derived.Test.YtlbokkbngbpmiaaPackPlace
namespace Go.Proofs.Ytlbokkbngbpmiaa
set_option linter.unusedSimpArgs false
set_option linter.unusedVariables false

theorem bestM_wt {m : MapV} {g : Nat} {q : Int} (h : 0 ≤ bestM m g q) : 1 ≤ wtI m (bestM m g q) := by
  rcases bestM_top m g q with ⟨_, hb⟩ | ⟨i, _, hb, h1, _⟩
  · omega
  · rw [hb]; exact h1

theorem tryI_good {m : MapV} {g r : Nat} {out : List Int} {k : Nat} (h : 0 ≤ tryI m g r out k) : freeB m out (tryI m g r out k) = true ∧ 1 ≤ wtI m (tryI m g r out k) := by
  induction k with
  | zero => exact absurd h (by show ¬ (0 : Int) ≤ -1; omega)
  | succ k ih =>
    unfold tryI at h ⊢
    split
    · rename_i hc
      exact ⟨hc.2, bestM_wt hc.1⟩
    · rename_i hc
      rw [if_neg hc] at h
      exact ih h

theorem pickTo_apart (m : MapV) (g r : Nat) : (pickTo m g r).Pairwise (fun a b => a ≠ b ∧ hostI m a ≠ hostI m b) ∧ ∀ x ∈ pickTo m g r, 1 ≤ wtI m x := by
  induction r with
  | zero => exact ⟨List.Pairwise.nil, fun x hx => (List.not_mem_nil hx).elim⟩
  | succ r ih =>
    by_cases h : 0 ≤ tryI m g r (pickTo m g r) 20
    · obtain ⟨hf, hw⟩ := tryI_good h
      rw [pickTo_yes h]
      generalize tryI m g r (pickTo m g r) 20 = b at *
      generalize pickTo m g r = out at *
      refine ⟨?_, fun x hx => ?_⟩
      · rw [List.pairwise_append]
        refine ⟨ih.1, List.pairwise_singleton _ _, fun a ha b' hb' => ?_⟩
        rw [List.mem_singleton.1 hb']
        unfold freeB at hf
        rw [List.all_eq_true] at hf
        have h1 := hf a ha
        unfold apartB at h1
        simpa using h1
      · rcases List.mem_append.1 hx with hx | hx
        · exact ih.2 x hx
        · rw [List.mem_singleton.1 hx]; exact hw
    · rw [pickTo_no h]; exact ih

theorem pickM_apart (m : MapV) (g : Nat) : (pickM m g).Pairwise (fun a b => a ≠ b ∧ hostI m a ≠ hostI m b) ∧ ∀ x ∈ pickM m g, 1 ≤ wtI m x := by
  unfold pickM
  split
  · exact pickTo_apart m g 3
  · exact ⟨List.Pairwise.nil, fun x hx => (List.not_mem_nil hx).elim⟩

theorem pick_unlike {m : MapV} {g k n : Nat} (hk : k < n) (hn : n < (pickM m g).length) : (pickM m g)[k] ≠ (pickM m g)[n] ∧ hostI m (pickM m g)[k] ≠ hostI m (pickM m g)[n] :=
  List.pairwise_iff_getElem.1 (pickM_apart m g).1 k n (by omega) hn hk
end Go.Proofs.Ytlbokkbngbpmiaa
