/- paddocklaw10.BallotOrder returns true, for whatever three ballots. -/
import Derived.Test.YtlcappkokdgpgaaBalKnown
namespace Go.Proofs.Ytlcappkokdgpgaa
set_option linter.unusedSimpArgs false
set_option linter.unusedVariables false
set_option maxRecDepth 100000
open Go.RowKit

theorem order_facts (a b c : BalV) : (lessB a b = true ∧ lessB b a = false ∧ sameBal a b = false ∧ ((lessB b c = true ∧ lessB a c = true) ∨ lessB b c = false)) ∨ (lessB a b = false ∧ lessB b a = true ∧ sameBal a b = false) ∨ (lessB a b = false ∧ lessB b a = false ∧ sameBal a b = true) := by
  obtain ⟨n, k⟩ := a
  obtain ⟨m, l⟩ := b
  obtain ⟨q, r⟩ := c
  simp only [lessB, sameBal, decide_eq_true_eq, decide_eq_false_iff_not, Bool.and_eq_true, Bool.and_eq_false_iff]
  omega
theorem less_self (a : BalV) : lessB a a = false := by
  simp only [lessB, decide_eq_false_iff_not]
  omega

set_option maxHeartbeats 4000000 in
theorem order_walk (a b c : BalV) (w : World) (ha : BalOk a) (hb : BalOk b) (hc : BalOk c) :
    Calls Try.prog 4 #[.agg (balC a), .agg (balC b), .agg (balC c)] w fun e w' => e = .returned (.bool true) ∧ Below w.heap.size w w' := by
  obtain ⟨w1, hw1, hA, hB, hC, hbw⟩ := three_vars w 29 29 29 (balC a) (balC b) (balC c)
  have lab := fun W => less_any a b W ha hb
  have lba := fun W => less_any b a W hb ha
  have lbc := fun W => less_any b c W hb hc
  have lac := fun W => less_any a c W ha hc
  have laa := fun W => less_any a a W ha ha
  rw [less_self a] at laa
  have hsum := order_facts a b c
  generalize lessB a b = vab at *
  generalize lessB b a = vba at *
  generalize lessB b c = vbc at *
  generalize lessB a c = vac at *
  go_enter Try.func4, Try.ntmps4
  go_wp2_with fail
  refine (bknown_any _).mono ?_
  rintro e w2 ⟨rfl, hq⟩
  have hS : (Has w2.drew w.heap.size 29 (balC a) ∧ Has w2.drew (w.heap.size + 1) 29 (balC b) ∧ Has w2.drew (w.heap.size + 1 + 1) 29 (balC c)) ∧ Below w.heap.size w w2.drew := ⟨⟨(hA.later hq).drew, (hB.later hq).drew, (hC.later hq).drew⟩, (hbw.trans (hq.mono hbw.size)).drew⟩
  have keep : ∀ W W', (Has W w.heap.size 29 (balC a) ∧ Has W (w.heap.size + 1) 29 (balC b) ∧ Has W (w.heap.size + 1 + 1) 29 (balC c)) ∧ Below w.heap.size w W → Below W.heap.size W W' → (Has W' w.heap.size 29 (balC a) ∧ Has W' (w.heap.size + 1) 29 (balC b) ∧ Has W' (w.heap.size + 1 + 1) 29 (balC c)) ∧ Below w.heap.size w W' := fun W W' h k => ⟨⟨h.1.1.later k, h.1.2.1.later k, h.1.2.2.later k⟩, h.2.trans (k.mono h.2.size)⟩
  clear hA hB hC hbw hq hw1
  go_wp2
  rcases hsum with ⟨rfl, rfl, hs, ⟨rfl, rfl⟩ | rfl⟩ | ⟨rfl, rfl, hs⟩ | ⟨rfl, rfl, hs⟩
  all_goals
    replace hs : Hid _ := hs
    refine wp_region_plan (fun W => (Has W w.heap.size 29 (balC a) ∧ Has W (w.heap.size + 1) 29 (balC b) ∧ Has W (w.heap.size + 1 + 1) 29 (balC c)) ∧ Below w.heap.size w W) (Plan.of [(0, true), (1, true), (2, false), (3, true), (4, true), (5, true), (6, false), (7, true), (8, true), (9, true), (10, true), (11, true), (12, true), (13, true), (14, true), (15, false), (16, true), (17, true), (18, true), (19, true), (20, false), (21, true), (22, true), (23, true), (24, true), (25, true), (26, true), (27, true), (28, false), (29, true), (30, true), (31, true), (32, true), (33, false), (34, true), (35, true), (36, true), (37, true), (38, true), (39, false), (40, true), (41, true), (42, true), (43, true), (44, true), (45, false), (46, true), (47, true), (48, true)] .done) (by kernel_rfl) (by kernel_rfl) (by kernel_rfl) (by kernel_rfl) hS ?_
    first
      | (refine plan_pass _ rfl (by rfl) ?_)
      | (refine plan_take _ _ rfl (yields_bal (a) (by rfl) _ rfl (w.heap.size) rfl (fun _ h => h.1.1)) ?_)
    try simp only [Act.put, List.setIfInBounds_toArray, List.set_cons_zero, List.set_cons_succ]
    first
      | (refine plan_pass _ rfl (by rfl) ?_)
      | (refine plan_take _ _ rfl (yields_bal (b) (by rfl) _ rfl (w.heap.size + 1) rfl (fun _ h => h.1.2.1)) ?_)
    try simp only [Act.put, List.setIfInBounds_toArray, List.set_cons_zero, List.set_cons_succ]
    first
      | (refine plan_run _ rfl (fun K hK => ?_); go_simp; refine hK.out _ _ hS ?_; clear hK K)
      | (refine plan_run _ rfl (fun K hK => ?_); go_simp; refine (lab _).mono ?_; rintro e w3 ⟨rfl, hq⟩; replace hS := keep _ _ hS hq; refine hK.out _ _ hS ?_; clear hK K hq)
    iterate 1
      first
        | (refine plan_pass _ rfl (by rfl) ?_)
        | (refine plan_take _ _ rfl (.inl ⟨by rfl, fun W hS => by clear hS; go_simp; try with_reducible rfl⟩) ?_)
      try simp only [Act.put, List.setIfInBounds_toArray, List.set_cons_zero, List.set_cons_succ]
    first
      | (refine plan_pass _ rfl (by rfl) ?_)
      | (refine plan_take _ _ rfl (yields_bal (b) (by rfl) _ rfl (w.heap.size + 1) rfl (fun _ h => h.1.2.1)) ?_)
    try simp only [Act.put, List.setIfInBounds_toArray, List.set_cons_zero, List.set_cons_succ]
    first
      | (refine plan_pass _ rfl (by rfl) ?_)
      | (refine plan_take _ _ rfl (yields_bal (a) (by rfl) _ rfl (w.heap.size) rfl (fun _ h => h.1.1)) ?_)
    try simp only [Act.put, List.setIfInBounds_toArray, List.set_cons_zero, List.set_cons_succ]
    first
      | (refine plan_run _ rfl (fun K hK => ?_); go_simp; refine hK.out _ _ hS ?_; clear hK K)
      | (refine plan_run _ rfl (fun K hK => ?_); go_simp; refine (lba _).mono ?_; rintro e w4 ⟨rfl, hq⟩; replace hS := keep _ _ hS hq; refine hK.out _ _ hS ?_; clear hK K hq)
    iterate 3
      first
        | (refine plan_pass _ rfl (by rfl) ?_)
        | (refine plan_take _ _ rfl (.inl ⟨by rfl, fun W hS => by clear hS; go_simp; try with_reducible rfl⟩) ?_)
      try simp only [Act.put, List.setIfInBounds_toArray, List.set_cons_zero, List.set_cons_succ]
    first
      | (refine plan_pass _ rfl (by rfl) ?_)
      | (refine plan_take _ _ rfl (yields_bal (a) (by rfl) _ rfl (w.heap.size) rfl (fun _ h => h.1.1)) ?_)
    try simp only [Act.put, List.setIfInBounds_toArray, List.set_cons_zero, List.set_cons_succ]
    first
      | (refine plan_pass _ rfl (by rfl) ?_)
      | (refine plan_take _ _ rfl (yields_bal (b) (by rfl) _ rfl (w.heap.size + 1) rfl (fun _ h => h.1.2.1)) ?_)
    try simp only [Act.put, List.setIfInBounds_toArray, List.set_cons_zero, List.set_cons_succ]
    refine plan_take _ _ rfl (yields_bal_eq a b ha hb (by rfl) _ _ _ rfl rfl rfl) ?_
    rw [hs.out]
    try simp only [Act.put, List.setIfInBounds_toArray, List.set_cons_zero, List.set_cons_succ]
    first
      | (refine plan_pass _ rfl (by rfl) ?_)
      | (refine plan_take _ _ rfl (yields_bal (a) (by rfl) _ rfl (w.heap.size) rfl (fun _ h => h.1.1)) ?_)
    try simp only [Act.put, List.setIfInBounds_toArray, List.set_cons_zero, List.set_cons_succ]
    first
      | (refine plan_pass _ rfl (by rfl) ?_)
      | (refine plan_take _ _ rfl (yields_bal (b) (by rfl) _ rfl (w.heap.size + 1) rfl (fun _ h => h.1.2.1)) ?_)
    try simp only [Act.put, List.setIfInBounds_toArray, List.set_cons_zero, List.set_cons_succ]
    first
      | (refine plan_run _ rfl (fun K hK => ?_); go_simp; refine hK.out _ _ hS ?_; clear hK K)
      | (refine plan_run _ rfl (fun K hK => ?_); go_simp; refine (lab _).mono ?_; rintro e w5 ⟨rfl, hq⟩; replace hS := keep _ _ hS hq; refine hK.out _ _ hS ?_; clear hK K hq)
    iterate 2
      first
        | (refine plan_pass _ rfl (by rfl) ?_)
        | (refine plan_take _ _ rfl (.inl ⟨by rfl, fun W hS => by clear hS; go_simp; try with_reducible rfl⟩) ?_)
      try simp only [Act.put, List.setIfInBounds_toArray, List.set_cons_zero, List.set_cons_succ]
    first
      | (refine plan_pass _ rfl (by rfl) ?_)
      | (refine plan_take _ _ rfl (yields_bal (b) (by rfl) _ rfl (w.heap.size + 1) rfl (fun _ h => h.1.2.1)) ?_)
    try simp only [Act.put, List.setIfInBounds_toArray, List.set_cons_zero, List.set_cons_succ]
    first
      | (refine plan_pass _ rfl (by rfl) ?_)
      | (refine plan_take _ _ rfl (yields_bal (a) (by rfl) _ rfl (w.heap.size) rfl (fun _ h => h.1.1)) ?_)
    try simp only [Act.put, List.setIfInBounds_toArray, List.set_cons_zero, List.set_cons_succ]
    first
      | (refine plan_run _ rfl (fun K hK => ?_); go_simp; refine hK.out _ _ hS ?_; clear hK K)
      | (refine plan_run _ rfl (fun K hK => ?_); go_simp; refine (lba _).mono ?_; rintro e w6 ⟨rfl, hq⟩; replace hS := keep _ _ hS hq; refine hK.out _ _ hS ?_; clear hK K hq)
    iterate 5
      first
        | (refine plan_pass _ rfl (by rfl) ?_)
        | (refine plan_take _ _ rfl (.inl ⟨by rfl, fun W hS => by clear hS; go_simp; try with_reducible rfl⟩) ?_)
      try simp only [Act.put, List.setIfInBounds_toArray, List.set_cons_zero, List.set_cons_succ]
    first
      | (refine plan_pass _ rfl (by rfl) ?_)
      | (refine plan_take _ _ rfl (yields_bal (a) (by rfl) _ rfl (w.heap.size) rfl (fun _ h => h.1.1)) ?_)
    try simp only [Act.put, List.setIfInBounds_toArray, List.set_cons_zero, List.set_cons_succ]
    first
      | (refine plan_pass _ rfl (by rfl) ?_)
      | (refine plan_take _ _ rfl (yields_bal (b) (by rfl) _ rfl (w.heap.size + 1) rfl (fun _ h => h.1.2.1)) ?_)
    try simp only [Act.put, List.setIfInBounds_toArray, List.set_cons_zero, List.set_cons_succ]
    first
      | (refine plan_run _ rfl (fun K hK => ?_); go_simp; refine hK.out _ _ hS ?_; clear hK K)
      | (refine plan_run _ rfl (fun K hK => ?_); go_simp; refine (lab _).mono ?_; rintro e w7 ⟨rfl, hq⟩; replace hS := keep _ _ hS hq; refine hK.out _ _ hS ?_; clear hK K hq)
    iterate 2
      first
        | (refine plan_pass _ rfl (by rfl) ?_)
        | (refine plan_take _ _ rfl (.inl ⟨by rfl, fun W hS => by clear hS; go_simp; try with_reducible rfl⟩) ?_)
      try simp only [Act.put, List.setIfInBounds_toArray, List.set_cons_zero, List.set_cons_succ]
    first
      | (refine plan_pass _ rfl (by rfl) ?_)
      | (refine plan_take _ _ rfl (yields_bal (b) (by rfl) _ rfl (w.heap.size + 1) rfl (fun _ h => h.1.2.1)) ?_)
    try simp only [Act.put, List.setIfInBounds_toArray, List.set_cons_zero, List.set_cons_succ]
    first
      | (refine plan_pass _ rfl (by rfl) ?_)
      | (refine plan_take _ _ rfl (yields_bal (c) (by rfl) _ rfl (w.heap.size + 1 + 1) rfl (fun _ h => h.1.2.2)) ?_)
    try simp only [Act.put, List.setIfInBounds_toArray, List.set_cons_zero, List.set_cons_succ]
    first
      | (refine plan_run _ rfl (fun K hK => ?_); go_simp; refine hK.out _ _ hS ?_; clear hK K)
      | (refine plan_run _ rfl (fun K hK => ?_); go_simp; refine (lbc _).mono ?_; rintro e w8 ⟨rfl, hq⟩; replace hS := keep _ _ hS hq; refine hK.out _ _ hS ?_; clear hK K hq)
    iterate 3
      first
        | (refine plan_pass _ rfl (by rfl) ?_)
        | (refine plan_take _ _ rfl (.inl ⟨by rfl, fun W hS => by clear hS; go_simp; try with_reducible rfl⟩) ?_)
      try simp only [Act.put, List.setIfInBounds_toArray, List.set_cons_zero, List.set_cons_succ]
    first
      | (refine plan_pass _ rfl (by rfl) ?_)
      | (refine plan_take _ _ rfl (yields_bal (a) (by rfl) _ rfl (w.heap.size) rfl (fun _ h => h.1.1)) ?_)
    try simp only [Act.put, List.setIfInBounds_toArray, List.set_cons_zero, List.set_cons_succ]
    first
      | (refine plan_pass _ rfl (by rfl) ?_)
      | (refine plan_take _ _ rfl (yields_bal (c) (by rfl) _ rfl (w.heap.size + 1 + 1) rfl (fun _ h => h.1.2.2)) ?_)
    try simp only [Act.put, List.setIfInBounds_toArray, List.set_cons_zero, List.set_cons_succ]
    first
      | (refine plan_run _ rfl (fun K hK => ?_); go_simp; refine hK.out _ _ hS ?_; clear hK K)
      | (refine plan_run _ rfl (fun K hK => ?_); go_simp; refine (lac _).mono ?_; rintro e w9 ⟨rfl, hq⟩; replace hS := keep _ _ hS hq; refine hK.out _ _ hS ?_; clear hK K hq)
    iterate 3
      first
        | (refine plan_pass _ rfl (by rfl) ?_)
        | (refine plan_take _ _ rfl (.inl ⟨by rfl, fun W hS => by clear hS; go_simp; try with_reducible rfl⟩) ?_)
      try simp only [Act.put, List.setIfInBounds_toArray, List.set_cons_zero, List.set_cons_succ]
    first
      | (refine plan_pass _ rfl (by rfl) ?_)
      | (refine plan_take _ _ rfl (yields_bal (a) (by rfl) _ rfl (w.heap.size) rfl (fun _ h => h.1.1)) ?_)
    try simp only [Act.put, List.setIfInBounds_toArray, List.set_cons_zero, List.set_cons_succ]
    first
      | (refine plan_pass _ rfl (by rfl) ?_)
      | (refine plan_take _ _ rfl (yields_bal (a) (by rfl) _ rfl (w.heap.size) rfl (fun _ h => h.1.1)) ?_)
    try simp only [Act.put, List.setIfInBounds_toArray, List.set_cons_zero, List.set_cons_succ]
    first
      | (refine plan_run _ rfl (fun K hK => ?_); go_simp; refine hK.out _ _ hS ?_; clear hK K)
      | (refine plan_run _ rfl (fun K hK => ?_); go_simp; refine (laa _).mono ?_; rintro e w10 ⟨rfl, hq⟩; replace hS := keep _ _ hS hq; refine hK.out _ _ hS ?_; clear hK K hq)
    iterate 3
      first
        | (refine plan_pass _ rfl (by rfl) ?_)
        | (refine plan_take _ _ rfl (.inl ⟨by rfl, fun W hS => by clear hS; go_simp; try with_reducible rfl⟩) ?_)
      try simp only [Act.put, List.setIfInBounds_toArray, List.set_cons_zero, List.set_cons_succ]
    refine plan_done ?_
    go_wp2
    go_ret
    exact ⟨rfl, hS.2⟩
end Go.Proofs.Ytlcappkokdgpgaa
