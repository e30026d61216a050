/- The contracts of maps.Is and maps.IsInc. -/
import Derived.Test.YtmfgmdglpeadbaaEqMore
namespace Go.Proofs.Ytmfgmdglpeadbaa
set_option linter.unusedSimpArgs false
set_option linter.unusedVariables false
open Go.RowKit

theorem heldO_ok (o : OsdV) : heldO o = o ↔ osdOk o = true := by
  obtain ⟨u, n, k⟩ := o
  rw [osdOk_is]
  unfold heldO heldWt heldH
  simp only [OsdV.mk.injEq, true_and]
  constructor
  · rintro ⟨h1, h2⟩
    split at h1 <;> split at h2 <;> (try split at h1) <;> omega
  · rintro ⟨h1, h2, h3⟩
    refine ⟨?_, ?_⟩
    · split <;> (try split) <;> omega
    · split <;> omega

theorem same_held (m : MapV) : sameM m (heldM m) = isM m := by
  rw [Bool.eq_iff_iff, sameM_is]
  constructor
  · intro h
    have he : heldE m.epoch = m.epoch := (congrArg MapV.epoch h).symm
    have ho : ∀ i, osdOk (m.osd i) = true := fun i => (heldO_ok _).1 (congrFun (congrArg MapV.osd h) i).symm
    rw [isM_good ho, decide_eq_true_iff]
    unfold heldE maxE at he
    split at he <;> (try split at he) <;> omega
  · intro h
    have hg : ∀ i, osdOk (m.osd i) = true := fun i => by
      rw [← Bool.not_eq_false]
      intro hb
      rw [isM_bad hb] at h
      cases h
    rw [isM_good hg, decide_eq_true_iff] at h
    obtain ⟨e, f⟩ := m
    unfold heldM
    congr 1
    · unfold heldE maxE
      simp only at h ⊢
      split <;> (try split) <;> omega
    · funext i
      exact ((heldO_ok _).2 (hg i)).symm

theorem heldM_ok {m : MapV} (h : MapOk m) : MapOk (heldM m) := by
  refine ⟨?_, fun i => ?_, fun i => ?_⟩
  · show heldE m.epoch < _
    unfold heldE
    split <;> omega
  · show _ ≤ heldWt (m.osd i).wt ∧ heldWt (m.osd i).wt ≤ _
    unfold heldWt
    split <;> (try split) <;> omega
  · show heldH (m.osd i).host < 256
    unfold heldH
    split <;> omega

set_option maxRecDepth 100000 in
set_option maxHeartbeats 1000000 in
theorem is_any (m : MapV) (w : World) (hm : MapOk m) :
    Calls Try.prog 39 #[.agg (mapC m)] w fun e w' => e = .returned (.bool (isM m)) ∧ Below w.heap.size w w' := by
  have hH := Has.new w 44 (mapC m)
  have hb := (Below.refl w.heap.size w).alloc (Nat.le_refl _) (.cells (mapC m) 44)
  go_enter Try.func39, Try.ntmps39
  go_wp2
  refine wp_region_plan (fun W => Has W w.heap.size 44 (mapC m) ∧ Below w.heap.size w W) (.take 0 (.take 1 (.run 2 (.take 3 (.take 4 .done))))) (by kernel_rfl) (by kernel_rfl) (by kernel_rfl) (by kernel_rfl) ⟨hH.drew, hb.drew⟩ ?_
  refine plan_take _ _ rfl (yields_map m (by rfl) _ rfl _ rfl (fun _ h => h.1)) ?_
  refine plan_take _ _ rfl (yields_map m (by rfl) _ rfl _ rfl (fun _ h => h.1)) ?_
  refine plan_run _ rfl (fun K hK => ?_)
  go_simp
  refine (held_any m _ hm).mono ?_
  rintro e w2 ⟨rfl, hb2⟩
  refine hK.out _ _ ⟨hH.drew.later hb2, hb.drew.trans (hb2.mono hb.drew.size)⟩ ?_
  clear hK K
  refine plan_take _ _ rfl (yields_eq_map m (heldM m) hm (heldM_ok hm) (by rfl) _ _ _ rfl rfl rfl) ?_
  refine plan_take _ _ rfl (yields_assign (by rfl) _ rfl) ?_
  refine plan_done ?_
  go_wp2
  go_ret
  exact ⟨ret_bool (same_held m), hb.drew.trans (hb2.mono hb.drew.size)⟩
theorem heldWt_is (n : Int) : heldWt n = n ↔ 0 ≤ n ∧ n ≤ 16 := by
  unfold heldWt
  split <;> (try split) <;> omega

set_option maxRecDepth 100000 in
set_option maxHeartbeats 1000000 in
theorem isinc_any (x : IncV) (w : World) (hx : IncOk x) :
    Calls Try.prog 27 #[.agg (incC x)] w fun e w' => e = .returned (.bool (isInc x)) ∧ Below w.heap.size w w' := by
  obtain ⟨k, o, n⟩ := x
  obtain ⟨h1, h2, h3, h4⟩ := hx
  simp only at h1 h2 h3 h4
  have hb := (Below.refl w.heap.size w).alloc (Nat.le_refl _) (.cells (incC ⟨k, o, n⟩) 32)
  have hI : Hid _ := isInc_of k o n
  by_cases k3 : k = 3
  · subst k3
    have hH := Has.new w 32 (incC ⟨3, o, n⟩)
    obtain ⟨c0, c1, c2⟩ := inc_cells hH
    by_cases ho : o < 5
    · have hoi : (o : Int) < 5 := by omega
      have hod : decide ((o : Int) < 5) = true := decide_eq_true hoi
      have hN : Hid ((n == heldWt n) = isInc ⟨3, o, n⟩) := by
        show _ = _
        have := heldWt_is n
        rw [isInc_of, Bool.eq_iff_iff, beq_iff_eq, decide_eq_true_iff]
        constructor
        · intro h
          have := this.1 h.symm
          omega
        · intro h
          exact (this.2 (by omega)).symm
      go_enter Try.func27, Try.ntmps27
      go_wp2
      refine wp_region_plan (fun W => Has W w.heap.size 32 (incC ⟨3, o, n⟩) ∧ Below w.heap.size w W) (Plan.of [(0, true), (1, true), (2, true), (3, true), (4, true), (5, true), (6, true), (7, true), (8, false), (9, true), (10, true), (11, true)] .done) (by kernel_rfl) (by kernel_rfl) (by kernel_rfl) (by kernel_rfl) ⟨hH.drew, hb.drew⟩ ?_
      iterate 8
        refine plan_take _ _ rfl (.inl ⟨by rfl, fun W hS => by obtain ⟨d0, d1, d2⟩ := inc_cells hS.1; go_simp; try with_reducible rfl⟩) ?_
        try simp only [Act.put, List.setIfInBounds_toArray, List.set_cons_zero, List.set_cons_succ]
      refine plan_run _ rfl (fun K hK => ?_)
      go_simp
      refine (heldw_any n _ h3 h4).mono ?_
      rintro e w2 ⟨rfl, rfl⟩
      refine hK.out _ _ ⟨hH.drew, hb.drew⟩ ?_
      clear hK K
      iterate 3
        refine plan_take _ _ rfl (.inl ⟨by rfl, fun W hS => by go_simp; try with_reducible rfl⟩) ?_
        try simp only [Act.put, List.setIfInBounds_toArray, List.set_cons_zero, List.set_cons_succ]
      refine plan_done ?_
      go_wp2
      go_ret
      exact ⟨ret_bool hN.out, hb.drew⟩
    · have hoi : (5 : Int) ≤ (o : Int) := by omega
      have hod : decide ((o : Int) < 5) = false := decide_eq_false (by omega)
      have hN : Hid (false = isInc ⟨3, o, n⟩) := by
        show _ = _
        rw [isInc_of, eq_comm, decide_eq_false_iff_not]
        omega
      go_enter Try.func27, Try.ntmps27
      go_wp2
      refine wp_region_plan (fun W => Has W w.heap.size 32 (incC ⟨3, o, n⟩) ∧ Below w.heap.size w W) (Plan.of [(0, true), (1, true), (2, true), (3, true), (4, true), (5, true), (6, true), (7, true), (8, true), (9, true), (10, true), (11, true)] .done) (by kernel_rfl) (by kernel_rfl) (by kernel_rfl) (by kernel_rfl) ⟨hH.drew, hb.drew⟩ ?_
      iterate 4
        refine plan_take _ _ rfl (.inl ⟨by rfl, fun W hS => by obtain ⟨d0, d1, d2⟩ := inc_cells hS.1; go_simp; try with_reducible rfl⟩) ?_
        try simp only [Act.put, List.setIfInBounds_toArray, List.set_cons_zero, List.set_cons_succ]
      iterate 6
        refine plan_pass _ rfl (by rfl) ?_
        try simp only [Act.put, List.setIfInBounds_toArray, List.set_cons_zero, List.set_cons_succ]
      iterate 2
        refine plan_take _ _ rfl (.inl ⟨by rfl, fun W hS => by go_simp; try with_reducible rfl⟩) ?_
        try simp only [Act.put, List.setIfInBounds_toArray, List.set_cons_zero, List.set_cons_succ]
      refine plan_done ?_
      go_wp2
      go_ret
      exact ⟨ret_bool hN.out, hb.drew⟩
  · have k3' : (k == 3) = false := by rw [beq_eq_false_iff_ne]; exact k3
    have k3'' : ((k : Int) == 3) = false := by rw [beq_eq_false_iff_ne]; omega
    show Calls Try.prog 27 #[.agg #[.int .u8 (k : Int), .int .u8 (o : Int), .int .i64 n]] w _
    go_enter Try.func27, Try.ntmps27
    go_wp2
    all_goals
      go_ret
      refine ⟨ret_bool ?_, (Below.refl _ _).alloc (Nat.le_refl _) _⟩
      rw [isInc_of, Bool.eq_iff_iff]
      simp only [beq_iff_eq, beq_eq_false_iff_ne, ne_eq] at *
      simp
      omega

end Go.Proofs.Ytmfgmdglpeadbaa
