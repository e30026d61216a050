/- The contracts of maps.Is and maps.IsInc. -/
import Derived.Test.YtmobdnaejfldnabEqMore
namespace Go.Proofs.Ytmobdnaejfldnab
set_option linter.unusedSimpArgs false
set_option linter.unusedVariables false
open Go.RowKit

theorem heldO_ok (o : OsdV) : heldO o = o ↔ osdOk o = true := by
  obtain ⟨u, n, k⟩ := o
  rw [osdOk_is]
  unfold heldO heldWt heldH
  simp only [OsdV.mk.injEq, true_and]
  constructor
  · rintro ⟨h1, h2⟩
    split at h1 <;> split at h2 <;> (try split at h1) <;> omega
  · rintro ⟨h1, h2, h3⟩
    refine ⟨?_, ?_⟩
    · split <;> (try split) <;> omega
    · split <;> omega

theorem same_held (m : MapV) : sameM m (heldM m) = isM m := by
  rw [Bool.eq_iff_iff, sameM_is]
  constructor
  · intro h
    have he : heldE m.epoch = m.epoch := (congrArg MapV.epoch h).symm
    have ho : ∀ i, osdOk (m.osd i) = true := fun i => (heldO_ok _).1 (congrFun (congrArg MapV.osd h) i).symm
    rw [isM_good ho, decide_eq_true_iff]
    unfold heldE maxE at he
    split at he <;> (try split at he) <;> omega
  · intro h
    have hg : ∀ i, osdOk (m.osd i) = true := fun i => by
      rw [← Bool.not_eq_false]
      intro hb
      rw [isM_bad hb] at h
      cases h
    rw [isM_good hg, decide_eq_true_iff] at h
    obtain ⟨e, f⟩ := m
    unfold heldM
    congr 1
    · unfold heldE maxE
      simp only at h ⊢
      split <;> (try split) <;> omega
    · funext i
      exact ((heldO_ok _).2 (hg i)).symm

theorem heldM_ok {m : MapV} (h : MapOk m) : MapOk (heldM m) := by
  refine ⟨?_, fun i => ?_, fun i => ?_⟩
  · show heldE m.epoch < _
    unfold heldE
    split <;> omega
  · show _ ≤ heldWt (m.osd i).wt ∧ heldWt (m.osd i).wt ≤ _
    unfold heldWt
    split <;> (try split) <;> omega
  · show heldH (m.osd i).host < 256
    unfold heldH
    split <;> omega

set_option maxRecDepth 100000 in
set_option maxHeartbeats 1000000 in
theorem is_any (m : MapV) (w : World) (hm : MapOk m) :
    Calls Try.prog 11 #[.agg (mapC m)] w fun e w' => e = .returned (.bool (isM m)) ∧ Below w.heap.size w w' := by
  have hH := Has.new w 28 (mapC m)
  have hb := (Below.refl w.heap.size w).alloc (Nat.le_refl _) (.cells (mapC m) 28)
  go_enter Try.func11, Try.ntmps11
  go_wp2
  refine wp_region_plan (fun W => Has W w.heap.size 28 (mapC m) ∧ Below w.heap.size w W) (.take 0 (.take 1 (.run 2 (.take 3 (.take 4 .done))))) (by kernel_rfl) (by kernel_rfl) (by kernel_rfl) (by kernel_rfl) ⟨hH.drew, hb.drew⟩ ?_
  refine plan_take _ _ rfl (yields_map m (by rfl) _ rfl _ rfl (fun _ h => h.1)) ?_
  refine plan_take _ _ rfl (yields_map m (by rfl) _ rfl _ rfl (fun _ h => h.1)) ?_
  refine plan_run _ rfl (fun K hK => ?_)
  go_simp
  refine (held_any m _ hm).mono ?_
  rintro e w2 ⟨rfl, hb2⟩
  refine hK.out _ _ ⟨hH.drew.later hb2, hb.drew.trans (hb2.mono hb.drew.size)⟩ ?_
  clear hK K
  refine plan_take _ _ rfl (yields_eq_map m (heldM m) hm (heldM_ok hm) (by rfl) _ _ _ rfl rfl rfl) ?_
  refine plan_take _ _ rfl (yields_assign (by rfl) _ rfl) ?_
  refine plan_done ?_
  go_wp2
  go_ret
  exact ⟨ret_bool (same_held m), hb.drew.trans (hb2.mono hb.drew.size)⟩
end Go.Proofs.Ytmobdnaejfldnab
