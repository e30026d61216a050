/- paddocklaw4.PlaceRaw returns true, for whatever map and group. -/
import Derived.Test.YtmobdnaejfldnaaPlaceKnown
import Derived.Test.YtmobdnaejfldnaaPlaceMoved
namespace Go.Proofs.Ytmobdnaejfldnaa
set_option linter.unusedSimpArgs false
set_option linter.unusedVariables false
open Go.RowKit

theorem act_len (m : MapV) (g : Nat) : (actM m g).length ≤ (pickM m g).length := List.length_filter_le _ _

theorem raw_none {m : MapV} {g : Nat} (h : ¬ (isM m = true ∧ g < 4)) : pickM m g = [] ∧ actM m g = [] ∧ primM m g = -1 := by
  have h1 : pickM m g = [] := by unfold pickM; rw [if_neg h]
  have h2 : actM m g = [] := by unfold actM; rw [h1]; rfl
  refine ⟨h1, h2, ?_⟩
  unfold primM
  rw [h2]

set_option maxRecDepth 100000 in
set_option maxHeartbeats 2000000 in
theorem raw_walk (S : PlaceSpec) (m : MapV) (g : Nat) (w : World) (hm : MapOk m) (hg : g < 256) :
    Calls Try.prog 3 #[.agg (mapC m), .int .u8 g] w fun e w' => e = .returned (.bool true) ∧ Below w.heap.size w w' := by
  have hM0 := Has.new w 27 (mapC m)
  have hb0 := (Below.refl w.heap.size w).alloc (Nat.le_refl _) (.cells (mapC m) 27)
  have keep : ∀ W W' : World, (Has W w.heap.size 27 (mapC m) ∧ Below w.heap.size w W) → Below W.heap.size W W' → (Has W' w.heap.size 27 (mapC m) ∧ Below w.heap.size w W') :=
    fun W W' h hq => ⟨h.1.later hq, h.2.trans (hq.mono h.2.size)⟩
  go_enter Try.func3, Try.ntmps3
  go_wp2_with (first
    | (go_at_call 9; refine (pknown_any S _).mono ?_; rintro e w1 ⟨rfl, hq⟩; have hS := keep _ _ ⟨hM0, hb0⟩ hq; clear hq hM0 hb0)
    | (refine load_map m (by rfl) _ rfl w.heap.size rfl ?hg ?_; (case hg => exact hS.1)))
  refine (is_any m _ hm).mono ?_
  rintro e w2 ⟨rfl, hq⟩
  replace hS := keep _ _ hS hq
  clear hq
  have hal := act_len m g
  have hp := fun w => S.pick m g w hm hg
  have ha := fun w => S.acting m g w hm hg
  have hpr := fun w => S.primary m g w hm hg
  have hmv := fun w => S.moved m m w hm hm
  rw [moved_same] at hmv
  have hraw : Hid _ := @raw_none m g
  have hdr : ∀ W : World, (Has W w.heap.size 27 (mapC m) ∧ Below w.heap.size w W) → (Has W.drew w.heap.size 27 (mapC m) ∧ Below w.heap.size w W.drew) := fun W h => ⟨h.1.drew, h.2.drew⟩
  by_cases hok : isM m = true ∧ g < 4
  · have hI : isM m = true := hok.1
    have hgI : (g : Int) < 4 := by have := hok.2; omega
    rw [hI]
    clear hok hraw
    generalize pickM m g = L at *
    generalize actM m g = A at *
    go_wp2
    replace hS := hdr _ hS
    refine wp_region_plan (fun W => Has W w.heap.size 27 (mapC m) ∧ Below w.heap.size w W) (Plan.of [(0, true), (1, true), (3, true), (4, true), (2, false), (5, false), (6, true), (7, true)] .done) (by kernel_rfl) (by kernel_rfl) (by kernel_rfl) (by kernel_rfl) hS ?_
    refine plan_take _ _ rfl (yields_map m (by rfl) _ rfl (w.heap.size) rfl (fun _ h => h.1)) ?_
    try simp only [Act.put, List.setIfInBounds_toArray, List.set_cons_zero, List.set_cons_succ]
    first
      | (refine plan_pass _ rfl (by rfl) ?_)
      | (refine plan_take _ _ rfl (.inl ⟨by rfl, fun W hS => by clear hS; go_simp; try with_reducible rfl⟩) ?_)
    try simp only [Act.put, List.setIfInBounds_toArray, List.set_cons_zero, List.set_cons_succ]
    refine plan_take _ _ rfl (yields_map m (by rfl) _ rfl (w.heap.size) rfl (fun _ h => h.1)) ?_
    try simp only [Act.put, List.setIfInBounds_toArray, List.set_cons_zero, List.set_cons_succ]
    first
      | (refine plan_pass _ rfl (by rfl) ?_)
      | (refine plan_take _ _ rfl (.inl ⟨by rfl, fun W hS => by clear hS; go_simp; try with_reducible rfl⟩) ?_)
    try simp only [Act.put, List.setIfInBounds_toArray, List.set_cons_zero, List.set_cons_succ]
    refine plan_run _ rfl (fun K hK => ?_)
    go_simp
    refine (hp _).mono ?_
    rintro e w3 ⟨a1, c1, rfl, hI1, hq⟩
    replace hS := keep _ _ hS hq
    have hk1 := hI1.cap
    clear hI1
    refine hK.out _ _ hS ?_
    clear hK K hq
    refine plan_run _ rfl (fun K hK => ?_)
    go_simp
    refine (ha _).mono ?_
    rintro e w4 ⟨a2, c2, rfl, hI2, hq⟩
    replace hS := keep _ _ hS hq
    have hk2 := hI2.cap
    clear hI2
    refine hK.out _ _ hS ?_
    clear hK K hq
    iterate 2
      first
        | (refine plan_pass _ rfl (by rfl) ?_)
        | (refine plan_take _ _ rfl (.inl ⟨by rfl, fun W hS => by clear hS; go_simp; try with_reducible rfl⟩) ?_)
      try simp only [Act.put, List.setIfInBounds_toArray, List.set_cons_zero, List.set_cons_succ]
    refine plan_done ?_
    go_wp2_with (first
      | (refine load_map m (by first | rfl | simp [Region.wanted, yielded]) _ rfl w.heap.size rfl ?hg ?_; (case hg => exact hS.1))
      | (go_at_call 14; refine (hmv _).mono ?_; rintro e w5 ⟨rfl, hq⟩; replace hS := keep _ _ hS hq; clear hq))
    go_ret
    exact ⟨rfl, hS.2⟩
  · obtain ⟨r1, r2, r3⟩ := hraw.out hok
    rw [r1] at hp
    rw [r2] at ha
    rw [r3] at hpr
    clear r1 r2 r3 hraw hal
    by_cases hI : isM m = true
    · have hgI : (4 : Int) ≤ (g : Int) := by
        have : ¬ g < 4 := fun h => hok ⟨hI, h⟩
        omega
      rw [hI]
      clear hok
      go_wp2
      replace hS := hdr _ hS
      refine wp_region_plan (fun W => Has W w.heap.size 27 (mapC m) ∧ Below w.heap.size w W) (Plan.of [(0, true), (1, true), (3, true), (4, true), (2, false), (5, false), (6, true), (7, true)] .done) (by kernel_rfl) (by kernel_rfl) (by kernel_rfl) (by kernel_rfl) hS ?_
      refine plan_take _ _ rfl (yields_map m (by rfl) _ rfl (w.heap.size) rfl (fun _ h => h.1)) ?_
      try simp only [Act.put, List.setIfInBounds_toArray, List.set_cons_zero, List.set_cons_succ]
      first
        | (refine plan_pass _ rfl (by rfl) ?_)
        | (refine plan_take _ _ rfl (.inl ⟨by rfl, fun W hS => by clear hS; go_simp; try with_reducible rfl⟩) ?_)
      try simp only [Act.put, List.setIfInBounds_toArray, List.set_cons_zero, List.set_cons_succ]
      refine plan_take _ _ rfl (yields_map m (by rfl) _ rfl (w.heap.size) rfl (fun _ h => h.1)) ?_
      try simp only [Act.put, List.setIfInBounds_toArray, List.set_cons_zero, List.set_cons_succ]
      first
        | (refine plan_pass _ rfl (by rfl) ?_)
        | (refine plan_take _ _ rfl (.inl ⟨by rfl, fun W hS => by clear hS; go_simp; try with_reducible rfl⟩) ?_)
      try simp only [Act.put, List.setIfInBounds_toArray, List.set_cons_zero, List.set_cons_succ]
      refine plan_run _ rfl (fun K hK => ?_)
      go_simp
      refine (hp _).mono ?_
      rintro e w3 ⟨a1, c1, rfl, hI1, hq⟩
      replace hS := keep _ _ hS hq
      have hk1 := hI1.cap
      clear hI1
      refine hK.out _ _ hS ?_
      clear hK K hq
      refine plan_run _ rfl (fun K hK => ?_)
      go_simp
      refine (ha _).mono ?_
      rintro e w4 ⟨a2, c2, rfl, hI2, hq⟩
      replace hS := keep _ _ hS hq
      have hk2 := hI2.cap
      clear hI2
      refine hK.out _ _ hS ?_
      clear hK K hq
      iterate 2
        first
          | (refine plan_pass _ rfl (by rfl) ?_)
          | (refine plan_take _ _ rfl (.inl ⟨by rfl, fun W hS => by clear hS; go_simp; try with_reducible rfl⟩) ?_)
        try simp only [Act.put, List.setIfInBounds_toArray, List.set_cons_zero, List.set_cons_succ]
      refine plan_done ?_
      go_wp2_with (first
        | (refine load_map m (by first | rfl | simp [Region.wanted, yielded]) _ rfl w.heap.size rfl ?hg ?_; (case hg => exact hS.1))
        | (go_at_call 13; refine (hpr _).mono ?_; rintro e w5 ⟨rfl, hq⟩; replace hS := keep _ _ hS hq; clear hq)
        | (go_at_call 14; refine (hmv _).mono ?_; rintro e w6 ⟨rfl, hq⟩; replace hS := keep _ _ hS hq; clear hq))
      go_ret
      exact ⟨rfl, hS.2⟩
    · have hI : isM m = false := by cases h : isM m with | true => exact absurd h hI | false => rfl
      rw [hI]
      clear hok
      go_wp2
      replace hS := hdr _ hS
      refine wp_region_plan (fun W => Has W w.heap.size 27 (mapC m) ∧ Below w.heap.size w W) (Plan.of [(0, true), (1, true), (3, true), (4, true), (2, false), (5, false), (6, true), (7, true)] .done) (by kernel_rfl) (by kernel_rfl) (by kernel_rfl) (by kernel_rfl) hS ?_
      refine plan_take _ _ rfl (yields_map m (by rfl) _ rfl (w.heap.size) rfl (fun _ h => h.1)) ?_
      try simp only [Act.put, List.setIfInBounds_toArray, List.set_cons_zero, List.set_cons_succ]
      first
        | (refine plan_pass _ rfl (by rfl) ?_)
        | (refine plan_take _ _ rfl (.inl ⟨by rfl, fun W hS => by clear hS; go_simp; try with_reducible rfl⟩) ?_)
      try simp only [Act.put, List.setIfInBounds_toArray, List.set_cons_zero, List.set_cons_succ]
      refine plan_take _ _ rfl (yields_map m (by rfl) _ rfl (w.heap.size) rfl (fun _ h => h.1)) ?_
      try simp only [Act.put, List.setIfInBounds_toArray, List.set_cons_zero, List.set_cons_succ]
      first
        | (refine plan_pass _ rfl (by rfl) ?_)
        | (refine plan_take _ _ rfl (.inl ⟨by rfl, fun W hS => by clear hS; go_simp; try with_reducible rfl⟩) ?_)
      try simp only [Act.put, List.setIfInBounds_toArray, List.set_cons_zero, List.set_cons_succ]
      refine plan_run _ rfl (fun K hK => ?_)
      go_simp
      refine (hp _).mono ?_
      rintro e w3 ⟨a1, c1, rfl, hI1, hq⟩
      replace hS := keep _ _ hS hq
      have hk1 := hI1.cap
      clear hI1
      refine hK.out _ _ hS ?_
      clear hK K hq
      refine plan_run _ rfl (fun K hK => ?_)
      go_simp
      refine (ha _).mono ?_
      rintro e w4 ⟨a2, c2, rfl, hI2, hq⟩
      replace hS := keep _ _ hS hq
      have hk2 := hI2.cap
      clear hI2
      refine hK.out _ _ hS ?_
      clear hK K hq
      iterate 2
        first
          | (refine plan_pass _ rfl (by rfl) ?_)
          | (refine plan_take _ _ rfl (.inl ⟨by rfl, fun W hS => by clear hS; go_simp; try with_reducible rfl⟩) ?_)
        try simp only [Act.put, List.setIfInBounds_toArray, List.set_cons_zero, List.set_cons_succ]
      refine plan_done ?_
      go_wp2_with (first
        | (refine load_map m (by first | rfl | simp [Region.wanted, yielded]) _ rfl w.heap.size rfl ?hg ?_; (case hg => exact hS.1))
        | (go_at_call 13; refine (hpr _).mono ?_; rintro e w5 ⟨rfl, hq⟩; replace hS := keep _ _ hS hq; clear hq)
        | (go_at_call 14; refine (hmv _).mono ?_; rintro e w6 ⟨rfl, hq⟩; replace hS := keep _ _ hS hq; clear hq))
      go_ret
      exact ⟨rfl, hS.2⟩
end Go.Proofs.Ytmobdnaejfldnaa
