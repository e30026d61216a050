/- paddocklaw4.known returns true, where package place answers as it has to. -/
import Derived.Test.YtmobdnaejfldnabPlaceSpec
import Derived.Test.YtmobdnaejfldnabPlaceFirst
import Derived.Test.YtmobdnaejfldnabPlan
namespace Go.Proofs.Ytmobdnaejfldnab
set_option linter.unusedSimpArgs false
set_option linter.unusedVariables false
open Go.RowKit

theorem firstM_ok : MapOk firstM := ⟨by decide, fun i => ⟨by show _ ≤ (8 : Int); decide, by show (8 : Int) ≤ _; decide⟩, fun i => by show i.val % 4 < 256; omega⟩
theorem zeroM_ok : MapOk zeroM := ⟨by decide, fun i => ⟨by show _ ≤ (0 : Int); decide, by show (0 : Int) ≤ _; decide⟩, fun i => by show 0 < 256; decide⟩

theorem first_prim {g : Nat} {x : Int} {l : List Int} (h : pickM firstM g = x :: l) : primM firstM g = x := by
  unfold primM
  rw [first_act, h]

set_option maxRecDepth 100000 in
set_option maxHeartbeats 2000000 in
theorem pknown_any (S : PlaceSpec) (w : World) : Calls Try.prog 5 #[] w fun e w' => e = .returned (.bool true) ∧ Below w.heap.size w w' := by
  go_enter Try.func5, Try.ntmps5
  go_wp2
  go_loopw [1] (fun i wr => ∃ g : Nat, g ≤ 4 ∧ i = .int .u8 g ∧ Below w.heap.size w wr) (fun i _ => (4 - intOf i).toNat)
  case atStart => exact ⟨0, by decide, rfl, Below.refl _ _⟩
  case round =>
    obtain ⟨g, hg, rfl, hb⟩ := hrel
    by_cases hlt : g < 4
    · have hgI : (g : Int) < 4 := by omega
      have hl3 := first_len hlt
      have hpk := fun w => S.pick firstM g w firstM_ok (by omega)
      cases hL : pickM firstM g with
      | nil => rw [hL] at hl3; cases hl3
      | cons x0 l =>
        have hprim : Hid _ := first_prim hL
        rw [hL] at hl3
        simp only [hL, hl3] at hpk
        go_wp2_with (first
          | (go_at_call 6; refine (first_any _).mono ?_; rintro e w1 ⟨rfl, hb1⟩; replace hb1 := hb.trans (hb1.mono hb.size)))
        refine (hpk _).mono ?_
        rintro e w2 ⟨ao, c, rfl, hIx, hb2⟩
        replace hb2 := hb1.trans (hb2.mono hb1.size)
        have hcap := hIx.cap
        have hle := hIx.le
        rw [hl3] at hle
        clear hpk hb1 hb
        cases ao with
        | none => have := hIx.nil rfl; omega
        | some ad =>
          have c0 := hIx.at' ad rfl 0 (by simp)
          have c0 : w2.cell? ad = some (.int .i64 x0) := by
            have e : ad.add 0 = ad := by cases ad; simp [Addr.add]
            rw [e] at c0
            exact c0
          have keep : ∀ W W' : World, (W.cell? ad = some (.int .i64 x0) ∧ Below w.heap.size w W) → Below W.heap.size W W' → (W'.cell? ad = some (.int .i64 x0) ∧ Below w.heap.size w W') :=
            fun W W' h hq => ⟨by rw [hq.cell (World.block_lt_of_cell? W _ h.1)]; exact h.1, h.2.trans (hq.mono h.2.size)⟩
          go_wp2
          have hS : (fun W : World => W.cell? ad = some (.int .i64 x0) ∧ Below w.heap.size w W) w2.drew := ⟨c0, hb2.drew⟩
          replace hS : w2.drew.cell? ad = some (.int .i64 x0) ∧ Below w.heap.size w w2.drew := hS
          clear hIx
          refine wp_region_plan (fun W => W.cell? ad = some (.int .i64 x0) ∧ Below w.heap.size w W) (Plan.of [(0, true), (1, true), (2, true), (3, true), (5, true), (7, true), (8, true), (9, true), (4, false), (6, false), (10, true), (11, true)] .done) (by kernel_rfl) (by kernel_rfl) (by kernel_rfl) (by kernel_rfl) hS ?_
          iterate 8
            first
              | (refine plan_pass _ rfl (by rfl) ?_)
              | (refine plan_take _ _ rfl (.inl ⟨by rfl, fun W hS => by obtain ⟨z1, z2⟩ := hS; clear z2; go_simp; try with_reducible rfl⟩) ?_)
            try simp only [Act.put, List.setIfInBounds_toArray, List.set_cons_zero, List.set_cons_succ]
          refine plan_run _ rfl (fun K hK => ?_)
          go_simp
          refine (first_any _).mono ?_
          rintro e w4 ⟨rfl, hq⟩
          replace hS := keep _ _ hS hq
          refine hK.out _ _ hS ?_
          clear hK K hq
          refine plan_run _ rfl (fun K hK => ?_)
          go_simp
          refine (S.primary firstM g _ firstM_ok (by omega)).mono ?_
          rintro e w5 ⟨rfl, hq⟩
          replace hS := keep _ _ hS hq
          rw [hprim.out]
          refine hK.out _ _ hS ?_
          clear hK K hq
          iterate 2
            first
              | (refine plan_pass _ rfl (by rfl) ?_)
              | (refine plan_take _ _ rfl (.inl ⟨by rfl, fun W hS => by obtain ⟨z1, z2⟩ := hS; clear z2; go_simp; try with_reducible rfl⟩) ?_)
            try simp only [Act.put, List.setIfInBounds_toArray, List.set_cons_zero, List.set_cons_succ]
          refine plan_done ?_
          go_wp2
          go_roundw
          case rel => exact ⟨g + 1, by omega, by go_num, hS.2⟩
          case measure => simp [intOf]; omega
    · have e4 : g = 4 := by omega
      subst e4
      have hpk := fun w => S.pick firstM 4 w firstM_ok (by omega)
      simp only [first_none] at hpk
      have hpr := fun w => S.primary zeroM 0 w zeroM_ok (by omega)
      have hpz : primM zeroM 0 = -1 := by unfold primM actM; rw [zero_none]; rfl
      rw [hpz] at hpr
      have hmv := fun w => S.moved firstM firstM w firstM_ok firstM_ok
      rw [moved_same] at hmv
      rw [show ((4 : Nat) : Int) = 4 from rfl]
      go_wp2_with (first
        | (refine build_map0 (by first | rfl | simp [Region.wanted, yielded]) rfl ?_)
        | (go_at_call 6; refine (first_any _).mono ?_; rintro e w1 ⟨rfl, hq⟩; replace hb := hb.trans (hq.mono hb.size); clear hq)
        | (go_at_call 7; refine (hpk _).mono ?_; rintro e w2 ⟨ao, c, rfl, hIx, hq⟩; replace hb := hb.trans (hq.mono hb.size); have hcap := hIx.cap; clear hq hIx)
        | (go_at_call 8; refine (hpr _).mono ?_; rintro e w3 ⟨rfl, hq⟩; replace hb := hb.trans (hq.mono hb.size); clear hq)
        | (go_at_call 10; refine (hmv _).mono ?_; rintro e w4 ⟨rfl, hq⟩; replace hb := hb.trans (hq.mono hb.size); clear hq))
      go_ret
      exact ⟨rfl, hb⟩
end Go.Proofs.Ytmobdnaejfldnab
