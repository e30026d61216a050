/- The walk of paddocklaw10.BallotMajorities, where the bytes name two acceptors. -/
import Derived.Test.YtlcappkokdgpgaaMajorPre
namespace Go.Proofs.Ytlcappkokdgpgaa
set_option linter.unusedSimpArgs false
set_option linter.unusedVariables false
set_option maxRecDepth 100000
open Go.RowKit

set_option maxHeartbeats 16000000 in
theorem major_ne (n : Nat) (ao : Option Addr) (c : Nat) (l : List StepV) (k0 k1 : Nat) (w : World) (hn : n < 4294967296) (hSl : Sl w ao c 6 (stepR l)) (hl : ∀ s ∈ l, StepOk s) (h0 : k0 < 256) (h1 : k1 < 256) (hxy0 : k0 % 3 ≠ k1 % 3) :
    Calls Try.prog 8 #[.int .u32 (n : Int), .slice ao l.length c, .agg (arr2 k0 k1)] w fun e w' => e = .returned (.bool true) ∧ Below w.heap.size w w' := by
  have hle := step_le hSl
  have hcap := hSl.cap
  obtain ⟨w1, hw1, hW, hb⟩ := one_var w 51 (arr2 k0 k1)
  obtain ⟨q, hq0⟩ : ∃ q, n % 1000 = q := ⟨_, rfl⟩
  have hq1 : q < 1000 := by omega
  obtain ⟨m, hm⟩ : ∃ m, q + 5 = m := ⟨_, rfl⟩
  have hm1 : 5 ≤ m ∧ m ≤ 1004 := by omega
  obtain ⟨b, hbe⟩ : ∃ b : BalV, b = ⟨m, 1⟩ := ⟨_, rfl⟩
  have hbo : BalOk b := hbe ▸ ⟨by show m < _; omega, by show 1 < 256; decide⟩
  have hbi : isB b = true := hbe ▸ isB_of (by omega) (by decide)
  obtain ⟨r0, hr0⟩ : ∃ r, k0 % 3 = r := ⟨_, rfl⟩
  obtain ⟨r1, hr1⟩ : ∃ r, k1 % 3 = r := ⟨_, rfl⟩
  have hr0b : r0 < 3 := by omega
  have hr1b : r1 < 3 := by omega
  have hr0I : (r0 : Int) < 3 := by omega
  have hr1I : (r1 : Int) < 3 := by omega
  have hwr0 : IntKind.i64.wrap (r0 : Int) = (r0 : Int) := by simp [IntKind.wrap, IntKind.bits, IntKind.signed]; omega
  have hwr1 : IntKind.i64.wrap (r1 : Int) = (r1 : Int) := by simp [IntKind.wrap, IntKind.bits, IntKind.signed]; omega
  have hxy1 : Hid (r0 ≠ r1) := by show _; rw [← hr0, ← hr1]; exact hxy0
  clear hxy0
  replace hq0 : Hid _ := hq0
  replace hm : Hid _ := hm
  replace hbe : Hid _ := hbe
  replace hr0 : Hid _ := hr0
  replace hr1 : Hid _ := hr1
  go_enter Try.func8, Try.ntmps8
  go_wp2_with fail
  refine (bknown_any _).mono ?_
  rintro e w2 ⟨rfl, hq⟩
  replace hW := hW.later hq
  replace hb := hb.trans (hq.mono hb.size)
  clear hq hw1
  by_cases hlen : l.length ≤ 60
  · have hlenI : (l.length : Int) ≤ 60 := by omega
    obtain ⟨w3, hw3, hB, hq⟩ := new_var w2 29 (balC bal0) (balC b)
    have hE : Env w w3 [(w.heap.size, 51, arr2 k0 k1), (w2.heap.size, 29, balC b)] := (((Env.start hb).add hW).later hq).add hB
    have hlt2 := hW.lt
    go_wp2_with (first
      | (refine wpList_val (.int .u32 (q : Int)) (by rfl) (run_rem_n32 _ _ _ _ rfl n 1000 q rfl rfl hn (by decide) hq0.out) ?_)
      | (refine wpList_val (.int .u32 (m : Int)) (by rfl) (run_add_n32 _ _ _ _ rfl q 5 m rfl rfl hm.out (by omega)) ?_)
      | (refine wpList_build_two (by rfl) 29 0 1 _ _ rfl _ _ rfl rfl _ (bal_built2 m 1) ?_; rw [← hbe.out])
      | (refine alloc_bal (by rfl) rfl ?_)
      | (refine store_bal b bal0 (by rfl) _ _ rfl w2.heap.size rfl rfl ?hg ?_; (case hg => exact Has.new _ _ _); rw [hw3]))
    have hlt3 := hB.lt
    clear hW hb hB hq hw3
    generalize w2.heap.size = gb at *
    refine (bnew_any _).mono ?_
    rintro e w4 ⟨p0, rfl, hp0, hA0, hq⟩
    replace hE := hE.later hq
    have hlt4 := hA0.lt
    clear hq
    go_wp2_with fail
    refine (bnew_any _).mono ?_
    rintro e w5 ⟨p1, rfl, hp1, hA1, hq⟩
    replace hE := hE.later hq
    replace hA0 := hA0.later hq
    have hlt5 := hA1.lt
    clear hq
    go_wp2_with fail
    refine (bnew_any _).mono ?_
    rintro e w6 ⟨p2, rfl, hp2, hA2, hq⟩
    replace hE := hE.later hq
    replace hA0 := hA0.later hq
    replace hA1 := hA1.later hq
    have hlt6 := hA2.lt
    clear hq
    obtain ⟨p, e0, e1, e2⟩ : ∃ p : Nat → Nat, p 0 = p0 ∧ p 1 = p1 ∧ p 2 = p2 := ⟨fun j => if j = 0 then p0 else if j = 1 then p1 else p2, rfl, rfl, rfl⟩
    have hP : ∀ j, j < 3 → Apart (p j) [(w.heap.size, 51, arr2 k0 k1), (gb, 29, balC b)] := by
      intro j hj
      have hj' : j = 0 ∨ j = 1 ∨ j = 2 := by omega
      have : gb < p j ∧ w.heap.size < p j := by rcases hj' with rfl | rfl | rfl <;> omega
      exact ((Apart.nil (p j)).add (by omega) _ _).add (by omega) _ _
    have hLie : Lie w p := by
      refine ⟨fun j hj => ?_, fun i j hi hj hne => ?_⟩
      · have hj' : j = 0 ∨ j = 1 ∨ j = 2 := by omega
        rcases hj' with rfl | rfl | rfl <;> omega
      · have hj' : j = 0 ∨ j = 1 ∨ j = 2 := by omega
        have hi' : i = 0 ∨ i = 1 ∨ i = 2 := by omega
        rcases hj' with rfl | rfl | rfl <;> rcases hi' with rfl | rfl | rfl <;> omega
    have hT : Trio w6 p (fun _ => acc0) := by
      refine ⟨fun j hj => ?_, fun _ _ => acc0_ok⟩
      have hj' : j = 0 ∨ j = 1 ∨ j = 2 := by omega
      rcases hj' with rfl | rfl | rfl
      · rw [e0]; exact hA0
      · rw [e1]; exact hA1
      · rw [e2]; exact hA2
    have hlt6' : ∀ j, j < 3 → p j < w6.heap.size := fun j hj => (hT.at' j hj).lt
    obtain ⟨w7, hw7, hG, hq⟩ := new_var w6 52 #[.pointer none, .pointer none, .pointer none] (arrpC p)
    have hge : arrpC p = #[.pointer (some ⟨p0, 0, none⟩), .pointer (some ⟨p1, 0, none⟩), .pointer (some ⟨p2, 0, none⟩)] := by unfold arrpC; rw [e0, e1, e2]
    replace hge : Hid _ := hge
    clear hA0 hA1 hA2 hp0 hp1 hp2 hlt4 hlt5 hlt6 e0 e1 e2
    replace hE := (hE.later hq).add hG
    replace hT := hT.later hq
    replace hP : ∀ j, j < 3 → Apart (p j) _ := fun j hj => (hP j hj).add (show w6.heap.size ≠ p j by have := hlt6' j hj; omega) 52 (arrpC p)
    go_wp2_with (first
      | (refine wpList_build_3 (by rfl) 52 0 1 2 _ _ _ rfl _ _ _ rfl rfl rfl _ (arrp_built _ _ _) ?_; rw [← hge.out])
      | (refine wpList_alloc_has (by rfl) 52 rfl _ arrp_zero ?_)
      | (refine wpList_store_has (by rfl) 52 _ _ rfl w6.heap.size rfl (arrpC p) rfl 52 #[.pointer none, .pointer none, .pointer none] (arrp_size _) rfl (arrp_one _) ?hg ?_; (case hg => exact Has.new _ _ _); rw [hw7]))
    clear hG hq hw7 hge hlt6'
    generalize w6.heap.size = ga at *
    refine wp_region_plan (fun W => Env w W _) (Plan.of [(0, true), (1, true), (2, true), (3, true), (4, true), (5, true), (6, true), (7, true), (8, true), (9, true)] .done) (by kernel_rfl) (by kernel_rfl) (by kernel_rfl) (by kernel_rfl) hE.drew ?_
    iterate 1
      first
        | (refine plan_pass _ rfl (by rfl) ?_)
        | (refine plan_take _ _ rfl (.inl ⟨by rfl, fun W hS => by clear hS; go_simp; try with_reducible rfl⟩) ?_)
      try simp only [Act.put, List.setIfInBounds_toArray, List.set_cons_zero, List.set_cons_succ]
    iterate 1
      first
        | (refine plan_pass _ rfl (by rfl) ?_)
        | (refine plan_take _ _ rfl (.inl ⟨by rfl, fun W hS => by have z := ((hS.get 0 rfl).cell 0).trans (show _ = some (.int .u8 (k0 : Int)) from rfl); go_simp; try with_reducible rfl⟩) ?_)
      try simp only [Act.put, List.setIfInBounds_toArray, List.set_cons_zero, List.set_cons_succ]
    refine plan_take _ _ rfl (yields_named (.int .u8 (r0 : Int)) (by rfl) (run_rem_u8 _ _ _ _ rfl k0 3 r0 rfl rfl h0 (by decide) hr0.out)) ?_
    try simp only [Act.put, List.setIfInBounds_toArray, List.set_cons_zero, List.set_cons_succ]
    iterate 2
      first
        | (refine plan_pass _ rfl (by rfl) ?_)
        | (refine plan_take _ _ rfl (.inl ⟨by rfl, fun W hS => by clear hS; go_simp; try with_reducible rfl⟩) ?_)
      try simp only [Act.put, List.setIfInBounds_toArray, List.set_cons_zero, List.set_cons_succ]
    iterate 1
      first
        | (refine plan_pass _ rfl (by rfl) ?_)
        | (refine plan_take _ _ rfl (.inl ⟨by rfl, fun W hS => by have z := ((hS.get 0 rfl).cell 1).trans (show _ = some (.int .u8 (k1 : Int)) from rfl); go_simp; try with_reducible rfl⟩) ?_)
      try simp only [Act.put, List.setIfInBounds_toArray, List.set_cons_zero, List.set_cons_succ]
    refine plan_take _ _ rfl (yields_named (.int .u8 (r1 : Int)) (by rfl) (run_rem_u8 _ _ _ _ rfl k1 3 r1 rfl rfl h1 (by decide) hr1.out)) ?_
    try simp only [Act.put, List.setIfInBounds_toArray, List.set_cons_zero, List.set_cons_succ]
    iterate 3
      first
        | (refine plan_pass _ rfl (by rfl) ?_)
        | (refine plan_take _ _ rfl (.inl ⟨by rfl, fun W hS => by clear hS; go_simp; try with_reducible rfl⟩) ?_)
      try simp only [Act.put, List.setIfInBounds_toArray, List.set_cons_zero, List.set_cons_succ]
    refine plan_done ?_
    replace hE := hE.drew
    replace hT := hT.drew
    generalize w7.drew = w8 at *
    obtain ⟨r2, hr2⟩ : ∃ r, (r0 + 1) % 3 = r := ⟨_, rfl⟩
    have hr2b : r2 < 3 ∧ r0 ≠ r2 := by omega
    replace hr2 : Hid _ := hr2
    have hxy : r0 ≠ r1 := hxy1.out
    clear hxy1
    have hxyI : ((r0 : Int) == (r1 : Int)) = false := by rw [beq_eq_false_iff_ne]; omega
    have hxyJ : ¬ (r0 : Int) = (r1 : Int) := by omega
    have hy3 := hr1b
    clear hr2b hr2
    go_wp2
    clear hxyI hxyJ hwr0 hwr1
    generalize ((r0 : Int) == (r1 : Int)) = bb
    go_loopw [51] (fun i wr => ∃ k : Nat, k ≤ 2 ∧ i = .int .i64 k ∧ Trio wr p (stK b r0 r1 k) ∧ Env w wr [(w.heap.size, 51, arr2 k0 k1), (gb, 29, balC b), (ga, 52, arrpC p)]) (fun i _ => 2 - (intOf i).toNat)
    case atStart => exact ⟨0, by decide, rfl, hT.same _ (fun j hj => by unfold stK; rw [if_neg (by omega)]), hE⟩
    case round =>
      clear hE hT
      obtain ⟨k, hk, rfl, hT, hE⟩ := hrel
      by_cases hk2 : k < 2
      · have hk' : k = 0 ∨ k = 1 := by omega
        have hpy := prep_yes acc0 b hbi (less_0 b)
        rcases hk' with rfl | rfl
        · have hi3 : r0 < 3 := by omega
          have hi3I : ((r0 : Nat) : Int) < 3 := by omega
          have hsta : stK b r0 r1 0 r0 = acc0 := stK_at b hxy (.inl ⟨rfl, rfl⟩)
          have hnx : ∀ j, upd (stK b r0 r1 0) r0 ⟨b, bal0, inc0⟩ j = stK b r0 r1 (0 + 1) j := stK_next b (.inl ⟨rfl, rfl⟩)
          have hc := fun W (h : Has W (p r0) 56 (accC acc0)) => prepare_any (p r0) acc0 b W h acc0_ok hbo
          rw [hpy.1, hpy.2.1, hpy.2.2.1, hpy.2.2.2.1, hpy.2.2.2.2] at hc
          have hbok : AccOk ⟨b, bal0, inc0⟩ := ⟨hbo, bal0_ok, inc0_ok⟩
          have hlow : ∀ j, j < 3 → p j < wr.heap.size := fun j hj => (hT.at' j hj).lt
          have hLi := hLie.low
          generalize stK b r0 r1 0 = st at *
          go_wp2_with (first
            | (refine wpList_val (.int .i64 (r0 : Nat)) (by rfl) (run_index_cell 53 3 _ _ rfl 2 0 #[.int .i64 (r0 : Nat), .int .i64 (r1 : Nat)] (.int .i64 (r0 : Nat)) rfl rfl _ Try.underlying53 (by decide) Try.underlying3 (by kernel_rfl) rfl) ?_))
          let F8 : Act → Act → World → Prop := fun a a' w' => ∃ (gd ge : Nat), a' = (((((((((((((a.put (some 55) (.int .i64 (r0 : Nat))).put (some 56) (.pointer (some ⟨ga, r0, none⟩))).put (some 57) (.pointer (some ⟨p r0, 0, none⟩))).put (some 58) (.agg (balC b))).put (some 59) (.tuple #[.agg (balC bal0), .agg (incC inc0), .bool false, .int .i64 0])).put (some 54) (.tuple #[.agg (balC bal0), .agg (incC inc0), .bool false, .int .i64 0])).put (some 60) (.agg (balC bal0))).put (some 61) (.agg (incC inc0))).put (some 62) (.bool false)).put (some 63) (.int .i64 0)).put (some 13) (.pointer (some ⟨gd, 0, none⟩))).put (some 14) (.pointer (some ⟨ge, 0, none⟩))).put (some 15) (.bool false)).put (some 16) (.int .i64 0) ∧ Trio w' p (upd st r0 ⟨b, bal0, inc0⟩) ∧ Env w w' [(w.heap.size, 51, arr2 k0 k1), (gb, 29, balC b), (ga, 52, arrpC p)]
          have hS := hE.drew
          replace hT := hT.drew
          refine wp_region_any_mid (fun W => Env w W [(w.heap.size, 51, arr2 k0 k1), (gb, 29, balC b), (ga, 52, arrpC p)]) 16 (Array.replicate 16 false) F8 (by kernel_rfl) (by kernel_rfl) (by kernel_rfl) ?_ ?_
          · replace hlow : ∀ j, j < 3 → p j < wr.drew.heap.size := hlow
            have hzz : wr.drew.heap.size ≤ wr.drew.heap.size := Nat.le_refl _
            obtain ⟨zq, hzq⟩ : ∃ z, z = wr.drew.heap.size := ⟨_, rfl⟩
            rw [← hzq] at hlow
            have hsz : zq ≤ wr.drew.heap.size := by omega
            have hApz : ∀ g, zq ≤ g → ∀ e ∈ [(w.heap.size, 51, arr2 k0 k1), (gb, 29, balC b), (ga, 52, arrpC p)], e.1 ≠ g := fun g hg => hS.ne (by omega)
            have hwz : w.heap.size ≤ zq := by have := hS.below.size; omega
            clear hzz hzq hE
            generalize wr.drew = wn at *
            refine any_take 0 _ _ rfl (by kernel_rfl) (by kernel_rfl) (by kernel_rfl) hS (.inl ⟨by rfl, fun W hS => by clear hS; go_simp; try with_reducible rfl⟩) ?_
            try simp only [Act.put, List.setIfInBounds_toArray, List.set_cons_zero, List.set_cons_succ]
            refine any_take 1 _ _ rfl (by kernel_rfl) (by kernel_rfl) (by kernel_rfl) hS (.inl ⟨by rfl, fun W hS => by clear hS; go_simp; try with_reducible rfl⟩) ?_
            try simp only [Act.put, List.setIfInBounds_toArray, List.set_cons_zero, List.set_cons_succ]
            refine any_take 2 _ (.pointer (some ⟨p r0, 0, none⟩)) rfl (by kernel_rfl) (by kernel_rfl) (by kernel_rfl) hS (.inl ⟨by rfl, fun W hW => by have z := arrp_at (hW.get 2 rfl) r0 hi3; clear hW; go_simp; try with_reducible rfl⟩) ?_
            try simp only [Act.put, List.setIfInBounds_toArray, List.set_cons_zero, List.set_cons_succ]
            refine any_take 3 _ _ rfl (by kernel_rfl) (by kernel_rfl) (by kernel_rfl) hS (yields_bal b (by rfl) _ rfl gb rfl (fun _ h => h.get 1 rfl)) ?_
            try simp only [Act.put, List.setIfInBounds_toArray, List.set_cons_zero, List.set_cons_succ]
            refine any_three 4 10 11 (by kernel_rfl) ?_ ?_ ?_
            · refine any_run _ rfl (fun K hK => ?_)
              go_simp
              refine (hc _ (hsta ▸ hT.at' r0 hi3)).mono ?_
              rintro en wm ⟨rfl, hAm, hq⟩
              try replace hA := hq.has hA (by have := hlow r0 hi3; omega)
              try replace hB := hq.has hB (by have := hlow r0 hi3; omega)
              replace hsz := Nat.le_trans hsz hq.size
              replace hT := hT.but hLie hi3 hAm hbok hq
              replace hS := hS.but hq (hLi r0 hi3) (hP r0 hi3)
              refine hK.out _ _ hS ?_
              clear hK K hq hAm
              try simp only [Act.put, List.setIfInBounds_toArray, List.set_cons_zero, List.set_cons_succ]
              obtain ⟨wn, hwn⟩ : ∃ W, W = wm := ⟨_, rfl⟩
              subst hwn
              refine any_take 5 _ _ rfl (by kernel_rfl) (by kernel_rfl) (by kernel_rfl) hS (.inl ⟨by rfl, fun W hS => by clear hS; go_simp; try with_reducible rfl⟩) ?_
              try simp only [Act.put, List.setIfInBounds_toArray, List.set_cons_zero, List.set_cons_succ]
              refine any_take 6 _ _ rfl (by kernel_rfl) (by kernel_rfl) (by kernel_rfl) hS (.inl ⟨by rfl, fun W hS => by clear hS; go_simp; try with_reducible rfl⟩) ?_
              try simp only [Act.put, List.setIfInBounds_toArray, List.set_cons_zero, List.set_cons_succ]
              refine any_take 7 _ _ rfl (by kernel_rfl) (by kernel_rfl) (by kernel_rfl) hS (.inl ⟨by rfl, fun W hS => by clear hS; go_simp; try with_reducible rfl⟩) ?_
              try simp only [Act.put, List.setIfInBounds_toArray, List.set_cons_zero, List.set_cons_succ]
              refine any_take 8 _ _ rfl (by kernel_rfl) (by kernel_rfl) (by kernel_rfl) hS (.inl ⟨by rfl, fun W hS => by clear hS; go_simp; try with_reducible rfl⟩) ?_
              try simp only [Act.put, List.setIfInBounds_toArray, List.set_cons_zero, List.set_cons_succ]
              refine any_take 9 _ _ rfl (by kernel_rfl) (by kernel_rfl) (by kernel_rfl) hS (.inl ⟨by rfl, fun W hS => by clear hS; go_simp; try with_reducible rfl⟩) ?_
              try simp only [Act.put, List.setIfInBounds_toArray, List.set_cons_zero, List.set_cons_succ]
              refine any_two 10 11 (by kernel_rfl) ?_ ?_
              · try have hne := Nat.ne_of_lt hA.lt
                try have hne := Nat.ne_of_lt hB.lt
                refine any_alloc_has _ rfl (by rfl) 29 rfl (balC bal0) bal_zero (hS.alloc _ _) ?_
                try simp only [Act.put, List.setIfInBounds_toArray, List.set_cons_zero, List.set_cons_succ]
                obtain ⟨wm, hwm, hNew, hq⟩ := one_var wn 29 (balC bal0)
                rw [hwm]
                have hgd : zq ≤ wn.heap.size := hsz
                try replace hA := hA.later hq
                try replace hB := hB.later hq
                replace hsz := Nat.le_trans hsz hq.size
                replace hT := hT.later hq
                replace hS := hS.later hq
                have hA := hNew
                clear hq hwm hNew
                generalize wn.heap.size = gd at *
                obtain ⟨wn, hwn⟩ : ∃ W, W = wm := ⟨_, rfl⟩
                subst hwn
                refine any_one 11 (by kernel_rfl) ?_
                try have hne := Nat.ne_of_lt hA.lt
                try have hne := Nat.ne_of_lt hB.lt
                refine any_alloc_has _ rfl (by rfl) 31 rfl (incC inc0) inc_zero (hS.alloc _ _) ?_
                try simp only [Act.put, List.setIfInBounds_toArray, List.set_cons_zero, List.set_cons_succ]
                obtain ⟨wm, hwm, hNew, hq⟩ := one_var wn 31 (incC inc0)
                rw [hwm]
                have hge : zq ≤ wn.heap.size := hsz
                try replace hA := hA.later hq
                try replace hB := hB.later hq
                replace hsz := Nat.le_trans hsz hq.size
                replace hT := hT.later hq
                replace hS := hS.later hq
                have hB := hNew
                clear hq hwm hNew
                generalize wn.heap.size = ge at *
                obtain ⟨wn, hwn⟩ : ∃ W, W = wm := ⟨_, rfl⟩
                subst hwn
                have hne1 : gd ≠ ge := by first | exact hne | exact hne.symm
                have hA1 := hA.row (balC bal0)
                have hB1 := hB.row_other (k := gd) (fun e => hne1 e.symm) (balC bal0)
                have hgp : ∀ j, j < 3 → p j ≠ gd := fun j hj => by have := hlow j hj; omega
                have hgq : ∀ j, j < 3 → p j ≠ ge := fun j hj => by have := hlow j hj; omega
                have hT1 := hT.row_other hgp (balC bal0)
                have hT2 := hT1.row_other hgq (incC inc0)
                have hgS : ∀ e ∈ [(w.heap.size, 51, arr2 k0 k1), (gb, 29, balC b), (ga, 52, arrpC p)], e.1 ≠ gd := hApz gd hgd
                have hgU : ∀ e ∈ [(w.heap.size, 51, arr2 k0 k1), (gb, 29, balC b), (ga, 52, arrpC p)], e.1 ≠ ge := hApz ge hge
                have hS1 := hS.row_other gd (by omega) hgS (balC bal0)
                have hS2 := hS1.row_other ge (by omega) hgU (incC inc0)
                refine any_one 12 (by kernel_rfl) ?_
                refine any_store_has _ rfl (by rfl) 29 _ _ rfl gd rfl (balC bal0) rfl 29 (balC bal0) (bal_size _) rfl (bal_one _) hA hS1 ?_
                try simp only [Act.put, List.setIfInBounds_toArray, List.set_cons_zero, List.set_cons_succ]
                refine any_one 13 (by kernel_rfl) ?_
                refine any_store_has _ rfl (by rfl) 31 _ _ rfl ge rfl (incC inc0) rfl 31 (incC inc0) (inc_size _) rfl (inc_one _) hB1 hS2 ?_
                try simp only [Act.put, List.setIfInBounds_toArray, List.set_cons_zero, List.set_cons_succ]
                clear hT hT1 hA hB hA1 hB1 hS1
                replace hS := hS2
                refine any_take 14 _ _ rfl (by kernel_rfl) (by kernel_rfl) (by kernel_rfl) hS (.inl ⟨by rfl, fun W hS => by clear hS; go_simp; try with_reducible rfl⟩) ?_
                try simp only [Act.put, List.setIfInBounds_toArray, List.set_cons_zero, List.set_cons_succ]
                refine any_take 15 _ _ rfl (by kernel_rfl) (by kernel_rfl) (by kernel_rfl) hS (.inl ⟨by rfl, fun W hS => by clear hS; go_simp; try with_reducible rfl⟩) ?_
                try simp only [Act.put, List.setIfInBounds_toArray, List.set_cons_zero, List.set_cons_succ]
                refine any_done (by kernel_rfl) ?_
                refine mid_done ?_
                exact ⟨gd, ge, by simp only [Act.put, List.setIfInBounds_toArray, List.set_cons_zero, List.set_cons_succ] <;> rfl, hT2, hS⟩
              · try have hne := Nat.ne_of_lt hA.lt
                try have hne := Nat.ne_of_lt hB.lt
                refine any_alloc_has _ rfl (by rfl) 31 rfl (incC inc0) inc_zero (hS.alloc _ _) ?_
                try simp only [Act.put, List.setIfInBounds_toArray, List.set_cons_zero, List.set_cons_succ]
                obtain ⟨wm, hwm, hNew, hq⟩ := one_var wn 31 (incC inc0)
                rw [hwm]
                have hge : zq ≤ wn.heap.size := hsz
                try replace hA := hA.later hq
                try replace hB := hB.later hq
                replace hsz := Nat.le_trans hsz hq.size
                replace hT := hT.later hq
                replace hS := hS.later hq
                have hB := hNew
                clear hq hwm hNew
                generalize wn.heap.size = ge at *
                obtain ⟨wn, hwn⟩ : ∃ W, W = wm := ⟨_, rfl⟩
                subst hwn
                refine any_one 10 (by kernel_rfl) ?_
                try have hne := Nat.ne_of_lt hA.lt
                try have hne := Nat.ne_of_lt hB.lt
                refine any_alloc_has _ rfl (by rfl) 29 rfl (balC bal0) bal_zero (hS.alloc _ _) ?_
                try simp only [Act.put, List.setIfInBounds_toArray, List.set_cons_zero, List.set_cons_succ]
                obtain ⟨wm, hwm, hNew, hq⟩ := one_var wn 29 (balC bal0)
                rw [hwm]
                have hgd : zq ≤ wn.heap.size := hsz
                try replace hA := hA.later hq
                try replace hB := hB.later hq
                replace hsz := Nat.le_trans hsz hq.size
                replace hT := hT.later hq
                replace hS := hS.later hq
                have hA := hNew
                clear hq hwm hNew
                generalize wn.heap.size = gd at *
                obtain ⟨wn, hwn⟩ : ∃ W, W = wm := ⟨_, rfl⟩
                subst hwn
                have hne1 : gd ≠ ge := by first | exact hne | exact hne.symm
                have hA1 := hA.row (balC bal0)
                have hB1 := hB.row_other (k := gd) (fun e => hne1 e.symm) (balC bal0)
                have hgp : ∀ j, j < 3 → p j ≠ gd := fun j hj => by have := hlow j hj; omega
                have hgq : ∀ j, j < 3 → p j ≠ ge := fun j hj => by have := hlow j hj; omega
                have hT1 := hT.row_other hgp (balC bal0)
                have hT2 := hT1.row_other hgq (incC inc0)
                have hgS : ∀ e ∈ [(w.heap.size, 51, arr2 k0 k1), (gb, 29, balC b), (ga, 52, arrpC p)], e.1 ≠ gd := hApz gd hgd
                have hgU : ∀ e ∈ [(w.heap.size, 51, arr2 k0 k1), (gb, 29, balC b), (ga, 52, arrpC p)], e.1 ≠ ge := hApz ge hge
                have hS1 := hS.row_other gd (by omega) hgS (balC bal0)
                have hS2 := hS1.row_other ge (by omega) hgU (incC inc0)
                refine any_one 12 (by kernel_rfl) ?_
                refine any_store_has _ rfl (by rfl) 29 _ _ rfl gd rfl (balC bal0) rfl 29 (balC bal0) (bal_size _) rfl (bal_one _) hA hS1 ?_
                try simp only [Act.put, List.setIfInBounds_toArray, List.set_cons_zero, List.set_cons_succ]
                refine any_one 13 (by kernel_rfl) ?_
                refine any_store_has _ rfl (by rfl) 31 _ _ rfl ge rfl (incC inc0) rfl 31 (incC inc0) (inc_size _) rfl (inc_one _) hB1 hS2 ?_
                try simp only [Act.put, List.setIfInBounds_toArray, List.set_cons_zero, List.set_cons_succ]
                clear hT hT1 hA hB hA1 hB1 hS1
                replace hS := hS2
                refine any_take 14 _ _ rfl (by kernel_rfl) (by kernel_rfl) (by kernel_rfl) hS (.inl ⟨by rfl, fun W hS => by clear hS; go_simp; try with_reducible rfl⟩) ?_
                try simp only [Act.put, List.setIfInBounds_toArray, List.set_cons_zero, List.set_cons_succ]
                refine any_take 15 _ _ rfl (by kernel_rfl) (by kernel_rfl) (by kernel_rfl) hS (.inl ⟨by rfl, fun W hS => by clear hS; go_simp; try with_reducible rfl⟩) ?_
                try simp only [Act.put, List.setIfInBounds_toArray, List.set_cons_zero, List.set_cons_succ]
                refine any_done (by kernel_rfl) ?_
                refine mid_done ?_
                exact ⟨gd, ge, by simp only [Act.put, List.setIfInBounds_toArray, List.set_cons_zero, List.set_cons_succ] <;> rfl, hT2, hS⟩
            · try have hne := Nat.ne_of_lt hA.lt
              try have hne := Nat.ne_of_lt hB.lt
              refine any_alloc_has _ rfl (by rfl) 29 rfl (balC bal0) bal_zero (hS.alloc _ _) ?_
              try simp only [Act.put, List.setIfInBounds_toArray, List.set_cons_zero, List.set_cons_succ]
              obtain ⟨wm, hwm, hNew, hq⟩ := one_var wn 29 (balC bal0)
              rw [hwm]
              have hgd : zq ≤ wn.heap.size := hsz
              try replace hA := hA.later hq
              try replace hB := hB.later hq
              replace hsz := Nat.le_trans hsz hq.size
              replace hT := hT.later hq
              replace hS := hS.later hq
              have hA := hNew
              clear hq hwm hNew
              generalize wn.heap.size = gd at *
              obtain ⟨wn, hwn⟩ : ∃ W, W = wm := ⟨_, rfl⟩
              subst hwn
              refine any_two 4 11 (by kernel_rfl) ?_ ?_
              · refine any_run _ rfl (fun K hK => ?_)
                go_simp
                refine (hc _ (hsta ▸ hT.at' r0 hi3)).mono ?_
                rintro en wm ⟨rfl, hAm, hq⟩
                try replace hA := hq.has hA (by have := hlow r0 hi3; omega)
                try replace hB := hq.has hB (by have := hlow r0 hi3; omega)
                replace hsz := Nat.le_trans hsz hq.size
                replace hT := hT.but hLie hi3 hAm hbok hq
                replace hS := hS.but hq (hLi r0 hi3) (hP r0 hi3)
                refine hK.out _ _ hS ?_
                clear hK K hq hAm
                try simp only [Act.put, List.setIfInBounds_toArray, List.set_cons_zero, List.set_cons_succ]
                obtain ⟨wn, hwn⟩ : ∃ W, W = wm := ⟨_, rfl⟩
                subst hwn
                refine any_take 5 _ _ rfl (by kernel_rfl) (by kernel_rfl) (by kernel_rfl) hS (.inl ⟨by rfl, fun W hS => by clear hS; go_simp; try with_reducible rfl⟩) ?_
                try simp only [Act.put, List.setIfInBounds_toArray, List.set_cons_zero, List.set_cons_succ]
                refine any_take 6 _ _ rfl (by kernel_rfl) (by kernel_rfl) (by kernel_rfl) hS (.inl ⟨by rfl, fun W hS => by clear hS; go_simp; try with_reducible rfl⟩) ?_
                try simp only [Act.put, List.setIfInBounds_toArray, List.set_cons_zero, List.set_cons_succ]
                refine any_take 7 _ _ rfl (by kernel_rfl) (by kernel_rfl) (by kernel_rfl) hS (.inl ⟨by rfl, fun W hS => by clear hS; go_simp; try with_reducible rfl⟩) ?_
                try simp only [Act.put, List.setIfInBounds_toArray, List.set_cons_zero, List.set_cons_succ]
                refine any_take 8 _ _ rfl (by kernel_rfl) (by kernel_rfl) (by kernel_rfl) hS (.inl ⟨by rfl, fun W hS => by clear hS; go_simp; try with_reducible rfl⟩) ?_
                try simp only [Act.put, List.setIfInBounds_toArray, List.set_cons_zero, List.set_cons_succ]
                refine any_take 9 _ _ rfl (by kernel_rfl) (by kernel_rfl) (by kernel_rfl) hS (.inl ⟨by rfl, fun W hS => by clear hS; go_simp; try with_reducible rfl⟩) ?_
                try simp only [Act.put, List.setIfInBounds_toArray, List.set_cons_zero, List.set_cons_succ]
                refine any_one 11 (by kernel_rfl) ?_
                try have hne := Nat.ne_of_lt hA.lt
                try have hne := Nat.ne_of_lt hB.lt
                refine any_alloc_has _ rfl (by rfl) 31 rfl (incC inc0) inc_zero (hS.alloc _ _) ?_
                try simp only [Act.put, List.setIfInBounds_toArray, List.set_cons_zero, List.set_cons_succ]
                obtain ⟨wm, hwm, hNew, hq⟩ := one_var wn 31 (incC inc0)
                rw [hwm]
                have hge : zq ≤ wn.heap.size := hsz
                try replace hA := hA.later hq
                try replace hB := hB.later hq
                replace hsz := Nat.le_trans hsz hq.size
                replace hT := hT.later hq
                replace hS := hS.later hq
                have hB := hNew
                clear hq hwm hNew
                generalize wn.heap.size = ge at *
                obtain ⟨wn, hwn⟩ : ∃ W, W = wm := ⟨_, rfl⟩
                subst hwn
                have hne1 : gd ≠ ge := by first | exact hne | exact hne.symm
                have hA1 := hA.row (balC bal0)
                have hB1 := hB.row_other (k := gd) (fun e => hne1 e.symm) (balC bal0)
                have hgp : ∀ j, j < 3 → p j ≠ gd := fun j hj => by have := hlow j hj; omega
                have hgq : ∀ j, j < 3 → p j ≠ ge := fun j hj => by have := hlow j hj; omega
                have hT1 := hT.row_other hgp (balC bal0)
                have hT2 := hT1.row_other hgq (incC inc0)
                have hgS : ∀ e ∈ [(w.heap.size, 51, arr2 k0 k1), (gb, 29, balC b), (ga, 52, arrpC p)], e.1 ≠ gd := hApz gd hgd
                have hgU : ∀ e ∈ [(w.heap.size, 51, arr2 k0 k1), (gb, 29, balC b), (ga, 52, arrpC p)], e.1 ≠ ge := hApz ge hge
                have hS1 := hS.row_other gd (by omega) hgS (balC bal0)
                have hS2 := hS1.row_other ge (by omega) hgU (incC inc0)
                refine any_one 12 (by kernel_rfl) ?_
                refine any_store_has _ rfl (by rfl) 29 _ _ rfl gd rfl (balC bal0) rfl 29 (balC bal0) (bal_size _) rfl (bal_one _) hA hS1 ?_
                try simp only [Act.put, List.setIfInBounds_toArray, List.set_cons_zero, List.set_cons_succ]
                refine any_one 13 (by kernel_rfl) ?_
                refine any_store_has _ rfl (by rfl) 31 _ _ rfl ge rfl (incC inc0) rfl 31 (incC inc0) (inc_size _) rfl (inc_one _) hB1 hS2 ?_
                try simp only [Act.put, List.setIfInBounds_toArray, List.set_cons_zero, List.set_cons_succ]
                clear hT hT1 hA hB hA1 hB1 hS1
                replace hS := hS2
                refine any_take 14 _ _ rfl (by kernel_rfl) (by kernel_rfl) (by kernel_rfl) hS (.inl ⟨by rfl, fun W hS => by clear hS; go_simp; try with_reducible rfl⟩) ?_
                try simp only [Act.put, List.setIfInBounds_toArray, List.set_cons_zero, List.set_cons_succ]
                refine any_take 15 _ _ rfl (by kernel_rfl) (by kernel_rfl) (by kernel_rfl) hS (.inl ⟨by rfl, fun W hS => by clear hS; go_simp; try with_reducible rfl⟩) ?_
                try simp only [Act.put, List.setIfInBounds_toArray, List.set_cons_zero, List.set_cons_succ]
                refine any_done (by kernel_rfl) ?_
                refine mid_done ?_
                exact ⟨gd, ge, by simp only [Act.put, List.setIfInBounds_toArray, List.set_cons_zero, List.set_cons_succ] <;> rfl, hT2, hS⟩
              · try have hne := Nat.ne_of_lt hA.lt
                try have hne := Nat.ne_of_lt hB.lt
                refine any_alloc_has _ rfl (by rfl) 31 rfl (incC inc0) inc_zero (hS.alloc _ _) ?_
                try simp only [Act.put, List.setIfInBounds_toArray, List.set_cons_zero, List.set_cons_succ]
                obtain ⟨wm, hwm, hNew, hq⟩ := one_var wn 31 (incC inc0)
                rw [hwm]
                have hge : zq ≤ wn.heap.size := hsz
                try replace hA := hA.later hq
                try replace hB := hB.later hq
                replace hsz := Nat.le_trans hsz hq.size
                replace hT := hT.later hq
                replace hS := hS.later hq
                have hB := hNew
                clear hq hwm hNew
                generalize wn.heap.size = ge at *
                obtain ⟨wn, hwn⟩ : ∃ W, W = wm := ⟨_, rfl⟩
                subst hwn
                refine any_one 4 (by kernel_rfl) ?_
                refine any_run _ rfl (fun K hK => ?_)
                go_simp
                refine (hc _ (hsta ▸ hT.at' r0 hi3)).mono ?_
                rintro en wm ⟨rfl, hAm, hq⟩
                try replace hA := hq.has hA (by have := hlow r0 hi3; omega)
                try replace hB := hq.has hB (by have := hlow r0 hi3; omega)
                replace hsz := Nat.le_trans hsz hq.size
                replace hT := hT.but hLie hi3 hAm hbok hq
                replace hS := hS.but hq (hLi r0 hi3) (hP r0 hi3)
                refine hK.out _ _ hS ?_
                clear hK K hq hAm
                try simp only [Act.put, List.setIfInBounds_toArray, List.set_cons_zero, List.set_cons_succ]
                obtain ⟨wn, hwn⟩ : ∃ W, W = wm := ⟨_, rfl⟩
                subst hwn
                refine any_take 5 _ _ rfl (by kernel_rfl) (by kernel_rfl) (by kernel_rfl) hS (.inl ⟨by rfl, fun W hS => by clear hS; go_simp; try with_reducible rfl⟩) ?_
                try simp only [Act.put, List.setIfInBounds_toArray, List.set_cons_zero, List.set_cons_succ]
                refine any_take 6 _ _ rfl (by kernel_rfl) (by kernel_rfl) (by kernel_rfl) hS (.inl ⟨by rfl, fun W hS => by clear hS; go_simp; try with_reducible rfl⟩) ?_
                try simp only [Act.put, List.setIfInBounds_toArray, List.set_cons_zero, List.set_cons_succ]
                refine any_take 7 _ _ rfl (by kernel_rfl) (by kernel_rfl) (by kernel_rfl) hS (.inl ⟨by rfl, fun W hS => by clear hS; go_simp; try with_reducible rfl⟩) ?_
                try simp only [Act.put, List.setIfInBounds_toArray, List.set_cons_zero, List.set_cons_succ]
                refine any_take 8 _ _ rfl (by kernel_rfl) (by kernel_rfl) (by kernel_rfl) hS (.inl ⟨by rfl, fun W hS => by clear hS; go_simp; try with_reducible rfl⟩) ?_
                try simp only [Act.put, List.setIfInBounds_toArray, List.set_cons_zero, List.set_cons_succ]
                refine any_take 9 _ _ rfl (by kernel_rfl) (by kernel_rfl) (by kernel_rfl) hS (.inl ⟨by rfl, fun W hS => by clear hS; go_simp; try with_reducible rfl⟩) ?_
                try simp only [Act.put, List.setIfInBounds_toArray, List.set_cons_zero, List.set_cons_succ]
                have hne1 : gd ≠ ge := by first | exact hne | exact hne.symm
                have hA1 := hA.row (balC bal0)
                have hB1 := hB.row_other (k := gd) (fun e => hne1 e.symm) (balC bal0)
                have hgp : ∀ j, j < 3 → p j ≠ gd := fun j hj => by have := hlow j hj; omega
                have hgq : ∀ j, j < 3 → p j ≠ ge := fun j hj => by have := hlow j hj; omega
                have hT1 := hT.row_other hgp (balC bal0)
                have hT2 := hT1.row_other hgq (incC inc0)
                have hgS : ∀ e ∈ [(w.heap.size, 51, arr2 k0 k1), (gb, 29, balC b), (ga, 52, arrpC p)], e.1 ≠ gd := hApz gd hgd
                have hgU : ∀ e ∈ [(w.heap.size, 51, arr2 k0 k1), (gb, 29, balC b), (ga, 52, arrpC p)], e.1 ≠ ge := hApz ge hge
                have hS1 := hS.row_other gd (by omega) hgS (balC bal0)
                have hS2 := hS1.row_other ge (by omega) hgU (incC inc0)
                refine any_one 12 (by kernel_rfl) ?_
                refine any_store_has _ rfl (by rfl) 29 _ _ rfl gd rfl (balC bal0) rfl 29 (balC bal0) (bal_size _) rfl (bal_one _) hA hS1 ?_
                try simp only [Act.put, List.setIfInBounds_toArray, List.set_cons_zero, List.set_cons_succ]
                refine any_one 13 (by kernel_rfl) ?_
                refine any_store_has _ rfl (by rfl) 31 _ _ rfl ge rfl (incC inc0) rfl 31 (incC inc0) (inc_size _) rfl (inc_one _) hB1 hS2 ?_
                try simp only [Act.put, List.setIfInBounds_toArray, List.set_cons_zero, List.set_cons_succ]
                clear hT hT1 hA hB hA1 hB1 hS1
                replace hS := hS2
                refine any_take 14 _ _ rfl (by kernel_rfl) (by kernel_rfl) (by kernel_rfl) hS (.inl ⟨by rfl, fun W hS => by clear hS; go_simp; try with_reducible rfl⟩) ?_
                try simp only [Act.put, List.setIfInBounds_toArray, List.set_cons_zero, List.set_cons_succ]
                refine any_take 15 _ _ rfl (by kernel_rfl) (by kernel_rfl) (by kernel_rfl) hS (.inl ⟨by rfl, fun W hS => by clear hS; go_simp; try with_reducible rfl⟩) ?_
                try simp only [Act.put, List.setIfInBounds_toArray, List.set_cons_zero, List.set_cons_succ]
                refine any_done (by kernel_rfl) ?_
                refine mid_done ?_
                exact ⟨gd, ge, by simp only [Act.put, List.setIfInBounds_toArray, List.set_cons_zero, List.set_cons_succ] <;> rfl, hT2, hS⟩
            · try have hne := Nat.ne_of_lt hA.lt
              try have hne := Nat.ne_of_lt hB.lt
              refine any_alloc_has _ rfl (by rfl) 31 rfl (incC inc0) inc_zero (hS.alloc _ _) ?_
              try simp only [Act.put, List.setIfInBounds_toArray, List.set_cons_zero, List.set_cons_succ]
              obtain ⟨wm, hwm, hNew, hq⟩ := one_var wn 31 (incC inc0)
              rw [hwm]
              have hge : zq ≤ wn.heap.size := hsz
              try replace hA := hA.later hq
              try replace hB := hB.later hq
              replace hsz := Nat.le_trans hsz hq.size
              replace hT := hT.later hq
              replace hS := hS.later hq
              have hB := hNew
              clear hq hwm hNew
              generalize wn.heap.size = ge at *
              obtain ⟨wn, hwn⟩ : ∃ W, W = wm := ⟨_, rfl⟩
              subst hwn
              refine any_two 4 10 (by kernel_rfl) ?_ ?_
              · refine any_run _ rfl (fun K hK => ?_)
                go_simp
                refine (hc _ (hsta ▸ hT.at' r0 hi3)).mono ?_
                rintro en wm ⟨rfl, hAm, hq⟩
                try replace hA := hq.has hA (by have := hlow r0 hi3; omega)
                try replace hB := hq.has hB (by have := hlow r0 hi3; omega)
                replace hsz := Nat.le_trans hsz hq.size
                replace hT := hT.but hLie hi3 hAm hbok hq
                replace hS := hS.but hq (hLi r0 hi3) (hP r0 hi3)
                refine hK.out _ _ hS ?_
                clear hK K hq hAm
                try simp only [Act.put, List.setIfInBounds_toArray, List.set_cons_zero, List.set_cons_succ]
                obtain ⟨wn, hwn⟩ : ∃ W, W = wm := ⟨_, rfl⟩
                subst hwn
                refine any_take 5 _ _ rfl (by kernel_rfl) (by kernel_rfl) (by kernel_rfl) hS (.inl ⟨by rfl, fun W hS => by clear hS; go_simp; try with_reducible rfl⟩) ?_
                try simp only [Act.put, List.setIfInBounds_toArray, List.set_cons_zero, List.set_cons_succ]
                refine any_take 6 _ _ rfl (by kernel_rfl) (by kernel_rfl) (by kernel_rfl) hS (.inl ⟨by rfl, fun W hS => by clear hS; go_simp; try with_reducible rfl⟩) ?_
                try simp only [Act.put, List.setIfInBounds_toArray, List.set_cons_zero, List.set_cons_succ]
                refine any_take 7 _ _ rfl (by kernel_rfl) (by kernel_rfl) (by kernel_rfl) hS (.inl ⟨by rfl, fun W hS => by clear hS; go_simp; try with_reducible rfl⟩) ?_
                try simp only [Act.put, List.setIfInBounds_toArray, List.set_cons_zero, List.set_cons_succ]
                refine any_take 8 _ _ rfl (by kernel_rfl) (by kernel_rfl) (by kernel_rfl) hS (.inl ⟨by rfl, fun W hS => by clear hS; go_simp; try with_reducible rfl⟩) ?_
                try simp only [Act.put, List.setIfInBounds_toArray, List.set_cons_zero, List.set_cons_succ]
                refine any_take 9 _ _ rfl (by kernel_rfl) (by kernel_rfl) (by kernel_rfl) hS (.inl ⟨by rfl, fun W hS => by clear hS; go_simp; try with_reducible rfl⟩) ?_
                try simp only [Act.put, List.setIfInBounds_toArray, List.set_cons_zero, List.set_cons_succ]
                refine any_one 10 (by kernel_rfl) ?_
                try have hne := Nat.ne_of_lt hA.lt
                try have hne := Nat.ne_of_lt hB.lt
                refine any_alloc_has _ rfl (by rfl) 29 rfl (balC bal0) bal_zero (hS.alloc _ _) ?_
                try simp only [Act.put, List.setIfInBounds_toArray, List.set_cons_zero, List.set_cons_succ]
                obtain ⟨wm, hwm, hNew, hq⟩ := one_var wn 29 (balC bal0)
                rw [hwm]
                have hgd : zq ≤ wn.heap.size := hsz
                try replace hA := hA.later hq
                try replace hB := hB.later hq
                replace hsz := Nat.le_trans hsz hq.size
                replace hT := hT.later hq
                replace hS := hS.later hq
                have hA := hNew
                clear hq hwm hNew
                generalize wn.heap.size = gd at *
                obtain ⟨wn, hwn⟩ : ∃ W, W = wm := ⟨_, rfl⟩
                subst hwn
                have hne1 : gd ≠ ge := by first | exact hne | exact hne.symm
                have hA1 := hA.row (balC bal0)
                have hB1 := hB.row_other (k := gd) (fun e => hne1 e.symm) (balC bal0)
                have hgp : ∀ j, j < 3 → p j ≠ gd := fun j hj => by have := hlow j hj; omega
                have hgq : ∀ j, j < 3 → p j ≠ ge := fun j hj => by have := hlow j hj; omega
                have hT1 := hT.row_other hgp (balC bal0)
                have hT2 := hT1.row_other hgq (incC inc0)
                have hgS : ∀ e ∈ [(w.heap.size, 51, arr2 k0 k1), (gb, 29, balC b), (ga, 52, arrpC p)], e.1 ≠ gd := hApz gd hgd
                have hgU : ∀ e ∈ [(w.heap.size, 51, arr2 k0 k1), (gb, 29, balC b), (ga, 52, arrpC p)], e.1 ≠ ge := hApz ge hge
                have hS1 := hS.row_other gd (by omega) hgS (balC bal0)
                have hS2 := hS1.row_other ge (by omega) hgU (incC inc0)
                refine any_one 12 (by kernel_rfl) ?_
                refine any_store_has _ rfl (by rfl) 29 _ _ rfl gd rfl (balC bal0) rfl 29 (balC bal0) (bal_size _) rfl (bal_one _) hA hS1 ?_
                try simp only [Act.put, List.setIfInBounds_toArray, List.set_cons_zero, List.set_cons_succ]
                refine any_one 13 (by kernel_rfl) ?_
                refine any_store_has _ rfl (by rfl) 31 _ _ rfl ge rfl (incC inc0) rfl 31 (incC inc0) (inc_size _) rfl (inc_one _) hB1 hS2 ?_
                try simp only [Act.put, List.setIfInBounds_toArray, List.set_cons_zero, List.set_cons_succ]
                clear hT hT1 hA hB hA1 hB1 hS1
                replace hS := hS2
                refine any_take 14 _ _ rfl (by kernel_rfl) (by kernel_rfl) (by kernel_rfl) hS (.inl ⟨by rfl, fun W hS => by clear hS; go_simp; try with_reducible rfl⟩) ?_
                try simp only [Act.put, List.setIfInBounds_toArray, List.set_cons_zero, List.set_cons_succ]
                refine any_take 15 _ _ rfl (by kernel_rfl) (by kernel_rfl) (by kernel_rfl) hS (.inl ⟨by rfl, fun W hS => by clear hS; go_simp; try with_reducible rfl⟩) ?_
                try simp only [Act.put, List.setIfInBounds_toArray, List.set_cons_zero, List.set_cons_succ]
                refine any_done (by kernel_rfl) ?_
                refine mid_done ?_
                exact ⟨gd, ge, by simp only [Act.put, List.setIfInBounds_toArray, List.set_cons_zero, List.set_cons_succ] <;> rfl, hT2, hS⟩
              · try have hne := Nat.ne_of_lt hA.lt
                try have hne := Nat.ne_of_lt hB.lt
                refine any_alloc_has _ rfl (by rfl) 29 rfl (balC bal0) bal_zero (hS.alloc _ _) ?_
                try simp only [Act.put, List.setIfInBounds_toArray, List.set_cons_zero, List.set_cons_succ]
                obtain ⟨wm, hwm, hNew, hq⟩ := one_var wn 29 (balC bal0)
                rw [hwm]
                have hgd : zq ≤ wn.heap.size := hsz
                try replace hA := hA.later hq
                try replace hB := hB.later hq
                replace hsz := Nat.le_trans hsz hq.size
                replace hT := hT.later hq
                replace hS := hS.later hq
                have hA := hNew
                clear hq hwm hNew
                generalize wn.heap.size = gd at *
                obtain ⟨wn, hwn⟩ : ∃ W, W = wm := ⟨_, rfl⟩
                subst hwn
                refine any_one 4 (by kernel_rfl) ?_
                refine any_run _ rfl (fun K hK => ?_)
                go_simp
                refine (hc _ (hsta ▸ hT.at' r0 hi3)).mono ?_
                rintro en wm ⟨rfl, hAm, hq⟩
                try replace hA := hq.has hA (by have := hlow r0 hi3; omega)
                try replace hB := hq.has hB (by have := hlow r0 hi3; omega)
                replace hsz := Nat.le_trans hsz hq.size
                replace hT := hT.but hLie hi3 hAm hbok hq
                replace hS := hS.but hq (hLi r0 hi3) (hP r0 hi3)
                refine hK.out _ _ hS ?_
                clear hK K hq hAm
                try simp only [Act.put, List.setIfInBounds_toArray, List.set_cons_zero, List.set_cons_succ]
                obtain ⟨wn, hwn⟩ : ∃ W, W = wm := ⟨_, rfl⟩
                subst hwn
                refine any_take 5 _ _ rfl (by kernel_rfl) (by kernel_rfl) (by kernel_rfl) hS (.inl ⟨by rfl, fun W hS => by clear hS; go_simp; try with_reducible rfl⟩) ?_
                try simp only [Act.put, List.setIfInBounds_toArray, List.set_cons_zero, List.set_cons_succ]
                refine any_take 6 _ _ rfl (by kernel_rfl) (by kernel_rfl) (by kernel_rfl) hS (.inl ⟨by rfl, fun W hS => by clear hS; go_simp; try with_reducible rfl⟩) ?_
                try simp only [Act.put, List.setIfInBounds_toArray, List.set_cons_zero, List.set_cons_succ]
                refine any_take 7 _ _ rfl (by kernel_rfl) (by kernel_rfl) (by kernel_rfl) hS (.inl ⟨by rfl, fun W hS => by clear hS; go_simp; try with_reducible rfl⟩) ?_
                try simp only [Act.put, List.setIfInBounds_toArray, List.set_cons_zero, List.set_cons_succ]
                refine any_take 8 _ _ rfl (by kernel_rfl) (by kernel_rfl) (by kernel_rfl) hS (.inl ⟨by rfl, fun W hS => by clear hS; go_simp; try with_reducible rfl⟩) ?_
                try simp only [Act.put, List.setIfInBounds_toArray, List.set_cons_zero, List.set_cons_succ]
                refine any_take 9 _ _ rfl (by kernel_rfl) (by kernel_rfl) (by kernel_rfl) hS (.inl ⟨by rfl, fun W hS => by clear hS; go_simp; try with_reducible rfl⟩) ?_
                try simp only [Act.put, List.setIfInBounds_toArray, List.set_cons_zero, List.set_cons_succ]
                have hne1 : gd ≠ ge := by first | exact hne | exact hne.symm
                have hA1 := hA.row (balC bal0)
                have hB1 := hB.row_other (k := gd) (fun e => hne1 e.symm) (balC bal0)
                have hgp : ∀ j, j < 3 → p j ≠ gd := fun j hj => by have := hlow j hj; omega
                have hgq : ∀ j, j < 3 → p j ≠ ge := fun j hj => by have := hlow j hj; omega
                have hT1 := hT.row_other hgp (balC bal0)
                have hT2 := hT1.row_other hgq (incC inc0)
                have hgS : ∀ e ∈ [(w.heap.size, 51, arr2 k0 k1), (gb, 29, balC b), (ga, 52, arrpC p)], e.1 ≠ gd := hApz gd hgd
                have hgU : ∀ e ∈ [(w.heap.size, 51, arr2 k0 k1), (gb, 29, balC b), (ga, 52, arrpC p)], e.1 ≠ ge := hApz ge hge
                have hS1 := hS.row_other gd (by omega) hgS (balC bal0)
                have hS2 := hS1.row_other ge (by omega) hgU (incC inc0)
                refine any_one 12 (by kernel_rfl) ?_
                refine any_store_has _ rfl (by rfl) 29 _ _ rfl gd rfl (balC bal0) rfl 29 (balC bal0) (bal_size _) rfl (bal_one _) hA hS1 ?_
                try simp only [Act.put, List.setIfInBounds_toArray, List.set_cons_zero, List.set_cons_succ]
                refine any_one 13 (by kernel_rfl) ?_
                refine any_store_has _ rfl (by rfl) 31 _ _ rfl ge rfl (incC inc0) rfl 31 (incC inc0) (inc_size _) rfl (inc_one _) hB1 hS2 ?_
                try simp only [Act.put, List.setIfInBounds_toArray, List.set_cons_zero, List.set_cons_succ]
                clear hT hT1 hA hB hA1 hB1 hS1
                replace hS := hS2
                refine any_take 14 _ _ rfl (by kernel_rfl) (by kernel_rfl) (by kernel_rfl) hS (.inl ⟨by rfl, fun W hS => by clear hS; go_simp; try with_reducible rfl⟩) ?_
                try simp only [Act.put, List.setIfInBounds_toArray, List.set_cons_zero, List.set_cons_succ]
                refine any_take 15 _ _ rfl (by kernel_rfl) (by kernel_rfl) (by kernel_rfl) hS (.inl ⟨by rfl, fun W hS => by clear hS; go_simp; try with_reducible rfl⟩) ?_
                try simp only [Act.put, List.setIfInBounds_toArray, List.set_cons_zero, List.set_cons_succ]
                refine any_done (by kernel_rfl) ?_
                refine mid_done ?_
                exact ⟨gd, ge, by simp only [Act.put, List.setIfInBounds_toArray, List.set_cons_zero, List.set_cons_succ] <;> rfl, hT2, hS⟩
          · rintro _ w10 ⟨gd, ge, rfl, hT, hE⟩
            try simp only [Act.put, List.setIfInBounds_toArray, List.set_cons_zero, List.set_cons_succ]
            clear F8
            go_wp2
            go_roundw
            case rel => exact ⟨0 + 1, by omega, by go_num, hT.same _ (fun j _ => hnx j), hE⟩
            case measure => simp [intOf]
        · have hi3 : r1 < 3 := hy3
          have hi3I : ((r1 : Nat) : Int) < 3 := by omega
          have hsta : stK b r0 r1 1 r1 = acc0 := stK_at b hxy (.inr ⟨rfl, rfl⟩)
          have hnx : ∀ j, upd (stK b r0 r1 1) r1 ⟨b, bal0, inc0⟩ j = stK b r0 r1 (1 + 1) j := stK_next b (.inr ⟨rfl, rfl⟩)
          have hc := fun W (h : Has W (p r1) 56 (accC acc0)) => prepare_any (p r1) acc0 b W h acc0_ok hbo
          rw [hpy.1, hpy.2.1, hpy.2.2.1, hpy.2.2.2.1, hpy.2.2.2.2] at hc
          have hbok : AccOk ⟨b, bal0, inc0⟩ := ⟨hbo, bal0_ok, inc0_ok⟩
          have hlow : ∀ j, j < 3 → p j < wr.heap.size := fun j hj => (hT.at' j hj).lt
          have hLi := hLie.low
          generalize stK b r0 r1 1 = st at *
          go_wp2_with (first
            | (refine wpList_val (.int .i64 (r1 : Nat)) (by rfl) (run_index_cell 53 3 _ _ rfl 2 1 #[.int .i64 (r0 : Nat), .int .i64 (r1 : Nat)] (.int .i64 (r1 : Nat)) rfl rfl _ Try.underlying53 (by decide) Try.underlying3 (by kernel_rfl) rfl) ?_))
          let F8 : Act → Act → World → Prop := fun a a' w' => ∃ (gd ge : Nat), a' = (((((((((((((a.put (some 55) (.int .i64 (r1 : Nat))).put (some 56) (.pointer (some ⟨ga, r1, none⟩))).put (some 57) (.pointer (some ⟨p r1, 0, none⟩))).put (some 58) (.agg (balC b))).put (some 59) (.tuple #[.agg (balC bal0), .agg (incC inc0), .bool false, .int .i64 0])).put (some 54) (.tuple #[.agg (balC bal0), .agg (incC inc0), .bool false, .int .i64 0])).put (some 60) (.agg (balC bal0))).put (some 61) (.agg (incC inc0))).put (some 62) (.bool false)).put (some 63) (.int .i64 0)).put (some 13) (.pointer (some ⟨gd, 0, none⟩))).put (some 14) (.pointer (some ⟨ge, 0, none⟩))).put (some 15) (.bool false)).put (some 16) (.int .i64 0) ∧ Trio w' p (upd st r1 ⟨b, bal0, inc0⟩) ∧ Env w w' [(w.heap.size, 51, arr2 k0 k1), (gb, 29, balC b), (ga, 52, arrpC p)]
          have hS := hE.drew
          replace hT := hT.drew
          refine wp_region_any_mid (fun W => Env w W [(w.heap.size, 51, arr2 k0 k1), (gb, 29, balC b), (ga, 52, arrpC p)]) 16 (Array.replicate 16 false) F8 (by kernel_rfl) (by kernel_rfl) (by kernel_rfl) ?_ ?_
          · replace hlow : ∀ j, j < 3 → p j < wr.drew.heap.size := hlow
            have hzz : wr.drew.heap.size ≤ wr.drew.heap.size := Nat.le_refl _
            obtain ⟨zq, hzq⟩ : ∃ z, z = wr.drew.heap.size := ⟨_, rfl⟩
            rw [← hzq] at hlow
            have hsz : zq ≤ wr.drew.heap.size := by omega
            have hApz : ∀ g, zq ≤ g → ∀ e ∈ [(w.heap.size, 51, arr2 k0 k1), (gb, 29, balC b), (ga, 52, arrpC p)], e.1 ≠ g := fun g hg => hS.ne (by omega)
            have hwz : w.heap.size ≤ zq := by have := hS.below.size; omega
            clear hzz hzq hE
            generalize wr.drew = wn at *
            refine any_take 0 _ _ rfl (by kernel_rfl) (by kernel_rfl) (by kernel_rfl) hS (.inl ⟨by rfl, fun W hS => by clear hS; go_simp; try with_reducible rfl⟩) ?_
            try simp only [Act.put, List.setIfInBounds_toArray, List.set_cons_zero, List.set_cons_succ]
            refine any_take 1 _ _ rfl (by kernel_rfl) (by kernel_rfl) (by kernel_rfl) hS (.inl ⟨by rfl, fun W hS => by clear hS; go_simp; try with_reducible rfl⟩) ?_
            try simp only [Act.put, List.setIfInBounds_toArray, List.set_cons_zero, List.set_cons_succ]
            refine any_take 2 _ (.pointer (some ⟨p r1, 0, none⟩)) rfl (by kernel_rfl) (by kernel_rfl) (by kernel_rfl) hS (.inl ⟨by rfl, fun W hW => by have z := arrp_at (hW.get 2 rfl) r1 hi3; clear hW; go_simp; try with_reducible rfl⟩) ?_
            try simp only [Act.put, List.setIfInBounds_toArray, List.set_cons_zero, List.set_cons_succ]
            refine any_take 3 _ _ rfl (by kernel_rfl) (by kernel_rfl) (by kernel_rfl) hS (yields_bal b (by rfl) _ rfl gb rfl (fun _ h => h.get 1 rfl)) ?_
            try simp only [Act.put, List.setIfInBounds_toArray, List.set_cons_zero, List.set_cons_succ]
            refine any_three 4 10 11 (by kernel_rfl) ?_ ?_ ?_
            · refine any_run _ rfl (fun K hK => ?_)
              go_simp
              refine (hc _ (hsta ▸ hT.at' r1 hi3)).mono ?_
              rintro en wm ⟨rfl, hAm, hq⟩
              try replace hA := hq.has hA (by have := hlow r1 hi3; omega)
              try replace hB := hq.has hB (by have := hlow r1 hi3; omega)
              replace hsz := Nat.le_trans hsz hq.size
              replace hT := hT.but hLie hi3 hAm hbok hq
              replace hS := hS.but hq (hLi r1 hi3) (hP r1 hi3)
              refine hK.out _ _ hS ?_
              clear hK K hq hAm
              try simp only [Act.put, List.setIfInBounds_toArray, List.set_cons_zero, List.set_cons_succ]
              obtain ⟨wn, hwn⟩ : ∃ W, W = wm := ⟨_, rfl⟩
              subst hwn
              refine any_take 5 _ _ rfl (by kernel_rfl) (by kernel_rfl) (by kernel_rfl) hS (.inl ⟨by rfl, fun W hS => by clear hS; go_simp; try with_reducible rfl⟩) ?_
              try simp only [Act.put, List.setIfInBounds_toArray, List.set_cons_zero, List.set_cons_succ]
              refine any_take 6 _ _ rfl (by kernel_rfl) (by kernel_rfl) (by kernel_rfl) hS (.inl ⟨by rfl, fun W hS => by clear hS; go_simp; try with_reducible rfl⟩) ?_
              try simp only [Act.put, List.setIfInBounds_toArray, List.set_cons_zero, List.set_cons_succ]
              refine any_take 7 _ _ rfl (by kernel_rfl) (by kernel_rfl) (by kernel_rfl) hS (.inl ⟨by rfl, fun W hS => by clear hS; go_simp; try with_reducible rfl⟩) ?_
              try simp only [Act.put, List.setIfInBounds_toArray, List.set_cons_zero, List.set_cons_succ]
              refine any_take 8 _ _ rfl (by kernel_rfl) (by kernel_rfl) (by kernel_rfl) hS (.inl ⟨by rfl, fun W hS => by clear hS; go_simp; try with_reducible rfl⟩) ?_
              try simp only [Act.put, List.setIfInBounds_toArray, List.set_cons_zero, List.set_cons_succ]
              refine any_take 9 _ _ rfl (by kernel_rfl) (by kernel_rfl) (by kernel_rfl) hS (.inl ⟨by rfl, fun W hS => by clear hS; go_simp; try with_reducible rfl⟩) ?_
              try simp only [Act.put, List.setIfInBounds_toArray, List.set_cons_zero, List.set_cons_succ]
              refine any_two 10 11 (by kernel_rfl) ?_ ?_
              · try have hne := Nat.ne_of_lt hA.lt
                try have hne := Nat.ne_of_lt hB.lt
                refine any_alloc_has _ rfl (by rfl) 29 rfl (balC bal0) bal_zero (hS.alloc _ _) ?_
                try simp only [Act.put, List.setIfInBounds_toArray, List.set_cons_zero, List.set_cons_succ]
                obtain ⟨wm, hwm, hNew, hq⟩ := one_var wn 29 (balC bal0)
                rw [hwm]
                have hgd : zq ≤ wn.heap.size := hsz
                try replace hA := hA.later hq
                try replace hB := hB.later hq
                replace hsz := Nat.le_trans hsz hq.size
                replace hT := hT.later hq
                replace hS := hS.later hq
                have hA := hNew
                clear hq hwm hNew
                generalize wn.heap.size = gd at *
                obtain ⟨wn, hwn⟩ : ∃ W, W = wm := ⟨_, rfl⟩
                subst hwn
                refine any_one 11 (by kernel_rfl) ?_
                try have hne := Nat.ne_of_lt hA.lt
                try have hne := Nat.ne_of_lt hB.lt
                refine any_alloc_has _ rfl (by rfl) 31 rfl (incC inc0) inc_zero (hS.alloc _ _) ?_
                try simp only [Act.put, List.setIfInBounds_toArray, List.set_cons_zero, List.set_cons_succ]
                obtain ⟨wm, hwm, hNew, hq⟩ := one_var wn 31 (incC inc0)
                rw [hwm]
                have hge : zq ≤ wn.heap.size := hsz
                try replace hA := hA.later hq
                try replace hB := hB.later hq
                replace hsz := Nat.le_trans hsz hq.size
                replace hT := hT.later hq
                replace hS := hS.later hq
                have hB := hNew
                clear hq hwm hNew
                generalize wn.heap.size = ge at *
                obtain ⟨wn, hwn⟩ : ∃ W, W = wm := ⟨_, rfl⟩
                subst hwn
                have hne1 : gd ≠ ge := by first | exact hne | exact hne.symm
                have hA1 := hA.row (balC bal0)
                have hB1 := hB.row_other (k := gd) (fun e => hne1 e.symm) (balC bal0)
                have hgp : ∀ j, j < 3 → p j ≠ gd := fun j hj => by have := hlow j hj; omega
                have hgq : ∀ j, j < 3 → p j ≠ ge := fun j hj => by have := hlow j hj; omega
                have hT1 := hT.row_other hgp (balC bal0)
                have hT2 := hT1.row_other hgq (incC inc0)
                have hgS : ∀ e ∈ [(w.heap.size, 51, arr2 k0 k1), (gb, 29, balC b), (ga, 52, arrpC p)], e.1 ≠ gd := hApz gd hgd
                have hgU : ∀ e ∈ [(w.heap.size, 51, arr2 k0 k1), (gb, 29, balC b), (ga, 52, arrpC p)], e.1 ≠ ge := hApz ge hge
                have hS1 := hS.row_other gd (by omega) hgS (balC bal0)
                have hS2 := hS1.row_other ge (by omega) hgU (incC inc0)
                refine any_one 12 (by kernel_rfl) ?_
                refine any_store_has _ rfl (by rfl) 29 _ _ rfl gd rfl (balC bal0) rfl 29 (balC bal0) (bal_size _) rfl (bal_one _) hA hS1 ?_
                try simp only [Act.put, List.setIfInBounds_toArray, List.set_cons_zero, List.set_cons_succ]
                refine any_one 13 (by kernel_rfl) ?_
                refine any_store_has _ rfl (by rfl) 31 _ _ rfl ge rfl (incC inc0) rfl 31 (incC inc0) (inc_size _) rfl (inc_one _) hB1 hS2 ?_
                try simp only [Act.put, List.setIfInBounds_toArray, List.set_cons_zero, List.set_cons_succ]
                clear hT hT1 hA hB hA1 hB1 hS1
                replace hS := hS2
                refine any_take 14 _ _ rfl (by kernel_rfl) (by kernel_rfl) (by kernel_rfl) hS (.inl ⟨by rfl, fun W hS => by clear hS; go_simp; try with_reducible rfl⟩) ?_
                try simp only [Act.put, List.setIfInBounds_toArray, List.set_cons_zero, List.set_cons_succ]
                refine any_take 15 _ _ rfl (by kernel_rfl) (by kernel_rfl) (by kernel_rfl) hS (.inl ⟨by rfl, fun W hS => by clear hS; go_simp; try with_reducible rfl⟩) ?_
                try simp only [Act.put, List.setIfInBounds_toArray, List.set_cons_zero, List.set_cons_succ]
                refine any_done (by kernel_rfl) ?_
                refine mid_done ?_
                exact ⟨gd, ge, by simp only [Act.put, List.setIfInBounds_toArray, List.set_cons_zero, List.set_cons_succ] <;> rfl, hT2, hS⟩
              · try have hne := Nat.ne_of_lt hA.lt
                try have hne := Nat.ne_of_lt hB.lt
                refine any_alloc_has _ rfl (by rfl) 31 rfl (incC inc0) inc_zero (hS.alloc _ _) ?_
                try simp only [Act.put, List.setIfInBounds_toArray, List.set_cons_zero, List.set_cons_succ]
                obtain ⟨wm, hwm, hNew, hq⟩ := one_var wn 31 (incC inc0)
                rw [hwm]
                have hge : zq ≤ wn.heap.size := hsz
                try replace hA := hA.later hq
                try replace hB := hB.later hq
                replace hsz := Nat.le_trans hsz hq.size
                replace hT := hT.later hq
                replace hS := hS.later hq
                have hB := hNew
                clear hq hwm hNew
                generalize wn.heap.size = ge at *
                obtain ⟨wn, hwn⟩ : ∃ W, W = wm := ⟨_, rfl⟩
                subst hwn
                refine any_one 10 (by kernel_rfl) ?_
                try have hne := Nat.ne_of_lt hA.lt
                try have hne := Nat.ne_of_lt hB.lt
                refine any_alloc_has _ rfl (by rfl) 29 rfl (balC bal0) bal_zero (hS.alloc _ _) ?_
                try simp only [Act.put, List.setIfInBounds_toArray, List.set_cons_zero, List.set_cons_succ]
                obtain ⟨wm, hwm, hNew, hq⟩ := one_var wn 29 (balC bal0)
                rw [hwm]
                have hgd : zq ≤ wn.heap.size := hsz
                try replace hA := hA.later hq
                try replace hB := hB.later hq
                replace hsz := Nat.le_trans hsz hq.size
                replace hT := hT.later hq
                replace hS := hS.later hq
                have hA := hNew
                clear hq hwm hNew
                generalize wn.heap.size = gd at *
                obtain ⟨wn, hwn⟩ : ∃ W, W = wm := ⟨_, rfl⟩
                subst hwn
                have hne1 : gd ≠ ge := by first | exact hne | exact hne.symm
                have hA1 := hA.row (balC bal0)
                have hB1 := hB.row_other (k := gd) (fun e => hne1 e.symm) (balC bal0)
                have hgp : ∀ j, j < 3 → p j ≠ gd := fun j hj => by have := hlow j hj; omega
                have hgq : ∀ j, j < 3 → p j ≠ ge := fun j hj => by have := hlow j hj; omega
                have hT1 := hT.row_other hgp (balC bal0)
                have hT2 := hT1.row_other hgq (incC inc0)
                have hgS : ∀ e ∈ [(w.heap.size, 51, arr2 k0 k1), (gb, 29, balC b), (ga, 52, arrpC p)], e.1 ≠ gd := hApz gd hgd
                have hgU : ∀ e ∈ [(w.heap.size, 51, arr2 k0 k1), (gb, 29, balC b), (ga, 52, arrpC p)], e.1 ≠ ge := hApz ge hge
                have hS1 := hS.row_other gd (by omega) hgS (balC bal0)
                have hS2 := hS1.row_other ge (by omega) hgU (incC inc0)
                refine any_one 12 (by kernel_rfl) ?_
                refine any_store_has _ rfl (by rfl) 29 _ _ rfl gd rfl (balC bal0) rfl 29 (balC bal0) (bal_size _) rfl (bal_one _) hA hS1 ?_
                try simp only [Act.put, List.setIfInBounds_toArray, List.set_cons_zero, List.set_cons_succ]
                refine any_one 13 (by kernel_rfl) ?_
                refine any_store_has _ rfl (by rfl) 31 _ _ rfl ge rfl (incC inc0) rfl 31 (incC inc0) (inc_size _) rfl (inc_one _) hB1 hS2 ?_
                try simp only [Act.put, List.setIfInBounds_toArray, List.set_cons_zero, List.set_cons_succ]
                clear hT hT1 hA hB hA1 hB1 hS1
                replace hS := hS2
                refine any_take 14 _ _ rfl (by kernel_rfl) (by kernel_rfl) (by kernel_rfl) hS (.inl ⟨by rfl, fun W hS => by clear hS; go_simp; try with_reducible rfl⟩) ?_
                try simp only [Act.put, List.setIfInBounds_toArray, List.set_cons_zero, List.set_cons_succ]
                refine any_take 15 _ _ rfl (by kernel_rfl) (by kernel_rfl) (by kernel_rfl) hS (.inl ⟨by rfl, fun W hS => by clear hS; go_simp; try with_reducible rfl⟩) ?_
                try simp only [Act.put, List.setIfInBounds_toArray, List.set_cons_zero, List.set_cons_succ]
                refine any_done (by kernel_rfl) ?_
                refine mid_done ?_
                exact ⟨gd, ge, by simp only [Act.put, List.setIfInBounds_toArray, List.set_cons_zero, List.set_cons_succ] <;> rfl, hT2, hS⟩
            · try have hne := Nat.ne_of_lt hA.lt
              try have hne := Nat.ne_of_lt hB.lt
              refine any_alloc_has _ rfl (by rfl) 29 rfl (balC bal0) bal_zero (hS.alloc _ _) ?_
              try simp only [Act.put, List.setIfInBounds_toArray, List.set_cons_zero, List.set_cons_succ]
              obtain ⟨wm, hwm, hNew, hq⟩ := one_var wn 29 (balC bal0)
              rw [hwm]
              have hgd : zq ≤ wn.heap.size := hsz
              try replace hA := hA.later hq
              try replace hB := hB.later hq
              replace hsz := Nat.le_trans hsz hq.size
              replace hT := hT.later hq
              replace hS := hS.later hq
              have hA := hNew
              clear hq hwm hNew
              generalize wn.heap.size = gd at *
              obtain ⟨wn, hwn⟩ : ∃ W, W = wm := ⟨_, rfl⟩
              subst hwn
              refine any_two 4 11 (by kernel_rfl) ?_ ?_
              · refine any_run _ rfl (fun K hK => ?_)
                go_simp
                refine (hc _ (hsta ▸ hT.at' r1 hi3)).mono ?_
                rintro en wm ⟨rfl, hAm, hq⟩
                try replace hA := hq.has hA (by have := hlow r1 hi3; omega)
                try replace hB := hq.has hB (by have := hlow r1 hi3; omega)
                replace hsz := Nat.le_trans hsz hq.size
                replace hT := hT.but hLie hi3 hAm hbok hq
                replace hS := hS.but hq (hLi r1 hi3) (hP r1 hi3)
                refine hK.out _ _ hS ?_
                clear hK K hq hAm
                try simp only [Act.put, List.setIfInBounds_toArray, List.set_cons_zero, List.set_cons_succ]
                obtain ⟨wn, hwn⟩ : ∃ W, W = wm := ⟨_, rfl⟩
                subst hwn
                refine any_take 5 _ _ rfl (by kernel_rfl) (by kernel_rfl) (by kernel_rfl) hS (.inl ⟨by rfl, fun W hS => by clear hS; go_simp; try with_reducible rfl⟩) ?_
                try simp only [Act.put, List.setIfInBounds_toArray, List.set_cons_zero, List.set_cons_succ]
                refine any_take 6 _ _ rfl (by kernel_rfl) (by kernel_rfl) (by kernel_rfl) hS (.inl ⟨by rfl, fun W hS => by clear hS; go_simp; try with_reducible rfl⟩) ?_
                try simp only [Act.put, List.setIfInBounds_toArray, List.set_cons_zero, List.set_cons_succ]
                refine any_take 7 _ _ rfl (by kernel_rfl) (by kernel_rfl) (by kernel_rfl) hS (.inl ⟨by rfl, fun W hS => by clear hS; go_simp; try with_reducible rfl⟩) ?_
                try simp only [Act.put, List.setIfInBounds_toArray, List.set_cons_zero, List.set_cons_succ]
                refine any_take 8 _ _ rfl (by kernel_rfl) (by kernel_rfl) (by kernel_rfl) hS (.inl ⟨by rfl, fun W hS => by clear hS; go_simp; try with_reducible rfl⟩) ?_
                try simp only [Act.put, List.setIfInBounds_toArray, List.set_cons_zero, List.set_cons_succ]
                refine any_take 9 _ _ rfl (by kernel_rfl) (by kernel_rfl) (by kernel_rfl) hS (.inl ⟨by rfl, fun W hS => by clear hS; go_simp; try with_reducible rfl⟩) ?_
                try simp only [Act.put, List.setIfInBounds_toArray, List.set_cons_zero, List.set_cons_succ]
                refine any_one 11 (by kernel_rfl) ?_
                try have hne := Nat.ne_of_lt hA.lt
                try have hne := Nat.ne_of_lt hB.lt
                refine any_alloc_has _ rfl (by rfl) 31 rfl (incC inc0) inc_zero (hS.alloc _ _) ?_
                try simp only [Act.put, List.setIfInBounds_toArray, List.set_cons_zero, List.set_cons_succ]
                obtain ⟨wm, hwm, hNew, hq⟩ := one_var wn 31 (incC inc0)
                rw [hwm]
                have hge : zq ≤ wn.heap.size := hsz
                try replace hA := hA.later hq
                try replace hB := hB.later hq
                replace hsz := Nat.le_trans hsz hq.size
                replace hT := hT.later hq
                replace hS := hS.later hq
                have hB := hNew
                clear hq hwm hNew
                generalize wn.heap.size = ge at *
                obtain ⟨wn, hwn⟩ : ∃ W, W = wm := ⟨_, rfl⟩
                subst hwn
                have hne1 : gd ≠ ge := by first | exact hne | exact hne.symm
                have hA1 := hA.row (balC bal0)
                have hB1 := hB.row_other (k := gd) (fun e => hne1 e.symm) (balC bal0)
                have hgp : ∀ j, j < 3 → p j ≠ gd := fun j hj => by have := hlow j hj; omega
                have hgq : ∀ j, j < 3 → p j ≠ ge := fun j hj => by have := hlow j hj; omega
                have hT1 := hT.row_other hgp (balC bal0)
                have hT2 := hT1.row_other hgq (incC inc0)
                have hgS : ∀ e ∈ [(w.heap.size, 51, arr2 k0 k1), (gb, 29, balC b), (ga, 52, arrpC p)], e.1 ≠ gd := hApz gd hgd
                have hgU : ∀ e ∈ [(w.heap.size, 51, arr2 k0 k1), (gb, 29, balC b), (ga, 52, arrpC p)], e.1 ≠ ge := hApz ge hge
                have hS1 := hS.row_other gd (by omega) hgS (balC bal0)
                have hS2 := hS1.row_other ge (by omega) hgU (incC inc0)
                refine any_one 12 (by kernel_rfl) ?_
                refine any_store_has _ rfl (by rfl) 29 _ _ rfl gd rfl (balC bal0) rfl 29 (balC bal0) (bal_size _) rfl (bal_one _) hA hS1 ?_
                try simp only [Act.put, List.setIfInBounds_toArray, List.set_cons_zero, List.set_cons_succ]
                refine any_one 13 (by kernel_rfl) ?_
                refine any_store_has _ rfl (by rfl) 31 _ _ rfl ge rfl (incC inc0) rfl 31 (incC inc0) (inc_size _) rfl (inc_one _) hB1 hS2 ?_
                try simp only [Act.put, List.setIfInBounds_toArray, List.set_cons_zero, List.set_cons_succ]
                clear hT hT1 hA hB hA1 hB1 hS1
                replace hS := hS2
                refine any_take 14 _ _ rfl (by kernel_rfl) (by kernel_rfl) (by kernel_rfl) hS (.inl ⟨by rfl, fun W hS => by clear hS; go_simp; try with_reducible rfl⟩) ?_
                try simp only [Act.put, List.setIfInBounds_toArray, List.set_cons_zero, List.set_cons_succ]
                refine any_take 15 _ _ rfl (by kernel_rfl) (by kernel_rfl) (by kernel_rfl) hS (.inl ⟨by rfl, fun W hS => by clear hS; go_simp; try with_reducible rfl⟩) ?_
                try simp only [Act.put, List.setIfInBounds_toArray, List.set_cons_zero, List.set_cons_succ]
                refine any_done (by kernel_rfl) ?_
                refine mid_done ?_
                exact ⟨gd, ge, by simp only [Act.put, List.setIfInBounds_toArray, List.set_cons_zero, List.set_cons_succ] <;> rfl, hT2, hS⟩
              · try have hne := Nat.ne_of_lt hA.lt
                try have hne := Nat.ne_of_lt hB.lt
                refine any_alloc_has _ rfl (by rfl) 31 rfl (incC inc0) inc_zero (hS.alloc _ _) ?_
                try simp only [Act.put, List.setIfInBounds_toArray, List.set_cons_zero, List.set_cons_succ]
                obtain ⟨wm, hwm, hNew, hq⟩ := one_var wn 31 (incC inc0)
                rw [hwm]
                have hge : zq ≤ wn.heap.size := hsz
                try replace hA := hA.later hq
                try replace hB := hB.later hq
                replace hsz := Nat.le_trans hsz hq.size
                replace hT := hT.later hq
                replace hS := hS.later hq
                have hB := hNew
                clear hq hwm hNew
                generalize wn.heap.size = ge at *
                obtain ⟨wn, hwn⟩ : ∃ W, W = wm := ⟨_, rfl⟩
                subst hwn
                refine any_one 4 (by kernel_rfl) ?_
                refine any_run _ rfl (fun K hK => ?_)
                go_simp
                refine (hc _ (hsta ▸ hT.at' r1 hi3)).mono ?_
                rintro en wm ⟨rfl, hAm, hq⟩
                try replace hA := hq.has hA (by have := hlow r1 hi3; omega)
                try replace hB := hq.has hB (by have := hlow r1 hi3; omega)
                replace hsz := Nat.le_trans hsz hq.size
                replace hT := hT.but hLie hi3 hAm hbok hq
                replace hS := hS.but hq (hLi r1 hi3) (hP r1 hi3)
                refine hK.out _ _ hS ?_
                clear hK K hq hAm
                try simp only [Act.put, List.setIfInBounds_toArray, List.set_cons_zero, List.set_cons_succ]
                obtain ⟨wn, hwn⟩ : ∃ W, W = wm := ⟨_, rfl⟩
                subst hwn
                refine any_take 5 _ _ rfl (by kernel_rfl) (by kernel_rfl) (by kernel_rfl) hS (.inl ⟨by rfl, fun W hS => by clear hS; go_simp; try with_reducible rfl⟩) ?_
                try simp only [Act.put, List.setIfInBounds_toArray, List.set_cons_zero, List.set_cons_succ]
                refine any_take 6 _ _ rfl (by kernel_rfl) (by kernel_rfl) (by kernel_rfl) hS (.inl ⟨by rfl, fun W hS => by clear hS; go_simp; try with_reducible rfl⟩) ?_
                try simp only [Act.put, List.setIfInBounds_toArray, List.set_cons_zero, List.set_cons_succ]
                refine any_take 7 _ _ rfl (by kernel_rfl) (by kernel_rfl) (by kernel_rfl) hS (.inl ⟨by rfl, fun W hS => by clear hS; go_simp; try with_reducible rfl⟩) ?_
                try simp only [Act.put, List.setIfInBounds_toArray, List.set_cons_zero, List.set_cons_succ]
                refine any_take 8 _ _ rfl (by kernel_rfl) (by kernel_rfl) (by kernel_rfl) hS (.inl ⟨by rfl, fun W hS => by clear hS; go_simp; try with_reducible rfl⟩) ?_
                try simp only [Act.put, List.setIfInBounds_toArray, List.set_cons_zero, List.set_cons_succ]
                refine any_take 9 _ _ rfl (by kernel_rfl) (by kernel_rfl) (by kernel_rfl) hS (.inl ⟨by rfl, fun W hS => by clear hS; go_simp; try with_reducible rfl⟩) ?_
                try simp only [Act.put, List.setIfInBounds_toArray, List.set_cons_zero, List.set_cons_succ]
                have hne1 : gd ≠ ge := by first | exact hne | exact hne.symm
                have hA1 := hA.row (balC bal0)
                have hB1 := hB.row_other (k := gd) (fun e => hne1 e.symm) (balC bal0)
                have hgp : ∀ j, j < 3 → p j ≠ gd := fun j hj => by have := hlow j hj; omega
                have hgq : ∀ j, j < 3 → p j ≠ ge := fun j hj => by have := hlow j hj; omega
                have hT1 := hT.row_other hgp (balC bal0)
                have hT2 := hT1.row_other hgq (incC inc0)
                have hgS : ∀ e ∈ [(w.heap.size, 51, arr2 k0 k1), (gb, 29, balC b), (ga, 52, arrpC p)], e.1 ≠ gd := hApz gd hgd
                have hgU : ∀ e ∈ [(w.heap.size, 51, arr2 k0 k1), (gb, 29, balC b), (ga, 52, arrpC p)], e.1 ≠ ge := hApz ge hge
                have hS1 := hS.row_other gd (by omega) hgS (balC bal0)
                have hS2 := hS1.row_other ge (by omega) hgU (incC inc0)
                refine any_one 12 (by kernel_rfl) ?_
                refine any_store_has _ rfl (by rfl) 29 _ _ rfl gd rfl (balC bal0) rfl 29 (balC bal0) (bal_size _) rfl (bal_one _) hA hS1 ?_
                try simp only [Act.put, List.setIfInBounds_toArray, List.set_cons_zero, List.set_cons_succ]
                refine any_one 13 (by kernel_rfl) ?_
                refine any_store_has _ rfl (by rfl) 31 _ _ rfl ge rfl (incC inc0) rfl 31 (incC inc0) (inc_size _) rfl (inc_one _) hB1 hS2 ?_
                try simp only [Act.put, List.setIfInBounds_toArray, List.set_cons_zero, List.set_cons_succ]
                clear hT hT1 hA hB hA1 hB1 hS1
                replace hS := hS2
                refine any_take 14 _ _ rfl (by kernel_rfl) (by kernel_rfl) (by kernel_rfl) hS (.inl ⟨by rfl, fun W hS => by clear hS; go_simp; try with_reducible rfl⟩) ?_
                try simp only [Act.put, List.setIfInBounds_toArray, List.set_cons_zero, List.set_cons_succ]
                refine any_take 15 _ _ rfl (by kernel_rfl) (by kernel_rfl) (by kernel_rfl) hS (.inl ⟨by rfl, fun W hS => by clear hS; go_simp; try with_reducible rfl⟩) ?_
                try simp only [Act.put, List.setIfInBounds_toArray, List.set_cons_zero, List.set_cons_succ]
                refine any_done (by kernel_rfl) ?_
                refine mid_done ?_
                exact ⟨gd, ge, by simp only [Act.put, List.setIfInBounds_toArray, List.set_cons_zero, List.set_cons_succ] <;> rfl, hT2, hS⟩
            · try have hne := Nat.ne_of_lt hA.lt
              try have hne := Nat.ne_of_lt hB.lt
              refine any_alloc_has _ rfl (by rfl) 31 rfl (incC inc0) inc_zero (hS.alloc _ _) ?_
              try simp only [Act.put, List.setIfInBounds_toArray, List.set_cons_zero, List.set_cons_succ]
              obtain ⟨wm, hwm, hNew, hq⟩ := one_var wn 31 (incC inc0)
              rw [hwm]
              have hge : zq ≤ wn.heap.size := hsz
              try replace hA := hA.later hq
              try replace hB := hB.later hq
              replace hsz := Nat.le_trans hsz hq.size
              replace hT := hT.later hq
              replace hS := hS.later hq
              have hB := hNew
              clear hq hwm hNew
              generalize wn.heap.size = ge at *
              obtain ⟨wn, hwn⟩ : ∃ W, W = wm := ⟨_, rfl⟩
              subst hwn
              refine any_two 4 10 (by kernel_rfl) ?_ ?_
              · refine any_run _ rfl (fun K hK => ?_)
                go_simp
                refine (hc _ (hsta ▸ hT.at' r1 hi3)).mono ?_
                rintro en wm ⟨rfl, hAm, hq⟩
                try replace hA := hq.has hA (by have := hlow r1 hi3; omega)
                try replace hB := hq.has hB (by have := hlow r1 hi3; omega)
                replace hsz := Nat.le_trans hsz hq.size
                replace hT := hT.but hLie hi3 hAm hbok hq
                replace hS := hS.but hq (hLi r1 hi3) (hP r1 hi3)
                refine hK.out _ _ hS ?_
                clear hK K hq hAm
                try simp only [Act.put, List.setIfInBounds_toArray, List.set_cons_zero, List.set_cons_succ]
                obtain ⟨wn, hwn⟩ : ∃ W, W = wm := ⟨_, rfl⟩
                subst hwn
                refine any_take 5 _ _ rfl (by kernel_rfl) (by kernel_rfl) (by kernel_rfl) hS (.inl ⟨by rfl, fun W hS => by clear hS; go_simp; try with_reducible rfl⟩) ?_
                try simp only [Act.put, List.setIfInBounds_toArray, List.set_cons_zero, List.set_cons_succ]
                refine any_take 6 _ _ rfl (by kernel_rfl) (by kernel_rfl) (by kernel_rfl) hS (.inl ⟨by rfl, fun W hS => by clear hS; go_simp; try with_reducible rfl⟩) ?_
                try simp only [Act.put, List.setIfInBounds_toArray, List.set_cons_zero, List.set_cons_succ]
                refine any_take 7 _ _ rfl (by kernel_rfl) (by kernel_rfl) (by kernel_rfl) hS (.inl ⟨by rfl, fun W hS => by clear hS; go_simp; try with_reducible rfl⟩) ?_
                try simp only [Act.put, List.setIfInBounds_toArray, List.set_cons_zero, List.set_cons_succ]
                refine any_take 8 _ _ rfl (by kernel_rfl) (by kernel_rfl) (by kernel_rfl) hS (.inl ⟨by rfl, fun W hS => by clear hS; go_simp; try with_reducible rfl⟩) ?_
                try simp only [Act.put, List.setIfInBounds_toArray, List.set_cons_zero, List.set_cons_succ]
                refine any_take 9 _ _ rfl (by kernel_rfl) (by kernel_rfl) (by kernel_rfl) hS (.inl ⟨by rfl, fun W hS => by clear hS; go_simp; try with_reducible rfl⟩) ?_
                try simp only [Act.put, List.setIfInBounds_toArray, List.set_cons_zero, List.set_cons_succ]
                refine any_one 10 (by kernel_rfl) ?_
                try have hne := Nat.ne_of_lt hA.lt
                try have hne := Nat.ne_of_lt hB.lt
                refine any_alloc_has _ rfl (by rfl) 29 rfl (balC bal0) bal_zero (hS.alloc _ _) ?_
                try simp only [Act.put, List.setIfInBounds_toArray, List.set_cons_zero, List.set_cons_succ]
                obtain ⟨wm, hwm, hNew, hq⟩ := one_var wn 29 (balC bal0)
                rw [hwm]
                have hgd : zq ≤ wn.heap.size := hsz
                try replace hA := hA.later hq
                try replace hB := hB.later hq
                replace hsz := Nat.le_trans hsz hq.size
                replace hT := hT.later hq
                replace hS := hS.later hq
                have hA := hNew
                clear hq hwm hNew
                generalize wn.heap.size = gd at *
                obtain ⟨wn, hwn⟩ : ∃ W, W = wm := ⟨_, rfl⟩
                subst hwn
                have hne1 : gd ≠ ge := by first | exact hne | exact hne.symm
                have hA1 := hA.row (balC bal0)
                have hB1 := hB.row_other (k := gd) (fun e => hne1 e.symm) (balC bal0)
                have hgp : ∀ j, j < 3 → p j ≠ gd := fun j hj => by have := hlow j hj; omega
                have hgq : ∀ j, j < 3 → p j ≠ ge := fun j hj => by have := hlow j hj; omega
                have hT1 := hT.row_other hgp (balC bal0)
                have hT2 := hT1.row_other hgq (incC inc0)
                have hgS : ∀ e ∈ [(w.heap.size, 51, arr2 k0 k1), (gb, 29, balC b), (ga, 52, arrpC p)], e.1 ≠ gd := hApz gd hgd
                have hgU : ∀ e ∈ [(w.heap.size, 51, arr2 k0 k1), (gb, 29, balC b), (ga, 52, arrpC p)], e.1 ≠ ge := hApz ge hge
                have hS1 := hS.row_other gd (by omega) hgS (balC bal0)
                have hS2 := hS1.row_other ge (by omega) hgU (incC inc0)
                refine any_one 12 (by kernel_rfl) ?_
                refine any_store_has _ rfl (by rfl) 29 _ _ rfl gd rfl (balC bal0) rfl 29 (balC bal0) (bal_size _) rfl (bal_one _) hA hS1 ?_
                try simp only [Act.put, List.setIfInBounds_toArray, List.set_cons_zero, List.set_cons_succ]
                refine any_one 13 (by kernel_rfl) ?_
                refine any_store_has _ rfl (by rfl) 31 _ _ rfl ge rfl (incC inc0) rfl 31 (incC inc0) (inc_size _) rfl (inc_one _) hB1 hS2 ?_
                try simp only [Act.put, List.setIfInBounds_toArray, List.set_cons_zero, List.set_cons_succ]
                clear hT hT1 hA hB hA1 hB1 hS1
                replace hS := hS2
                refine any_take 14 _ _ rfl (by kernel_rfl) (by kernel_rfl) (by kernel_rfl) hS (.inl ⟨by rfl, fun W hS => by clear hS; go_simp; try with_reducible rfl⟩) ?_
                try simp only [Act.put, List.setIfInBounds_toArray, List.set_cons_zero, List.set_cons_succ]
                refine any_take 15 _ _ rfl (by kernel_rfl) (by kernel_rfl) (by kernel_rfl) hS (.inl ⟨by rfl, fun W hS => by clear hS; go_simp; try with_reducible rfl⟩) ?_
                try simp only [Act.put, List.setIfInBounds_toArray, List.set_cons_zero, List.set_cons_succ]
                refine any_done (by kernel_rfl) ?_
                refine mid_done ?_
                exact ⟨gd, ge, by simp only [Act.put, List.setIfInBounds_toArray, List.set_cons_zero, List.set_cons_succ] <;> rfl, hT2, hS⟩
              · try have hne := Nat.ne_of_lt hA.lt
                try have hne := Nat.ne_of_lt hB.lt
                refine any_alloc_has _ rfl (by rfl) 29 rfl (balC bal0) bal_zero (hS.alloc _ _) ?_
                try simp only [Act.put, List.setIfInBounds_toArray, List.set_cons_zero, List.set_cons_succ]
                obtain ⟨wm, hwm, hNew, hq⟩ := one_var wn 29 (balC bal0)
                rw [hwm]
                have hgd : zq ≤ wn.heap.size := hsz
                try replace hA := hA.later hq
                try replace hB := hB.later hq
                replace hsz := Nat.le_trans hsz hq.size
                replace hT := hT.later hq
                replace hS := hS.later hq
                have hA := hNew
                clear hq hwm hNew
                generalize wn.heap.size = gd at *
                obtain ⟨wn, hwn⟩ : ∃ W, W = wm := ⟨_, rfl⟩
                subst hwn
                refine any_one 4 (by kernel_rfl) ?_
                refine any_run _ rfl (fun K hK => ?_)
                go_simp
                refine (hc _ (hsta ▸ hT.at' r1 hi3)).mono ?_
                rintro en wm ⟨rfl, hAm, hq⟩
                try replace hA := hq.has hA (by have := hlow r1 hi3; omega)
                try replace hB := hq.has hB (by have := hlow r1 hi3; omega)
                replace hsz := Nat.le_trans hsz hq.size
                replace hT := hT.but hLie hi3 hAm hbok hq
                replace hS := hS.but hq (hLi r1 hi3) (hP r1 hi3)
                refine hK.out _ _ hS ?_
                clear hK K hq hAm
                try simp only [Act.put, List.setIfInBounds_toArray, List.set_cons_zero, List.set_cons_succ]
                obtain ⟨wn, hwn⟩ : ∃ W, W = wm := ⟨_, rfl⟩
                subst hwn
                refine any_take 5 _ _ rfl (by kernel_rfl) (by kernel_rfl) (by kernel_rfl) hS (.inl ⟨by rfl, fun W hS => by clear hS; go_simp; try with_reducible rfl⟩) ?_
                try simp only [Act.put, List.setIfInBounds_toArray, List.set_cons_zero, List.set_cons_succ]
                refine any_take 6 _ _ rfl (by kernel_rfl) (by kernel_rfl) (by kernel_rfl) hS (.inl ⟨by rfl, fun W hS => by clear hS; go_simp; try with_reducible rfl⟩) ?_
                try simp only [Act.put, List.setIfInBounds_toArray, List.set_cons_zero, List.set_cons_succ]
                refine any_take 7 _ _ rfl (by kernel_rfl) (by kernel_rfl) (by kernel_rfl) hS (.inl ⟨by rfl, fun W hS => by clear hS; go_simp; try with_reducible rfl⟩) ?_
                try simp only [Act.put, List.setIfInBounds_toArray, List.set_cons_zero, List.set_cons_succ]
                refine any_take 8 _ _ rfl (by kernel_rfl) (by kernel_rfl) (by kernel_rfl) hS (.inl ⟨by rfl, fun W hS => by clear hS; go_simp; try with_reducible rfl⟩) ?_
                try simp only [Act.put, List.setIfInBounds_toArray, List.set_cons_zero, List.set_cons_succ]
                refine any_take 9 _ _ rfl (by kernel_rfl) (by kernel_rfl) (by kernel_rfl) hS (.inl ⟨by rfl, fun W hS => by clear hS; go_simp; try with_reducible rfl⟩) ?_
                try simp only [Act.put, List.setIfInBounds_toArray, List.set_cons_zero, List.set_cons_succ]
                have hne1 : gd ≠ ge := by first | exact hne | exact hne.symm
                have hA1 := hA.row (balC bal0)
                have hB1 := hB.row_other (k := gd) (fun e => hne1 e.symm) (balC bal0)
                have hgp : ∀ j, j < 3 → p j ≠ gd := fun j hj => by have := hlow j hj; omega
                have hgq : ∀ j, j < 3 → p j ≠ ge := fun j hj => by have := hlow j hj; omega
                have hT1 := hT.row_other hgp (balC bal0)
                have hT2 := hT1.row_other hgq (incC inc0)
                have hgS : ∀ e ∈ [(w.heap.size, 51, arr2 k0 k1), (gb, 29, balC b), (ga, 52, arrpC p)], e.1 ≠ gd := hApz gd hgd
                have hgU : ∀ e ∈ [(w.heap.size, 51, arr2 k0 k1), (gb, 29, balC b), (ga, 52, arrpC p)], e.1 ≠ ge := hApz ge hge
                have hS1 := hS.row_other gd (by omega) hgS (balC bal0)
                have hS2 := hS1.row_other ge (by omega) hgU (incC inc0)
                refine any_one 12 (by kernel_rfl) ?_
                refine any_store_has _ rfl (by rfl) 29 _ _ rfl gd rfl (balC bal0) rfl 29 (balC bal0) (bal_size _) rfl (bal_one _) hA hS1 ?_
                try simp only [Act.put, List.setIfInBounds_toArray, List.set_cons_zero, List.set_cons_succ]
                refine any_one 13 (by kernel_rfl) ?_
                refine any_store_has _ rfl (by rfl) 31 _ _ rfl ge rfl (incC inc0) rfl 31 (incC inc0) (inc_size _) rfl (inc_one _) hB1 hS2 ?_
                try simp only [Act.put, List.setIfInBounds_toArray, List.set_cons_zero, List.set_cons_succ]
                clear hT hT1 hA hB hA1 hB1 hS1
                replace hS := hS2
                refine any_take 14 _ _ rfl (by kernel_rfl) (by kernel_rfl) (by kernel_rfl) hS (.inl ⟨by rfl, fun W hS => by clear hS; go_simp; try with_reducible rfl⟩) ?_
                try simp only [Act.put, List.setIfInBounds_toArray, List.set_cons_zero, List.set_cons_succ]
                refine any_take 15 _ _ rfl (by kernel_rfl) (by kernel_rfl) (by kernel_rfl) hS (.inl ⟨by rfl, fun W hS => by clear hS; go_simp; try with_reducible rfl⟩) ?_
                try simp only [Act.put, List.setIfInBounds_toArray, List.set_cons_zero, List.set_cons_succ]
                refine any_done (by kernel_rfl) ?_
                refine mid_done ?_
                exact ⟨gd, ge, by simp only [Act.put, List.setIfInBounds_toArray, List.set_cons_zero, List.set_cons_succ] <;> rfl, hT2, hS⟩
          · rintro _ w10 ⟨gd, ge, rfl, hT, hE⟩
            try simp only [Act.put, List.setIfInBounds_toArray, List.set_cons_zero, List.set_cons_succ]
            clear F8
            go_wp2
            go_roundw
            case rel => exact ⟨1 + 1, by omega, by go_num, hT.same _ (fun j _ => hnx j), hE⟩
            case measure => simp [intOf]
      · have hkI : (2 : Int) ≤ (k : Int) := by omega
        have hstx : stK b r0 r1 k r0 = ⟨b, bal0, inc0⟩ := by unfold stK; rw [if_pos (by omega)]
        have hsty : stK b r0 r1 k r1 = ⟨b, bal0, inc0⟩ := by unfold stK; rw [if_pos (by omega)]
        generalize stK b r0 r1 k = st0 at *
        go_wp2
        clear hkI
        obtain ⟨z, hz3, hzx, hzy, hz⟩ := third (show r0 < 3 by omega) hy3 hxy
        replace hz : Hid _ := hz
        replace hP : Hid _ := hP
        replace hstx : Hid _ := hstx
        replace hsty : Hid _ := hsty
        go_loopw [17] (fun i wr => ∃ (n' : Nat) (st : Nat → AccV), n' ≤ l.length ∧ i = .int .i64 n' ∧ Trio wr p st ∧ st r0 = ⟨b, bal0, inc0⟩ ∧ st r1 = ⟨b, bal0, inc0⟩ ∧ Env w wr [(w.heap.size, 51, arr2 k0 k1), (gb, 29, balC b), (ga, 52, arrpC p)]) (fun i _ => l.length - (intOf i).toNat)
        case atStart => exact ⟨0, st0, Nat.zero_le _, rfl, hT, hstx.out, hsty.out, hE⟩
        case round =>
          clear hT hstx hsty hE
          obtain ⟨n', st, hn', rfl, hT, hsx, hsy, hE⟩ := hrel
          replace hsx : Hid _ := hsx
          replace hsy : Hid _ := hsy
          by_cases hlt : n' < l.length
          · have hnI : (n' : Int) < (l.length : Int) := by omega
            cases ao with
            | none => have h1 := hSl.nil rfl; omega
            | some ad =>
              have hsb := step_b (hSl.later hE.below) n' hlt
              have hs := hl l[n'] (List.getElem_mem hlt)
              generalize l[n'] = s at *
              obtain ⟨N, hN⟩ : ∃ N, s.b.n % m = N := ⟨_, rfl⟩
              have hNb : N < m := by rw [← hN]; exact Nat.mod_lt _ (by omega)
              obtain ⟨N1, hN1⟩ : ∃ k, N + 1 = k := ⟨_, rfl⟩
              have hN1b : N1 ≤ 1004 := by omega
              obtain ⟨r, hr⟩ : ∃ r, s.b.who % 3 = r := ⟨_, rfl⟩
              have hrb : r < 3 := by omega
              obtain ⟨cc, hcc⟩ : ∃ cc : BalV, cc = ⟨N1, r⟩ := ⟨_, rfl⟩
              have hcco : BalOk cc := hcc ▸ ⟨by show N1 < _; omega, by show r < _; omega⟩
              have hci : isB cc = true := hcc ▸ isB_of (by omega) hrb
              have hsbn := hs.b.n
              have hsbw := hs.b.who
              replace hN : Hid _ := hN
              replace hN1 : Hid _ := hN1
              replace hr : Hid _ := hr
              have hlow : ∀ j, j < 3 → p j ≠ wr.heap.size := fun j hj => by have := (hT.at' j hj).lt; omega
              have hng := hE.ne (Nat.le_refl wr.heap.size)
              have hbs := hE.below.size
              obtain ⟨w11, hw11, hC, hq⟩ := new_var wr 29 (balC bal0) (balC s.b)
              replace hE := hE.later hq
              replace hT := hT.later hq
              obtain ⟨c0, c1⟩ := bal_cells hC
              have f1 := hC.free
              have hC2 : Has (w11.setCell ⟨wr.heap.size, 1, none⟩ (.int .u8 (r : Int))) wr.heap.size 29 (balC ⟨s.b.n, r⟩) := hC.set 1 (.int .u8 (r : Int))
              have hq2 : But wr.heap.size w11 (w11.setCell ⟨wr.heap.size, 1, none⟩ (.int .u8 (r : Int))) := but_setCells [.int .u8 (r : Int)] 1
              obtain ⟨w12, hw12⟩ : ∃ W, w11.setCell ⟨wr.heap.size, 1, none⟩ (.int .u8 (r : Int)) = W := ⟨_, rfl⟩
              rw [hw12] at hC2 hq2
              replace hE := hE.but hq2 hbs hng
              replace hT := hT.apart hq2 hlow
              obtain ⟨d0, d1⟩ := bal_cells hC2
              have f2 := hC2.free
              have cb : w12.cell? ⟨gb, 0, none⟩ = some (.int .u32 (m : Int)) := by
                have := (hE.get 1 rfl).cell 0
                rw [hbe.out] at this
                exact this
              have hC3 : Has (w12.setCell ⟨wr.heap.size, 0, none⟩ (.int .u32 (N1 : Int))) wr.heap.size 29 (balC ⟨N1, r⟩) := hC2.set 0 (.int .u32 (N1 : Int))
              have hq3 : But wr.heap.size w12 (w12.setCell ⟨wr.heap.size, 0, none⟩ (.int .u32 (N1 : Int))) := but_setCells [.int .u32 (N1 : Int)] 0
              obtain ⟨w13, hw13⟩ : ∃ W, w12.setCell ⟨wr.heap.size, 0, none⟩ (.int .u32 (N1 : Int)) = W := ⟨_, rfl⟩
              rw [hw13] at hC3 hq3
              replace hE := hE.but hq3 hbs hng
              replace hT := hT.apart hq3 hlow
              rw [← hcc] at hC3
              clear hC hC2 hq hq2 hq3
              replace hcc : Hid _ := hcc
              have hB3 := hE.get 1 rfl
              go_wp2_with ((with_reducible refine at_opn ?_); first
                | (refine wpList_load_any (by rfl) 29 _ rfl _ rfl (balC s.b).toList _ ?hg Try.underlying29 rfl (bal_size s.b) ?_; (case hg => exact hsb))
                | (refine alloc_bal (by rfl) rfl ?_)
                | (refine store_bal s.b bal0 (by rfl) _ _ rfl wr.heap.size rfl rfl ?hg ?_; (case hg => exact Has.new _ _ _); rw [hw11])
                | (refine wpList_val (.int .u8 (r : Int)) (by rfl) (run_rem_u8 _ _ _ _ rfl s.b.who 3 r rfl rfl hsbw (by decide) hr.out) ?_)
                | (refine wpList_val (.int .u32 (N : Int)) (by rfl) (run_rem_n32 _ _ _ _ rfl s.b.n m N rfl rfl hsbn (by omega) hN.out) ?_)
                | (refine wpList_val (.int .u32 (N1 : Int)) (by rfl) (run_add_n32 _ _ _ _ rfl N 1 N1 rfl rfl hN1.out (by omega)) ?_)
                | (refine load_bal cc (by rfl) _ rfl wr.heap.size rfl ?hg ?_; (case hg => exact hC3))
                | (refine load_bal b (by rfl) _ rfl gb rfl ?hg ?_; (case hg => exact hB3)))
              clear hw11 hw12 hw13 c0 c1 d0 d1 f1 f2 cb hB3 hsb
              generalize wr.heap.size = gc at *
              have hl1 := less_any cc b w13 hcco hbo
              cases hlb : lessB cc b with
              | false =>
                rw [hlb] at hl1
                refine hl1.mono ?_
                rintro e w14 ⟨rfl, hq⟩
                replace hE := hE.later hq
                replace hT := hT.later hq
                clear hl1 hq hlb
                go_wp2
                go_roundw
                case rel => exact ⟨n' + 1, st, by omega, by go_num, hT, hsx.out, hsy.out, hE⟩
                case measure => simp [intOf]; omega
              | true =>
                rw [hlb] at hl1
                refine hl1.mono ?_
                rintro e w14 ⟨rfl, hq⟩
                replace hE := (hE.later hq).add (hC3.later hq)
                replace hT := hT.later hq
                replace hP : ∀ j, j < 3 → Apart (p j) [(w.heap.size, 51, arr2 k0 k1), (gb, 29, balC b), (ga, 52, arrpC p), (gc, 29, balC cc)] := fun j hj => (hP.out j hj).add (Ne.symm (hlow j hj)) 29 (balC cc)
                replace hP : Hid _ := hP
                have hnk : Hid _ := acc_nack ⟨b, bal0, inc0⟩ cc ⟨4, 0, 0⟩ none_is hci hlb
                have hbok : AccOk ⟨b, bal0, inc0⟩ := ⟨hbo, bal0_ok, inc0_ok⟩
                clear hl1 hq hlb hC3 hng hlow
                go_wp2
                go_loopw [19, 20] (fun g k wr => ∃ (kk gg : Nat) (st' : Nat → AccV), kk ≤ 3 ∧ k = .int .i64 kk ∧ g = .int .i64 gg ∧ gg ≤ 1 ∧ (kk ≤ z → gg = 0) ∧ Trio wr p st' ∧ st' r0 = ⟨b, bal0, inc0⟩ ∧ st' r1 = ⟨b, bal0, inc0⟩ ∧ Env w wr [(w.heap.size, 51, arr2 k0 k1), (gb, 29, balC b), (ga, 52, arrpC p), (gc, 29, balC cc)]) (fun _ k _ => 3 - (intOf k).toNat)
                case atStart => exact ⟨0, 0, st, by decide, rfl, rfl, by decide, fun _ => rfl, hT, hsx.out, hsy.out, hE⟩
                case round =>
                  clear hT hsx hsy hE
                  obtain ⟨kk, gg, st', hkk, rfl, rfl, hgg, hgz, hT, hsx, hsy, hE⟩ := hrel
                  replace hsx : Hid _ := hsx
                  replace hsy : Hid _ := hsy
                  replace hgz : Hid _ := hgz
                  by_cases hk3 : kk < 3
                  · have hkI : (kk : Int) < 3 := by omega
                    have hS := hE.drew
                    replace hT := hT.drew
                    have hac := accept_any (p kk) (st' kk) cc ⟨4, 0, 0⟩ _ (hT.at' kk hk3) (hT.ok kk hk3) hcco none_ok
                    have hgI : (gg : Int) ≤ 1 := by omega
                    rcases hz.out kk hk3 with hkx | hkx | hkx
                    · have hs1 : st' kk = ⟨b, bal0, inc0⟩ := by rw [hkx]; exact hsx.out
                      rw [hs1, hnk.out.1, hnk.out.2] at hac
                      replace hs1 : Hid _ := hs1
                      have hAok := hbok
                      have hkz : kk ≠ z := by omega
                      replace hkx : Hid _ := hkx
                      go_wp2
                      refine wp_region_plan (fun W => Env w W _) (Plan.of [(0, true), (1, true), (2, true), (3, true), (4, true), (5, false), (6, true)] .done) (by kernel_rfl) (by kernel_rfl) (by kernel_rfl) (by kernel_rfl) hS ?_
                      iterate 2
                        first
                          | (refine plan_pass _ rfl (by rfl) ?_)
                          | (refine plan_take _ _ rfl (.inl ⟨by rfl, fun W hS => by clear hS; go_simp; try with_reducible rfl⟩) ?_)
                        try simp only [Act.put, List.setIfInBounds_toArray, List.set_cons_zero, List.set_cons_succ]
                      refine plan_take _ (.pointer (some ⟨p kk, 0, none⟩)) rfl (.inl ⟨by rfl, fun W hW => by have z := arrp_at (hW.get 2 rfl) kk hk3; clear hW; go_simp; try with_reducible rfl⟩) ?_
                      try simp only [Act.put, List.setIfInBounds_toArray, List.set_cons_zero, List.set_cons_succ]
                      refine plan_take _ _ rfl (yields_bal cc (by rfl) _ rfl gc rfl (fun _ h => h.get 3 rfl)) ?_
                      try simp only [Act.put, List.setIfInBounds_toArray, List.set_cons_zero, List.set_cons_succ]
                      refine plan_take _ _ rfl (yields_build_inc1 4 (by rfl) _ rfl rfl) ?_
                      try simp only [Act.put, List.setIfInBounds_toArray, List.set_cons_zero, List.set_cons_succ]
                      refine plan_run _ rfl (fun K hK => ?_)
                      go_simp
                      refine hac.mono ?_
                      rintro e w15 ⟨rfl, hA15, hq⟩
                      replace hS := hS.but hq (hLie.low kk hk3) (hP.out kk hk3)
                      replace hT := hT.but hLie hk3 hA15 hAok hq
                      refine hK.out _ _ hS ?_
                      clear hK K hq hA15 hac
                      iterate 1
                        first
                          | (refine plan_pass _ rfl (by rfl) ?_)
                          | (refine plan_take _ _ rfl (.inl ⟨by rfl, fun W hS => by clear hS; go_simp; try with_reducible rfl⟩) ?_)
                        try simp only [Act.put, List.setIfInBounds_toArray, List.set_cons_zero, List.set_cons_succ]
                      refine plan_done ?_
                      replace hT := hT.same _ (fun j _ => upd_self hs1.out j)
                      go_wp2
                      go_roundw
                      case rel => exact ⟨kk + 1, gg, st', by omega, by go_num, rfl, hgg, fun h => hgz.out (by omega), hT, hsx.out, hsy.out, hS⟩
                      case measure => simp [intOf]; omega
                    · have hs1 : st' kk = ⟨b, bal0, inc0⟩ := by rw [hkx]; exact hsy.out
                      rw [hs1, hnk.out.1, hnk.out.2] at hac
                      replace hs1 : Hid _ := hs1
                      have hAok := hbok
                      have hkz : kk ≠ z := by omega
                      replace hkx : Hid _ := hkx
                      go_wp2
                      refine wp_region_plan (fun W => Env w W _) (Plan.of [(0, true), (1, true), (2, true), (3, true), (4, true), (5, false), (6, true)] .done) (by kernel_rfl) (by kernel_rfl) (by kernel_rfl) (by kernel_rfl) hS ?_
                      iterate 2
                        first
                          | (refine plan_pass _ rfl (by rfl) ?_)
                          | (refine plan_take _ _ rfl (.inl ⟨by rfl, fun W hS => by clear hS; go_simp; try with_reducible rfl⟩) ?_)
                        try simp only [Act.put, List.setIfInBounds_toArray, List.set_cons_zero, List.set_cons_succ]
                      refine plan_take _ (.pointer (some ⟨p kk, 0, none⟩)) rfl (.inl ⟨by rfl, fun W hW => by have z := arrp_at (hW.get 2 rfl) kk hk3; clear hW; go_simp; try with_reducible rfl⟩) ?_
                      try simp only [Act.put, List.setIfInBounds_toArray, List.set_cons_zero, List.set_cons_succ]
                      refine plan_take _ _ rfl (yields_bal cc (by rfl) _ rfl gc rfl (fun _ h => h.get 3 rfl)) ?_
                      try simp only [Act.put, List.setIfInBounds_toArray, List.set_cons_zero, List.set_cons_succ]
                      refine plan_take _ _ rfl (yields_build_inc1 4 (by rfl) _ rfl rfl) ?_
                      try simp only [Act.put, List.setIfInBounds_toArray, List.set_cons_zero, List.set_cons_succ]
                      refine plan_run _ rfl (fun K hK => ?_)
                      go_simp
                      refine hac.mono ?_
                      rintro e w15 ⟨rfl, hA15, hq⟩
                      replace hS := hS.but hq (hLie.low kk hk3) (hP.out kk hk3)
                      replace hT := hT.but hLie hk3 hA15 hAok hq
                      refine hK.out _ _ hS ?_
                      clear hK K hq hA15 hac
                      iterate 1
                        first
                          | (refine plan_pass _ rfl (by rfl) ?_)
                          | (refine plan_take _ _ rfl (.inl ⟨by rfl, fun W hS => by clear hS; go_simp; try with_reducible rfl⟩) ?_)
                        try simp only [Act.put, List.setIfInBounds_toArray, List.set_cons_zero, List.set_cons_succ]
                      refine plan_done ?_
                      replace hT := hT.same _ (fun j _ => upd_self hs1.out j)
                      go_wp2
                      go_roundw
                      case rel => exact ⟨kk + 1, gg, st', by omega, by go_num, rfl, hgg, fun h => hgz.out (by omega), hT, hsx.out, hsy.out, hS⟩
                      case measure => simp [intOf]; omega
                    · have hg0 : gg = 0 := hgz.out (by omega)
                      have hkne : kk ≠ r0 ∧ kk ≠ r1 := by omega
                      replace hkx : Hid _ := hkx
                      subst hg0
                      have hAok := accM_ok (hT.ok kk hk3) hcco none_ok
                      obtain ⟨E, hEe⟩ : ∃ E, errA (st' kk).pro cc ⟨4, 0, 0⟩ = E := ⟨_, rfl⟩
                      obtain ⟨A, hAe⟩ : ∃ A, accM (st' kk) cc ⟨4, 0, 0⟩ = A := ⟨_, rfl⟩
                      rw [hEe, hAe] at hac
                      rw [hAe] at hAok
                      clear hEe hAe
                      by_cases hE0 : E = 0
                      · subst hE0
                        go_wp2
                        refine wp_region_plan (fun W => Env w W _) (Plan.of [(0, true), (1, true), (2, true), (3, true), (4, true), (5, false), (6, true)] .done) (by kernel_rfl) (by kernel_rfl) (by kernel_rfl) (by kernel_rfl) hS ?_
                        iterate 2
                          first
                            | (refine plan_pass _ rfl (by rfl) ?_)
                            | (refine plan_take _ _ rfl (.inl ⟨by rfl, fun W hS => by clear hS; go_simp; try with_reducible rfl⟩) ?_)
                          try simp only [Act.put, List.setIfInBounds_toArray, List.set_cons_zero, List.set_cons_succ]
                        refine plan_take _ (.pointer (some ⟨p kk, 0, none⟩)) rfl (.inl ⟨by rfl, fun W hW => by have z := arrp_at (hW.get 2 rfl) kk hk3; clear hW; go_simp; try with_reducible rfl⟩) ?_
                        try simp only [Act.put, List.setIfInBounds_toArray, List.set_cons_zero, List.set_cons_succ]
                        refine plan_take _ _ rfl (yields_bal cc (by rfl) _ rfl gc rfl (fun _ h => h.get 3 rfl)) ?_
                        try simp only [Act.put, List.setIfInBounds_toArray, List.set_cons_zero, List.set_cons_succ]
                        refine plan_take _ _ rfl (yields_build_inc1 4 (by rfl) _ rfl rfl) ?_
                        try simp only [Act.put, List.setIfInBounds_toArray, List.set_cons_zero, List.set_cons_succ]
                        refine plan_run _ rfl (fun K hK => ?_)
                        go_simp
                        refine hac.mono ?_
                        rintro e w15 ⟨rfl, hA15, hq⟩
                        replace hS := hS.but hq (hLie.low kk hk3) (hP.out kk hk3)
                        replace hT := hT.but hLie hk3 hA15 hAok hq
                        refine hK.out _ _ hS ?_
                        clear hK K hq hA15 hac
                        iterate 1
                          first
                            | (refine plan_pass _ rfl (by rfl) ?_)
                            | (refine plan_take _ _ rfl (.inl ⟨by rfl, fun W hS => by clear hS; go_simp; try with_reducible rfl⟩) ?_)
                          try simp only [Act.put, List.setIfInBounds_toArray, List.set_cons_zero, List.set_cons_succ]
                        refine plan_done ?_
                        have hu1 : upd st' kk A r0 = ⟨b, bal0, inc0⟩ := by rw [upd_ne st' (Ne.symm hkne.1)]; exact hsx.out
                        have hu2 : upd st' kk A r1 = ⟨b, bal0, inc0⟩ := by rw [upd_ne st' (Ne.symm hkne.2)]; exact hsy.out
                        go_wp2
                        go_roundw
                        case rel => exact ⟨kk + 1, 1, upd st' kk A, by omega, by go_num, by go_num, by decide, fun h => absurd hkx.out (by omega), hT, hu1, hu2, hS⟩
                        case measure => simp [intOf]; omega
                      · have hEI : ¬ (E : Int) = 0 := by omega
                        have hEb : ((E : Int) == 0) = false := by rw [beq_eq_false_iff_ne]; exact hEI
                        go_wp2
                        refine wp_region_plan (fun W => Env w W _) (Plan.of [(0, true), (1, true), (2, true), (3, true), (4, true), (5, false), (6, true)] .done) (by kernel_rfl) (by kernel_rfl) (by kernel_rfl) (by kernel_rfl) hS ?_
                        iterate 2
                          first
                            | (refine plan_pass _ rfl (by rfl) ?_)
                            | (refine plan_take _ _ rfl (.inl ⟨by rfl, fun W hS => by clear hS; go_simp; try with_reducible rfl⟩) ?_)
                          try simp only [Act.put, List.setIfInBounds_toArray, List.set_cons_zero, List.set_cons_succ]
                        refine plan_take _ (.pointer (some ⟨p kk, 0, none⟩)) rfl (.inl ⟨by rfl, fun W hW => by have z := arrp_at (hW.get 2 rfl) kk hk3; clear hW; go_simp; try with_reducible rfl⟩) ?_
                        try simp only [Act.put, List.setIfInBounds_toArray, List.set_cons_zero, List.set_cons_succ]
                        refine plan_take _ _ rfl (yields_bal cc (by rfl) _ rfl gc rfl (fun _ h => h.get 3 rfl)) ?_
                        try simp only [Act.put, List.setIfInBounds_toArray, List.set_cons_zero, List.set_cons_succ]
                        refine plan_take _ _ rfl (yields_build_inc1 4 (by rfl) _ rfl rfl) ?_
                        try simp only [Act.put, List.setIfInBounds_toArray, List.set_cons_zero, List.set_cons_succ]
                        refine plan_run _ rfl (fun K hK => ?_)
                        go_simp
                        refine hac.mono ?_
                        rintro e w15 ⟨rfl, hA15, hq⟩
                        replace hS := hS.but hq (hLie.low kk hk3) (hP.out kk hk3)
                        replace hT := hT.but hLie hk3 hA15 hAok hq
                        refine hK.out _ _ hS ?_
                        clear hK K hq hA15 hac
                        iterate 1
                          first
                            | (refine plan_pass _ rfl (by rfl) ?_)
                            | (refine plan_take _ _ rfl (.inl ⟨by rfl, fun W hS => by clear hS; go_simp; try with_reducible rfl⟩) ?_)
                          try simp only [Act.put, List.setIfInBounds_toArray, List.set_cons_zero, List.set_cons_succ]
                        refine plan_done ?_
                        have hu1 : upd st' kk A r0 = ⟨b, bal0, inc0⟩ := by rw [upd_ne st' (Ne.symm hkne.1)]; exact hsx.out
                        have hu2 : upd st' kk A r1 = ⟨b, bal0, inc0⟩ := by rw [upd_ne st' (Ne.symm hkne.2)]; exact hsy.out
                        go_wp2
                        go_roundw
                        case rel => exact ⟨kk + 1, 0, upd st' kk A, by omega, by go_num, rfl, by decide, fun h => rfl, hT, hu1, hu2, hS⟩
                        case measure => simp [intOf]; omega
                  · obtain rfl : kk = 3 := by omega
                    have hgI : (gg : Int) ≤ 1 := by omega
                    have hE3 : Env w wr [(w.heap.size, 51, arr2 k0 k1), (gb, 29, balC b), (ga, 52, arrpC p)] := (((Env.start hE.below).add (hE.get 0 rfl)).add (hE.get 1 rfl)).add (hE.get 2 rfl)
                    go_wp2
                    go_roundw
                    case rel => exact ⟨n' + 1, st', by omega, by go_num, hT, hsx.out, hsy.out, hE3⟩
                    case measure => simp [intOf]; omega
          · have hnI : (l.length : Int) ≤ (n' : Int) := by omega
            go_wp2
            go_ret
            exact ⟨rfl, hE.below⟩
  · have hlenI : (60 : Int) < (l.length : Int) := by omega
    go_wp2
    go_ret
    exact ⟨rfl, hb⟩
end Go.Proofs.Ytlcappkokdgpgaa
