/- ObjectsAll, walked. -/
import Derived.Test.YtjajfeplgilejaaObjSteps
import Derived.Test.YtjajfeplgilejaaRefDo
import Derived.Test.YtjajfeplgilejaaThree
namespace Go.Proofs.Ytjajfeplgilejaa
set_option linter.unusedSimpArgs false
set_option linter.unusedVariables false
set_option maxRecDepth 100000
open Go.RowKit

theorem all_res_at (b : BaseV) (l : List OpV) (k : Nat) (h : k < l.length) : (allM b l).2[k]'(by rw [all_len]; exact h) = (doM (allM b (l.take k)).1 l[k]).2 := by
  have h1 : allM b l = allM (allM b (l.take (k + 1))).1 (l.drop (k + 1)) ∨ True := Or.inr trivial
  have key : ∀ (l1 l2 : List OpV), ∃ r, (allM b (l1 ++ l2)).2 = (allM b l1).2 ++ r := by
    intro l1 l2
    induction l2 using snoc_ind with
    | h0 => exact ⟨[], by simp⟩
    | h1 l2 o ih =>
      obtain ⟨r, hr⟩ := ih
      rw [← List.append_assoc, all_snoc, hr]
      exact ⟨r ++ [(doM (allM b (l1 ++ l2)).1 o).2], by simp⟩
  obtain ⟨r, hr⟩ := key (l.take (k + 1)) (l.drop (k + 1))
  rw [List.take_append_drop, all_take b l k h] at hr
  have hp := all_take_len b l k (by omega)
  have : (allM b l).2[k]? = some (doM (allM b (l.take k)).1 l[k]).2 := by
    rw [hr, List.append_assoc, List.getElem?_append_right (by rw [hp]; exact Nat.le_refl _), hp, Nat.sub_self]
    rfl
  rw [List.getElem?_eq_getElem (by rw [all_len]; exact h)] at this
  exact Option.some.inj this

set_option maxHeartbeats 4000000 in
theorem all_walk (S : ObjSpec) (ao : Option Addr) (c : Nat) (l : List OpV) (w : World) (h : Sl w ao c 6 (opR l)) (hl : ∀ x ∈ l, OpOk x) :
    Calls Try.prog 3 #[.slice ao l.length c] w fun e w' => e = .returned (.bool true) ∧ Below w.heap.size w w' := by
  have hle := h.le
  have hol : (opR l).length = l.length := by unfold opR; rw [List.length_map]
  rw [hol] at hle
  have hcap := h.cap
  go_enter Try.func3, Try.ntmps3
  go_wp2_with fail
  refine (oknown_any S _).mono ?_
  rintro e w1 ⟨rfl, hb⟩
  by_cases hlong : 60 < l.length
  · have hI : (60 : Int) < (l.length : Int) := by omega
    clear hlong
    go_wp2_with fail
    go_ret
    exact ⟨rfl, hb⟩
  have hI : ¬ ((60 : Int) < (l.length : Int)) := by omega
  have hI2 : (l.length : Int) ≤ 60 := by omega
  go_wp2_with (first
    | (refine wpList_build_has (by rfl) 35 #[] rfl (baseC base0) (by simpa using base_built) ?_))
  refine (S.all base0 ao c l _ base0_ok (h.later hb) hl (by omega)).mono ?_
  rintro e w3 ⟨ro, rc, rfl, hRs, hq⟩
  replace hb := hb.trans (hq.mono hb.size)
  clear hq
  have hB0 := all_ok base0_ok l hl
  generalize hBe : (allM base0 l).1 = B at *
  replace hBe : Hid _ := hBe
  obtain ⟨w4, hw4, hB, hq⟩ := base_var w3 B
  replace hb := hb.trans (hq.mono hb.size)
  replace hRs := hRs.later hq
  clear hq
  obtain ⟨w5, hw5, hC, hq⟩ := base_var w4 base0
  go_wp2_with (first
    | (refine wpList_build_has (by rfl) 35 #[] rfl (baseC base0) (by simpa using base_built) ?_)
    | (refine wpList_alloc_has (by rfl) 35 rfl (baseC base0) base_zero ?_)
    | (refine wpList_store_to (by rfl) 35 _ _ rfl w3.heap.size rfl (baseC B) rfl 35 (baseC base0) (base_size _) rfl (base_one _) ?hg w4 ?hW ?_; (case hg => exact Has.new _ _ _); (case hW => exact hw4); clear hw4; generalize w3.heap.size = gb at *)
    | (refine wpList_store_to (by rfl) 35 _ _ rfl w4.heap.size rfl (baseC base0) rfl 35 (baseC base0) (base_size _) rfl (base_one _) ?hg w5 ?hW ?_; (case hg => exact Has.new _ _ _); (case hW => exact hw5); clear hw5))
  have hSl := h.later hb
  go_loopw [6] (fun i wr => ∃ n : Nat, n ≤ l.length ∧ i = .int .i64 n ∧ Has wr w4.heap.size 35 (baseC (allM base0 (l.take n)).1) ∧ Below w4.heap.size w4 wr) (fun i _ => l.length - (intOf i).toNat)
  case atStart => exact ⟨0, Nat.zero_le _, rfl, hC, hq⟩
  case round =>
    clear hC hq
    obtain ⟨n, hn, rfl, hC, hb4⟩ := hrel
    by_cases hlt : n < l.length
    · cases ao with
      | none => have := h.nil rfl; omega
      | some ad =>
      cases ro with
      | none =>
        have h1 := hRs.le
        have h2 := hRs.nil rfl
        unfold resR at h1
        rw [List.length_map, all_len] at h1
        omega
      | some rd =>
        have hrl := hRs.le
        unfold resR at hrl
        rw [List.length_map, all_len] at hrl
        have hrc := hRs.cap
        have hci := fun W (hW : Below wr.heap.size wr W) => op_at (hSl.later (hb4.trans (hW.mono hb4.size))) n hlt
        have hon := hl l[n] (List.getElem_mem hlt)
        have i1 : (n : Int) < (l.length : Int) := by omega
        have hnext : Hid _ := all_take base0 l n hlt
        have hsr : Hid _ := all_res_at base0 l n hlt
        have hCo := all_ok base0_ok (l.take n) (fun x hx => hl x (List.mem_of_mem_take hx))
        generalize l[n] = y at *
        generalize (allM base0 (l.take n)).1 = C at *
        generalize (allM base0 (l.take n)).2 = ps at *
        have hDo := do_ok hCo hon
        generalize hDe : (doM C y).1 = D at *
        generalize hse : (doM C y).2 = s at *
        have hbA : Below wr.heap.size wr wr.drew := (Below.refl _ _).drew
        go_wp2
        refine wp_region_three (fun W => Below wr.heap.size wr W) [0, 1, 2, 3, 4] 5 9 10
          (Plan.of [(6, true), (7, true), (8, true)] (.either 9 (Plan.of [(10, false), (11, false), (12, false)] .done) 10 (Plan.of [(9, false), (11, false), (12, false)] .done)))
          (.either 5 (Plan.of [(6, true), (7, true), (8, true), (10, false), (11, false), (12, false)] .done) 10 (Plan.of [(5, false), (6, true), (7, true), (8, true), (11, false), (12, false)] .done))
          (.either 5 (Plan.of [(6, true), (7, true), (8, true), (9, false), (11, false), (12, false)] .done) 9 (Plan.of [(5, false), (6, true), (7, true), (8, true), (11, false), (12, false)] .done))
          (by kernel_rfl) (by kernel_rfl) (by kernel_rfl) (by kernel_rfl) hbA ?_
        refine top_take _ _ rfl (yields_load_has (by rfl) 35 _ rfl w4.heap.size rfl 35 (baseC C) _ Try.underlying35 rfl (base_size _) (fun W hW => hC.later hW)) ?_
        try simp only [Act.put, List.setIfInBounds_toArray, List.set_cons_zero, List.set_cons_succ]
        refine top_take _ _ rfl (.inl ⟨by rfl, fun W hS => by clear hS; go_simp; try with_reducible rfl⟩) ?_
        try simp only [Act.put, List.setIfInBounds_toArray, List.set_cons_zero, List.set_cons_succ]
        refine top_take _ _ rfl (.inl ⟨by rfl, fun W hS => by clear hS; go_simp; try with_reducible rfl⟩) ?_
        try simp only [Act.put, List.setIfInBounds_toArray, List.set_cons_zero, List.set_cons_succ]
        refine top_take _ _ rfl (.inl ⟨by rfl, fun W hS => by clear hS; go_simp; try with_reducible rfl⟩) ?_
        try simp only [Act.put, List.setIfInBounds_toArray, List.set_cons_zero, List.set_cons_succ]
        refine top_take _ _ rfl (.inl ⟨by rfl, fun W hW => run_load_any 42 _ rfl _ rfl (opL y) _ (hci W hW) Try.underlying42 rfl (op_size y)⟩) ?_
        try simp only [Act.put, List.setIfInBounds_toArray, List.set_cons_zero, List.set_cons_succ]
        refine top_three ?_ ?_ ?_
        · refine plan_run _ rfl (fun K hK => ?_)
          go_simp
          refine (refdo_any C y _ hCo hon).mono ?_
          rintro e w6 ⟨rfl, hq⟩
          have hbB : Below wr.heap.size wr w6 := hbA.trans (hq.mono hbA.size)
          refine hK.out _ _ hbB ?_
          clear hK K
          iterate 3
            first
              | (refine plan_pass _ rfl (by rfl) ?_)
              | (refine plan_take _ _ rfl (.inl ⟨by rfl, fun W hS => by clear hS; go_simp; try with_reducible rfl⟩) ?_)
            try simp only [Act.put, List.setIfInBounds_toArray, List.set_cons_zero, List.set_cons_succ]
          clear hq
          refine plan_either ?_ ?_
          · refine plan_alloc_has _ rfl (by rfl) 35 rfl (baseC base0) base_zero (hbB.alloc hbB.size _) ?_
            try simp only [Act.put, List.setIfInBounds_toArray, List.set_cons_zero, List.set_cons_succ]
            have hM := Has.new w6 35 (baseC base0)
            have hbC : Below wr.heap.size wr (w6.alloc (.cells (baseC base0) 35)) := hbB.alloc hbB.size _
            have hgm : wr.heap.size ≤ w6.heap.size := hbB.size
            have hltm : w6.heap.size < (w6.alloc (.cells (baseC base0) 35)).heap.size := by simp
            generalize w6.alloc (.cells (baseC base0) 35) = w7 at *
            generalize w6.heap.size = gm at *
            refine plan_alloc_has _ rfl (by rfl) 30 rfl (resC res0) res_zero (hbC.alloc hbC.size _) ?_
            try simp only [Act.put, List.setIfInBounds_toArray, List.set_cons_zero, List.set_cons_succ]
            have hN := Has.new w7 30 (resC res0)
            have hbD : Below wr.heap.size wr (w7.alloc (.cells (resC res0) 30)) := hbC.alloc hbC.size _
            have hgn : wr.heap.size ≤ w7.heap.size := hbC.size
            have hltn : w7.heap.size < (w7.alloc (.cells (resC res0) 30)).heap.size := by simp
            replace hM := hM.alloc (.cells (resC res0) 30)
            generalize w7.alloc (.cells (resC res0) 30) = wz at *
            generalize w7.heap.size = gn at *
            have hbX := below_setRow hbD hgm (baseC D)
            refine plan_store_has _ rfl (by rfl) 35 _ _ rfl gm rfl (baseC D) rfl 35 (baseC base0) (base_size _) rfl (base_one _) hM hbX ?_
            try simp only [Act.put, List.setIfInBounds_toArray, List.set_cons_zero, List.set_cons_succ]
            have hMz := hM.row (baseC D)
            have hN1 := hN.row_other (k := gm) (by omega) (baseC D)
            generalize wz.setRow gm (baseC D) = w8 at *
            have hbY := below_setRow hbX hgn (resC s)
            refine plan_store_has _ rfl (by rfl) 30 _ _ rfl gn rfl (resC s) rfl 30 (resC res0) (res_size _) rfl (res_one _) hN1 hbY ?_
            try simp only [Act.put, List.setIfInBounds_toArray, List.set_cons_zero, List.set_cons_succ]
            have hNz := hN1.row (resC s)
            replace hMz := hMz.row_other (k := gn) (by omega) (resC s)
            generalize w8.setRow gn (resC s) = w9 at *
            refine plan_done ?_
            clear hM hN hN1 hbX
            have hC9 := hC.later hbY
            have hb9 : Below w4.heap.size w4 w9 := hb4.trans (hbY.mono hb4.size)
            have hrci := fun W (hW : Below w9.heap.size w9 W) => res_at (hRs.later (hb9.trans (hW.mono hb9.size))) n (by rw [all_len]; exact hlt)
            rw [hsr.out] at hrci
            have hCz := hC9.row (baseC D)
            have hbz := below_setRow hb9 (Nat.le_refl _) (baseC D)
            have e2 := fun W => neq_res s hDo.2.1 hDo.2.2 W
            go_wp2
            refine wp_region_plan (fun W => Below w9.heap.size w9 W) (Plan.of [(0, true), (1, true), (2, true), (3, true), (4, true), (5, true)] .done) (by kernel_rfl) (by kernel_rfl) (by kernel_rfl) (by kernel_rfl) (Below.refl _ _).drew ?_
            iterate 3
              first
                | (refine plan_pass _ rfl (by rfl) ?_)
                | (refine plan_take _ _ rfl (.inl ⟨by rfl, fun W hS => by clear hS; go_simp; try with_reducible rfl⟩) ?_)
              try simp only [Act.put, List.setIfInBounds_toArray, List.set_cons_zero, List.set_cons_succ]
            refine plan_take _ _ rfl (.inl ⟨by rfl, fun W hW => run_load_any 30 _ rfl _ rfl (resL s) _ (hrci W hW) Try.underlying30 rfl (res_size s)⟩) ?_
            try simp only [Act.put, List.setIfInBounds_toArray, List.set_cons_zero, List.set_cons_succ]
            refine plan_take _ _ rfl (yields_load_has (by rfl) 30 _ rfl gn rfl 30 (resC s) _ Try.underlying30 rfl (res_size s) (fun W hW => hNz.later hW)) ?_
            try simp only [Act.put, List.setIfInBounds_toArray, List.set_cons_zero, List.set_cons_succ]
            refine plan_take _ _ rfl (yields_bin_agg (by rfl) .neq 30 _ _ _ rfl (resC s) (resC s) rfl rfl (.bool false) guard_res e2) ?_
            try simp only [Act.put, List.setIfInBounds_toArray, List.set_cons_zero, List.set_cons_succ]
            refine plan_done ?_
            go_wp2_with (first
              | (refine wpList_load_has (by rfl) 35 _ rfl gm rfl 35 (baseC D) _ Try.underlying35 rfl (base_size _) ?hg ?_; (case hg => exact hMz.drew))
              | (refine wpList_store_has (by rfl) 35 _ _ rfl w4.heap.size rfl (baseC D) rfl 35 (baseC C) (base_size _) rfl (base_one _) ?hg ?_; (case hg => exact hC9.drew)))
            go_roundw
            case rel => exact ⟨n + 1, by omega, by go_num, by rw [hnext.out]; exact hC9.drew.row (baseC D), below_setRow hb9.drew (Nat.le_refl _) (baseC D)⟩
            case measure => simp [intOf]; omega
          · refine plan_alloc_has _ rfl (by rfl) 30 rfl (resC res0) res_zero (hbB.alloc hbB.size _) ?_
            try simp only [Act.put, List.setIfInBounds_toArray, List.set_cons_zero, List.set_cons_succ]
            have hN := Has.new w6 30 (resC res0)
            have hbC : Below wr.heap.size wr (w6.alloc (.cells (resC res0) 30)) := hbB.alloc hbB.size _
            have hgn : wr.heap.size ≤ w6.heap.size := hbB.size
            have hltn : w6.heap.size < (w6.alloc (.cells (resC res0) 30)).heap.size := by simp
            generalize w6.alloc (.cells (resC res0) 30) = w7 at *
            generalize w6.heap.size = gn at *
            refine plan_alloc_has _ rfl (by rfl) 35 rfl (baseC base0) base_zero (hbC.alloc hbC.size _) ?_
            try simp only [Act.put, List.setIfInBounds_toArray, List.set_cons_zero, List.set_cons_succ]
            have hM := Has.new w7 35 (baseC base0)
            have hbD : Below wr.heap.size wr (w7.alloc (.cells (baseC base0) 35)) := hbC.alloc hbC.size _
            have hgm : wr.heap.size ≤ w7.heap.size := hbC.size
            have hltm : w7.heap.size < (w7.alloc (.cells (baseC base0) 35)).heap.size := by simp
            replace hN := hN.alloc (.cells (baseC base0) 35)
            generalize w7.alloc (.cells (baseC base0) 35) = wz at *
            generalize w7.heap.size = gm at *
            have hbX := below_setRow hbD hgm (baseC D)
            refine plan_store_has _ rfl (by rfl) 35 _ _ rfl gm rfl (baseC D) rfl 35 (baseC base0) (base_size _) rfl (base_one _) hM hbX ?_
            try simp only [Act.put, List.setIfInBounds_toArray, List.set_cons_zero, List.set_cons_succ]
            have hMz := hM.row (baseC D)
            have hN1 := hN.row_other (k := gm) (by omega) (baseC D)
            generalize wz.setRow gm (baseC D) = w8 at *
            have hbY := below_setRow hbX hgn (resC s)
            refine plan_store_has _ rfl (by rfl) 30 _ _ rfl gn rfl (resC s) rfl 30 (resC res0) (res_size _) rfl (res_one _) hN1 hbY ?_
            try simp only [Act.put, List.setIfInBounds_toArray, List.set_cons_zero, List.set_cons_succ]
            have hNz := hN1.row (resC s)
            replace hMz := hMz.row_other (k := gn) (by omega) (resC s)
            generalize w8.setRow gn (resC s) = w9 at *
            refine plan_done ?_
            clear hM hN hN1 hbX
            have hC9 := hC.later hbY
            have hb9 : Below w4.heap.size w4 w9 := hb4.trans (hbY.mono hb4.size)
            have hrci := fun W (hW : Below w9.heap.size w9 W) => res_at (hRs.later (hb9.trans (hW.mono hb9.size))) n (by rw [all_len]; exact hlt)
            rw [hsr.out] at hrci
            have hCz := hC9.row (baseC D)
            have hbz := below_setRow hb9 (Nat.le_refl _) (baseC D)
            have e2 := fun W => neq_res s hDo.2.1 hDo.2.2 W
            go_wp2
            refine wp_region_plan (fun W => Below w9.heap.size w9 W) (Plan.of [(0, true), (1, true), (2, true), (3, true), (4, true), (5, true)] .done) (by kernel_rfl) (by kernel_rfl) (by kernel_rfl) (by kernel_rfl) (Below.refl _ _).drew ?_
            iterate 3
              first
                | (refine plan_pass _ rfl (by rfl) ?_)
                | (refine plan_take _ _ rfl (.inl ⟨by rfl, fun W hS => by clear hS; go_simp; try with_reducible rfl⟩) ?_)
              try simp only [Act.put, List.setIfInBounds_toArray, List.set_cons_zero, List.set_cons_succ]
            refine plan_take _ _ rfl (.inl ⟨by rfl, fun W hW => run_load_any 30 _ rfl _ rfl (resL s) _ (hrci W hW) Try.underlying30 rfl (res_size s)⟩) ?_
            try simp only [Act.put, List.setIfInBounds_toArray, List.set_cons_zero, List.set_cons_succ]
            refine plan_take _ _ rfl (yields_load_has (by rfl) 30 _ rfl gn rfl 30 (resC s) _ Try.underlying30 rfl (res_size s) (fun W hW => hNz.later hW)) ?_
            try simp only [Act.put, List.setIfInBounds_toArray, List.set_cons_zero, List.set_cons_succ]
            refine plan_take _ _ rfl (yields_bin_agg (by rfl) .neq 30 _ _ _ rfl (resC s) (resC s) rfl rfl (.bool false) guard_res e2) ?_
            try simp only [Act.put, List.setIfInBounds_toArray, List.set_cons_zero, List.set_cons_succ]
            refine plan_done ?_
            go_wp2_with (first
              | (refine wpList_load_has (by rfl) 35 _ rfl gm rfl 35 (baseC D) _ Try.underlying35 rfl (base_size _) ?hg ?_; (case hg => exact hMz.drew))
              | (refine wpList_store_has (by rfl) 35 _ _ rfl w4.heap.size rfl (baseC D) rfl 35 (baseC C) (base_size _) rfl (base_one _) ?hg ?_; (case hg => exact hC9.drew)))
            go_roundw
            case rel => exact ⟨n + 1, by omega, by go_num, by rw [hnext.out]; exact hC9.drew.row (baseC D), below_setRow hb9.drew (Nat.le_refl _) (baseC D)⟩
            case measure => simp [intOf]; omega
        · refine plan_alloc_has _ rfl (by rfl) 35 rfl (baseC base0) base_zero (hbA.alloc hbA.size _) ?_
          try simp only [Act.put, List.setIfInBounds_toArray, List.set_cons_zero, List.set_cons_succ]
          have hM := Has.new wr.drew 35 (baseC base0)
          have hbB : Below wr.heap.size wr (wr.drew.alloc (.cells (baseC base0) 35)) := hbA.alloc hbA.size _
          have hgm : wr.heap.size ≤ wr.drew.heap.size := hbA.size
          have hltm : wr.drew.heap.size < (wr.drew.alloc (.cells (baseC base0) 35)).heap.size := by simp
          generalize wr.drew.alloc (.cells (baseC base0) 35) = w6 at *
          generalize wr.drew.heap.size = gm at *
          refine plan_either ?_ ?_
          · refine plan_run _ rfl (fun K hK => ?_)
            go_simp
            refine (refdo_any C y _ hCo hon).mono ?_
            rintro e w7 ⟨rfl, hq⟩
            have hbC : Below wr.heap.size wr w7 := hbB.trans (hq.mono hbB.size)
            refine hK.out _ _ hbC ?_
            clear hK K
            iterate 3
              first
                | (refine plan_pass _ rfl (by rfl) ?_)
                | (refine plan_take _ _ rfl (.inl ⟨by rfl, fun W hS => by clear hS; go_simp; try with_reducible rfl⟩) ?_)
              try simp only [Act.put, List.setIfInBounds_toArray, List.set_cons_zero, List.set_cons_succ]
            replace hM := hM.later hq
            replace hltm := Nat.lt_of_lt_of_le hltm hq.size
            clear hq
            refine plan_alloc_has _ rfl (by rfl) 30 rfl (resC res0) res_zero (hbC.alloc hbC.size _) ?_
            try simp only [Act.put, List.setIfInBounds_toArray, List.set_cons_zero, List.set_cons_succ]
            have hN := Has.new w7 30 (resC res0)
            have hbD : Below wr.heap.size wr (w7.alloc (.cells (resC res0) 30)) := hbC.alloc hbC.size _
            have hgn : wr.heap.size ≤ w7.heap.size := hbC.size
            have hltn : w7.heap.size < (w7.alloc (.cells (resC res0) 30)).heap.size := by simp
            replace hM := hM.alloc (.cells (resC res0) 30)
            generalize w7.alloc (.cells (resC res0) 30) = wz at *
            generalize w7.heap.size = gn at *
            have hbX := below_setRow hbD hgm (baseC D)
            refine plan_store_has _ rfl (by rfl) 35 _ _ rfl gm rfl (baseC D) rfl 35 (baseC base0) (base_size _) rfl (base_one _) hM hbX ?_
            try simp only [Act.put, List.setIfInBounds_toArray, List.set_cons_zero, List.set_cons_succ]
            have hMz := hM.row (baseC D)
            have hN1 := hN.row_other (k := gm) (by omega) (baseC D)
            generalize wz.setRow gm (baseC D) = w8 at *
            have hbY := below_setRow hbX hgn (resC s)
            refine plan_store_has _ rfl (by rfl) 30 _ _ rfl gn rfl (resC s) rfl 30 (resC res0) (res_size _) rfl (res_one _) hN1 hbY ?_
            try simp only [Act.put, List.setIfInBounds_toArray, List.set_cons_zero, List.set_cons_succ]
            have hNz := hN1.row (resC s)
            replace hMz := hMz.row_other (k := gn) (by omega) (resC s)
            generalize w8.setRow gn (resC s) = w9 at *
            refine plan_done ?_
            clear hM hN hN1 hbX
            have hC9 := hC.later hbY
            have hb9 : Below w4.heap.size w4 w9 := hb4.trans (hbY.mono hb4.size)
            have hrci := fun W (hW : Below w9.heap.size w9 W) => res_at (hRs.later (hb9.trans (hW.mono hb9.size))) n (by rw [all_len]; exact hlt)
            rw [hsr.out] at hrci
            have hCz := hC9.row (baseC D)
            have hbz := below_setRow hb9 (Nat.le_refl _) (baseC D)
            have e2 := fun W => neq_res s hDo.2.1 hDo.2.2 W
            go_wp2
            refine wp_region_plan (fun W => Below w9.heap.size w9 W) (Plan.of [(0, true), (1, true), (2, true), (3, true), (4, true), (5, true)] .done) (by kernel_rfl) (by kernel_rfl) (by kernel_rfl) (by kernel_rfl) (Below.refl _ _).drew ?_
            iterate 3
              first
                | (refine plan_pass _ rfl (by rfl) ?_)
                | (refine plan_take _ _ rfl (.inl ⟨by rfl, fun W hS => by clear hS; go_simp; try with_reducible rfl⟩) ?_)
              try simp only [Act.put, List.setIfInBounds_toArray, List.set_cons_zero, List.set_cons_succ]
            refine plan_take _ _ rfl (.inl ⟨by rfl, fun W hW => run_load_any 30 _ rfl _ rfl (resL s) _ (hrci W hW) Try.underlying30 rfl (res_size s)⟩) ?_
            try simp only [Act.put, List.setIfInBounds_toArray, List.set_cons_zero, List.set_cons_succ]
            refine plan_take _ _ rfl (yields_load_has (by rfl) 30 _ rfl gn rfl 30 (resC s) _ Try.underlying30 rfl (res_size s) (fun W hW => hNz.later hW)) ?_
            try simp only [Act.put, List.setIfInBounds_toArray, List.set_cons_zero, List.set_cons_succ]
            refine plan_take _ _ rfl (yields_bin_agg (by rfl) .neq 30 _ _ _ rfl (resC s) (resC s) rfl rfl (.bool false) guard_res e2) ?_
            try simp only [Act.put, List.setIfInBounds_toArray, List.set_cons_zero, List.set_cons_succ]
            refine plan_done ?_
            go_wp2_with (first
              | (refine wpList_load_has (by rfl) 35 _ rfl gm rfl 35 (baseC D) _ Try.underlying35 rfl (base_size _) ?hg ?_; (case hg => exact hMz.drew))
              | (refine wpList_store_has (by rfl) 35 _ _ rfl w4.heap.size rfl (baseC D) rfl 35 (baseC C) (base_size _) rfl (base_one _) ?hg ?_; (case hg => exact hC9.drew)))
            go_roundw
            case rel => exact ⟨n + 1, by omega, by go_num, by rw [hnext.out]; exact hC9.drew.row (baseC D), below_setRow hb9.drew (Nat.le_refl _) (baseC D)⟩
            case measure => simp [intOf]; omega
          · refine plan_alloc_has _ rfl (by rfl) 30 rfl (resC res0) res_zero (hbB.alloc hbB.size _) ?_
            try simp only [Act.put, List.setIfInBounds_toArray, List.set_cons_zero, List.set_cons_succ]
            have hN := Has.new w6 30 (resC res0)
            have hbC : Below wr.heap.size wr (w6.alloc (.cells (resC res0) 30)) := hbB.alloc hbB.size _
            have hgn : wr.heap.size ≤ w6.heap.size := hbB.size
            have hltn : w6.heap.size < (w6.alloc (.cells (resC res0) 30)).heap.size := by simp
            replace hM := hM.alloc (.cells (resC res0) 30)
            generalize w6.alloc (.cells (resC res0) 30) = w7 at *
            generalize w6.heap.size = gn at *
            refine plan_run _ rfl (fun K hK => ?_)
            go_simp
            refine (refdo_any C y _ hCo hon).mono ?_
            rintro e wz ⟨rfl, hq⟩
            have hbD : Below wr.heap.size wr wz := hbC.trans (hq.mono hbC.size)
            refine hK.out _ _ hbD ?_
            clear hK K
            iterate 3
              first
                | (refine plan_pass _ rfl (by rfl) ?_)
                | (refine plan_take _ _ rfl (.inl ⟨by rfl, fun W hS => by clear hS; go_simp; try with_reducible rfl⟩) ?_)
              try simp only [Act.put, List.setIfInBounds_toArray, List.set_cons_zero, List.set_cons_succ]
            replace hM := hM.later hq
            replace hN := hN.later hq
            clear hq
            have hbX := below_setRow hbD hgm (baseC D)
            refine plan_store_has _ rfl (by rfl) 35 _ _ rfl gm rfl (baseC D) rfl 35 (baseC base0) (base_size _) rfl (base_one _) hM hbX ?_
            try simp only [Act.put, List.setIfInBounds_toArray, List.set_cons_zero, List.set_cons_succ]
            have hMz := hM.row (baseC D)
            have hN1 := hN.row_other (k := gm) (by omega) (baseC D)
            generalize wz.setRow gm (baseC D) = w8 at *
            have hbY := below_setRow hbX hgn (resC s)
            refine plan_store_has _ rfl (by rfl) 30 _ _ rfl gn rfl (resC s) rfl 30 (resC res0) (res_size _) rfl (res_one _) hN1 hbY ?_
            try simp only [Act.put, List.setIfInBounds_toArray, List.set_cons_zero, List.set_cons_succ]
            have hNz := hN1.row (resC s)
            replace hMz := hMz.row_other (k := gn) (by omega) (resC s)
            generalize w8.setRow gn (resC s) = w9 at *
            refine plan_done ?_
            clear hM hN hN1 hbX
            have hC9 := hC.later hbY
            have hb9 : Below w4.heap.size w4 w9 := hb4.trans (hbY.mono hb4.size)
            have hrci := fun W (hW : Below w9.heap.size w9 W) => res_at (hRs.later (hb9.trans (hW.mono hb9.size))) n (by rw [all_len]; exact hlt)
            rw [hsr.out] at hrci
            have hCz := hC9.row (baseC D)
            have hbz := below_setRow hb9 (Nat.le_refl _) (baseC D)
            have e2 := fun W => neq_res s hDo.2.1 hDo.2.2 W
            go_wp2
            refine wp_region_plan (fun W => Below w9.heap.size w9 W) (Plan.of [(0, true), (1, true), (2, true), (3, true), (4, true), (5, true)] .done) (by kernel_rfl) (by kernel_rfl) (by kernel_rfl) (by kernel_rfl) (Below.refl _ _).drew ?_
            iterate 3
              first
                | (refine plan_pass _ rfl (by rfl) ?_)
                | (refine plan_take _ _ rfl (.inl ⟨by rfl, fun W hS => by clear hS; go_simp; try with_reducible rfl⟩) ?_)
              try simp only [Act.put, List.setIfInBounds_toArray, List.set_cons_zero, List.set_cons_succ]
            refine plan_take _ _ rfl (.inl ⟨by rfl, fun W hW => run_load_any 30 _ rfl _ rfl (resL s) _ (hrci W hW) Try.underlying30 rfl (res_size s)⟩) ?_
            try simp only [Act.put, List.setIfInBounds_toArray, List.set_cons_zero, List.set_cons_succ]
            refine plan_take _ _ rfl (yields_load_has (by rfl) 30 _ rfl gn rfl 30 (resC s) _ Try.underlying30 rfl (res_size s) (fun W hW => hNz.later hW)) ?_
            try simp only [Act.put, List.setIfInBounds_toArray, List.set_cons_zero, List.set_cons_succ]
            refine plan_take _ _ rfl (yields_bin_agg (by rfl) .neq 30 _ _ _ rfl (resC s) (resC s) rfl rfl (.bool false) guard_res e2) ?_
            try simp only [Act.put, List.setIfInBounds_toArray, List.set_cons_zero, List.set_cons_succ]
            refine plan_done ?_
            go_wp2_with (first
              | (refine wpList_load_has (by rfl) 35 _ rfl gm rfl 35 (baseC D) _ Try.underlying35 rfl (base_size _) ?hg ?_; (case hg => exact hMz.drew))
              | (refine wpList_store_has (by rfl) 35 _ _ rfl w4.heap.size rfl (baseC D) rfl 35 (baseC C) (base_size _) rfl (base_one _) ?hg ?_; (case hg => exact hC9.drew)))
            go_roundw
            case rel => exact ⟨n + 1, by omega, by go_num, by rw [hnext.out]; exact hC9.drew.row (baseC D), below_setRow hb9.drew (Nat.le_refl _) (baseC D)⟩
            case measure => simp [intOf]; omega
        · refine plan_alloc_has _ rfl (by rfl) 30 rfl (resC res0) res_zero (hbA.alloc hbA.size _) ?_
          try simp only [Act.put, List.setIfInBounds_toArray, List.set_cons_zero, List.set_cons_succ]
          have hN := Has.new wr.drew 30 (resC res0)
          have hbB : Below wr.heap.size wr (wr.drew.alloc (.cells (resC res0) 30)) := hbA.alloc hbA.size _
          have hgn : wr.heap.size ≤ wr.drew.heap.size := hbA.size
          have hltn : wr.drew.heap.size < (wr.drew.alloc (.cells (resC res0) 30)).heap.size := by simp
          generalize wr.drew.alloc (.cells (resC res0) 30) = w6 at *
          generalize wr.drew.heap.size = gn at *
          refine plan_either ?_ ?_
          · refine plan_run _ rfl (fun K hK => ?_)
            go_simp
            refine (refdo_any C y _ hCo hon).mono ?_
            rintro e w7 ⟨rfl, hq⟩
            have hbC : Below wr.heap.size wr w7 := hbB.trans (hq.mono hbB.size)
            refine hK.out _ _ hbC ?_
            clear hK K
            iterate 3
              first
                | (refine plan_pass _ rfl (by rfl) ?_)
                | (refine plan_take _ _ rfl (.inl ⟨by rfl, fun W hS => by clear hS; go_simp; try with_reducible rfl⟩) ?_)
              try simp only [Act.put, List.setIfInBounds_toArray, List.set_cons_zero, List.set_cons_succ]
            replace hN := hN.later hq
            replace hltn := Nat.lt_of_lt_of_le hltn hq.size
            clear hq
            refine plan_alloc_has _ rfl (by rfl) 35 rfl (baseC base0) base_zero (hbC.alloc hbC.size _) ?_
            try simp only [Act.put, List.setIfInBounds_toArray, List.set_cons_zero, List.set_cons_succ]
            have hM := Has.new w7 35 (baseC base0)
            have hbD : Below wr.heap.size wr (w7.alloc (.cells (baseC base0) 35)) := hbC.alloc hbC.size _
            have hgm : wr.heap.size ≤ w7.heap.size := hbC.size
            have hltm : w7.heap.size < (w7.alloc (.cells (baseC base0) 35)).heap.size := by simp
            replace hN := hN.alloc (.cells (baseC base0) 35)
            generalize w7.alloc (.cells (baseC base0) 35) = wz at *
            generalize w7.heap.size = gm at *
            have hbX := below_setRow hbD hgm (baseC D)
            refine plan_store_has _ rfl (by rfl) 35 _ _ rfl gm rfl (baseC D) rfl 35 (baseC base0) (base_size _) rfl (base_one _) hM hbX ?_
            try simp only [Act.put, List.setIfInBounds_toArray, List.set_cons_zero, List.set_cons_succ]
            have hMz := hM.row (baseC D)
            have hN1 := hN.row_other (k := gm) (by omega) (baseC D)
            generalize wz.setRow gm (baseC D) = w8 at *
            have hbY := below_setRow hbX hgn (resC s)
            refine plan_store_has _ rfl (by rfl) 30 _ _ rfl gn rfl (resC s) rfl 30 (resC res0) (res_size _) rfl (res_one _) hN1 hbY ?_
            try simp only [Act.put, List.setIfInBounds_toArray, List.set_cons_zero, List.set_cons_succ]
            have hNz := hN1.row (resC s)
            replace hMz := hMz.row_other (k := gn) (by omega) (resC s)
            generalize w8.setRow gn (resC s) = w9 at *
            refine plan_done ?_
            clear hM hN hN1 hbX
            have hC9 := hC.later hbY
            have hb9 : Below w4.heap.size w4 w9 := hb4.trans (hbY.mono hb4.size)
            have hrci := fun W (hW : Below w9.heap.size w9 W) => res_at (hRs.later (hb9.trans (hW.mono hb9.size))) n (by rw [all_len]; exact hlt)
            rw [hsr.out] at hrci
            have hCz := hC9.row (baseC D)
            have hbz := below_setRow hb9 (Nat.le_refl _) (baseC D)
            have e2 := fun W => neq_res s hDo.2.1 hDo.2.2 W
            go_wp2
            refine wp_region_plan (fun W => Below w9.heap.size w9 W) (Plan.of [(0, true), (1, true), (2, true), (3, true), (4, true), (5, true)] .done) (by kernel_rfl) (by kernel_rfl) (by kernel_rfl) (by kernel_rfl) (Below.refl _ _).drew ?_
            iterate 3
              first
                | (refine plan_pass _ rfl (by rfl) ?_)
                | (refine plan_take _ _ rfl (.inl ⟨by rfl, fun W hS => by clear hS; go_simp; try with_reducible rfl⟩) ?_)
              try simp only [Act.put, List.setIfInBounds_toArray, List.set_cons_zero, List.set_cons_succ]
            refine plan_take _ _ rfl (.inl ⟨by rfl, fun W hW => run_load_any 30 _ rfl _ rfl (resL s) _ (hrci W hW) Try.underlying30 rfl (res_size s)⟩) ?_
            try simp only [Act.put, List.setIfInBounds_toArray, List.set_cons_zero, List.set_cons_succ]
            refine plan_take _ _ rfl (yields_load_has (by rfl) 30 _ rfl gn rfl 30 (resC s) _ Try.underlying30 rfl (res_size s) (fun W hW => hNz.later hW)) ?_
            try simp only [Act.put, List.setIfInBounds_toArray, List.set_cons_zero, List.set_cons_succ]
            refine plan_take _ _ rfl (yields_bin_agg (by rfl) .neq 30 _ _ _ rfl (resC s) (resC s) rfl rfl (.bool false) guard_res e2) ?_
            try simp only [Act.put, List.setIfInBounds_toArray, List.set_cons_zero, List.set_cons_succ]
            refine plan_done ?_
            go_wp2_with (first
              | (refine wpList_load_has (by rfl) 35 _ rfl gm rfl 35 (baseC D) _ Try.underlying35 rfl (base_size _) ?hg ?_; (case hg => exact hMz.drew))
              | (refine wpList_store_has (by rfl) 35 _ _ rfl w4.heap.size rfl (baseC D) rfl 35 (baseC C) (base_size _) rfl (base_one _) ?hg ?_; (case hg => exact hC9.drew)))
            go_roundw
            case rel => exact ⟨n + 1, by omega, by go_num, by rw [hnext.out]; exact hC9.drew.row (baseC D), below_setRow hb9.drew (Nat.le_refl _) (baseC D)⟩
            case measure => simp [intOf]; omega
          · refine plan_alloc_has _ rfl (by rfl) 35 rfl (baseC base0) base_zero (hbB.alloc hbB.size _) ?_
            try simp only [Act.put, List.setIfInBounds_toArray, List.set_cons_zero, List.set_cons_succ]
            have hM := Has.new w6 35 (baseC base0)
            have hbC : Below wr.heap.size wr (w6.alloc (.cells (baseC base0) 35)) := hbB.alloc hbB.size _
            have hgm : wr.heap.size ≤ w6.heap.size := hbB.size
            have hltm : w6.heap.size < (w6.alloc (.cells (baseC base0) 35)).heap.size := by simp
            replace hN := hN.alloc (.cells (baseC base0) 35)
            generalize w6.alloc (.cells (baseC base0) 35) = w7 at *
            generalize w6.heap.size = gm at *
            refine plan_run _ rfl (fun K hK => ?_)
            go_simp
            refine (refdo_any C y _ hCo hon).mono ?_
            rintro e wz ⟨rfl, hq⟩
            have hbD : Below wr.heap.size wr wz := hbC.trans (hq.mono hbC.size)
            refine hK.out _ _ hbD ?_
            clear hK K
            iterate 3
              first
                | (refine plan_pass _ rfl (by rfl) ?_)
                | (refine plan_take _ _ rfl (.inl ⟨by rfl, fun W hS => by clear hS; go_simp; try with_reducible rfl⟩) ?_)
              try simp only [Act.put, List.setIfInBounds_toArray, List.set_cons_zero, List.set_cons_succ]
            replace hM := hM.later hq
            replace hN := hN.later hq
            clear hq
            have hbX := below_setRow hbD hgm (baseC D)
            refine plan_store_has _ rfl (by rfl) 35 _ _ rfl gm rfl (baseC D) rfl 35 (baseC base0) (base_size _) rfl (base_one _) hM hbX ?_
            try simp only [Act.put, List.setIfInBounds_toArray, List.set_cons_zero, List.set_cons_succ]
            have hMz := hM.row (baseC D)
            have hN1 := hN.row_other (k := gm) (by omega) (baseC D)
            generalize wz.setRow gm (baseC D) = w8 at *
            have hbY := below_setRow hbX hgn (resC s)
            refine plan_store_has _ rfl (by rfl) 30 _ _ rfl gn rfl (resC s) rfl 30 (resC res0) (res_size _) rfl (res_one _) hN1 hbY ?_
            try simp only [Act.put, List.setIfInBounds_toArray, List.set_cons_zero, List.set_cons_succ]
            have hNz := hN1.row (resC s)
            replace hMz := hMz.row_other (k := gn) (by omega) (resC s)
            generalize w8.setRow gn (resC s) = w9 at *
            refine plan_done ?_
            clear hM hN hN1 hbX
            have hC9 := hC.later hbY
            have hb9 : Below w4.heap.size w4 w9 := hb4.trans (hbY.mono hb4.size)
            have hrci := fun W (hW : Below w9.heap.size w9 W) => res_at (hRs.later (hb9.trans (hW.mono hb9.size))) n (by rw [all_len]; exact hlt)
            rw [hsr.out] at hrci
            have hCz := hC9.row (baseC D)
            have hbz := below_setRow hb9 (Nat.le_refl _) (baseC D)
            have e2 := fun W => neq_res s hDo.2.1 hDo.2.2 W
            go_wp2
            refine wp_region_plan (fun W => Below w9.heap.size w9 W) (Plan.of [(0, true), (1, true), (2, true), (3, true), (4, true), (5, true)] .done) (by kernel_rfl) (by kernel_rfl) (by kernel_rfl) (by kernel_rfl) (Below.refl _ _).drew ?_
            iterate 3
              first
                | (refine plan_pass _ rfl (by rfl) ?_)
                | (refine plan_take _ _ rfl (.inl ⟨by rfl, fun W hS => by clear hS; go_simp; try with_reducible rfl⟩) ?_)
              try simp only [Act.put, List.setIfInBounds_toArray, List.set_cons_zero, List.set_cons_succ]
            refine plan_take _ _ rfl (.inl ⟨by rfl, fun W hW => run_load_any 30 _ rfl _ rfl (resL s) _ (hrci W hW) Try.underlying30 rfl (res_size s)⟩) ?_
            try simp only [Act.put, List.setIfInBounds_toArray, List.set_cons_zero, List.set_cons_succ]
            refine plan_take _ _ rfl (yields_load_has (by rfl) 30 _ rfl gn rfl 30 (resC s) _ Try.underlying30 rfl (res_size s) (fun W hW => hNz.later hW)) ?_
            try simp only [Act.put, List.setIfInBounds_toArray, List.set_cons_zero, List.set_cons_succ]
            refine plan_take _ _ rfl (yields_bin_agg (by rfl) .neq 30 _ _ _ rfl (resC s) (resC s) rfl rfl (.bool false) guard_res e2) ?_
            try simp only [Act.put, List.setIfInBounds_toArray, List.set_cons_zero, List.set_cons_succ]
            refine plan_done ?_
            go_wp2_with (first
              | (refine wpList_load_has (by rfl) 35 _ rfl gm rfl 35 (baseC D) _ Try.underlying35 rfl (base_size _) ?hg ?_; (case hg => exact hMz.drew))
              | (refine wpList_store_has (by rfl) 35 _ _ rfl w4.heap.size rfl (baseC D) rfl 35 (baseC C) (base_size _) rfl (base_one _) ?hg ?_; (case hg => exact hC9.drew)))
            go_roundw
            case rel => exact ⟨n + 1, by omega, by go_num, by rw [hnext.out]; exact hC9.drew.row (baseC D), below_setRow hb9.drew (Nat.le_refl _) (baseC D)⟩
            case measure => simp [intOf]; omega
    · have e5 : n = l.length := by omega
      subst e5
      rw [List.take_length, hBe.out] at hC
      have e3 := fun W => eq_base B hB0 W
      have hBx := hB.later hb4
      have hbx := hb.trans (hb4.mono hb.size)
      go_wp2_with (first
        | (refine wpList_load_has (by rfl) 35 _ rfl (gb) rfl 35 (baseC (B)) _ Try.underlying35 rfl (base_size _) ?hg ?_; (case hg => first | exact hBx))
        | (refine wpList_load_has (by rfl) 35 _ rfl (w4.heap.size) rfl 35 (baseC (B)) _ Try.underlying35 rfl (base_size _) ?hg ?_; (case hg => first | exact hC))
        | (refine wpList_bin_agg (by rfl) .eql 35 _ _ _ rfl (baseC B) (baseC B) rfl rfl (.bool true) guard_base ?hg ?_; (case hg => exact e3 _)))
      go_ret
      exact ⟨rfl, hbx⟩
end Go.Proofs.Ytjajfeplgilejaa
