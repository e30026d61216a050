/- paddocklaw3.MapsIncs returns true, for whatever numbers, where package maps answers as it has to. -/
import Derived.Test.YtoffbjdoampebaaMapsKnown
import Derived.Test.YtoffbjdoampebaaVal
import Derived.Test.YtoffbjdoampebaaSliceOf
import Derived.Test.YtoffbjdoampebaaPlanMem
import Derived.Deep.CutBlock
import Derived.Deep.DeepCutAuto
namespace Go.Proofs.Ytoffbjdoampebaa
set_option linter.unusedSimpArgs false
set_option linter.unusedVariables false
open Go.RowKit

theorem inc_built (k o : Nat) (n : Int) : Try.prog.built 29 [(0, .int .u8 k), (1, .int .u8 o), (2, .int .i64 n)] = some (incC ⟨k, o, n⟩) := by rfl

theorem fold_one (x : IncV) : foldM [x] = if okA firstM x then (nextM firstM x, true) else (zeroM, false) := rfl

theorem okA_first (x : IncV) : okA firstM x = isInc x := by
  unfold okA
  have : isM firstM = true := by decide
  rw [this]
  simp [firstM]

set_option maxRecDepth 100000 in
set_option maxHeartbeats 2000000 in
theorem incs_walk (S : MapsSpec) (k o : Nat) (n : Int) (w : World) (hx : IncOk ⟨k, o, n⟩) :
    Calls Try.prog 8 #[.int .u8 k, .int .u8 o, .int .i64 n] w fun e w' => e = .returned (.bool true) ∧ Below w.heap.size w w' := by
  have hx' := hx
  obtain ⟨x1, x2, x3, x4⟩ := hx'
  simp only at x1 x2 x3 x4
  have hI : Hid _ := isInc_of k o n
  have hxo : Hid _ := hx
  go_enter Try.func8, Try.ntmps8
  go_upto_block 0 with (first
    | (go_at_call 9; refine (known_any S _).mono ?_; rintro e w1 ⟨rfl, hb1⟩)
    | (refine alloc_inc (by rfl) rfl ?_)
    | (refine store_inc ⟨k, o, n⟩ ⟨0, 0, 0⟩ (by rfl) _ _ rfl _ rfl rfl ?hg ?_; (case hg => exact Has.new _ _ _); have hX := (Has.new w1 29 (incC ⟨0, 0, 0⟩)).row (incC ⟨k, o, n⟩); have hb2 := below_setRow (hb1.alloc hb1.size (.cells (incC ⟨0, 0, 0⟩) 29)) hb1.size (incC ⟨k, o, n⟩); have hg2 := hb1.size; clear hb1; generalize (w1.alloc (.cells (incC ⟨0, 0, 0⟩) 29)).setRow w1.heap.size (incC ⟨k, o, n⟩) = w2 at *; generalize w1.heap.size = g at *))
  go_cut [8] (fun v wx => v = .bool (isInc ⟨k, o, n⟩) ∧ wx = w2)
  case first =>
    by_cases ho : o = 0
    · have hob : ((o : Int) == 0) = true := by rw [beq_iff_eq]; omega
      have hob2 : (o == 0) = true := by rw [beq_iff_eq]; exact ho
      have ho' : Hid (o = 0) := ho
      clear ho
      go_wp2_with fail
      all_goals
        go_meet
        refine ⟨?_, rfl⟩
        congr 1
        have ho2 := ho'.out
        rw [isInc_of, Bool.eq_iff_iff]
        simp only [beq_iff_eq, beq_eq_false_iff_ne, ne_eq] at *
        simp
        omega
    · have hob : ((o : Int) == 0) = false := by rw [beq_eq_false_iff_ne]; omega
      have hob2 : (o == 0) = false := by rw [beq_eq_false_iff_ne]; exact ho
      have ho' : Hid (¬ o = 0) := ho
      clear ho
      go_wp2_with fail
      all_goals
        go_meet
        refine ⟨?_, rfl⟩
        congr 1
        have ho2 := ho'.out
        rw [isInc_of, Bool.eq_iff_iff]
        simp only [beq_iff_eq, beq_eq_false_iff_ne, ne_eq] at *
        simp
        omega
  case rest =>
    obtain ⟨rfl, rfl⟩ := hcut
    have hJ := okA_first ⟨k, o, n⟩
    have hF := fold_one ⟨k, o, n⟩
    have hBB : Hid (isInc ⟨k, o, n⟩ = isInc ⟨k, o, n⟩) := rfl
    generalize hBe : isInc ⟨k, o, n⟩ = B at *
    have hB' : Hid (isInc ⟨k, o, n⟩ = B) := hBe
    clear hBe hBB
    go_wp2_with fail
    go_cut [10] (fun v wx => v = .int .i64 (errI B) ∧ Has wx g 29 (incC ⟨k, o, n⟩) ∧ Below w.heap.size w wx)
    case first =>
      refine wp_region_plan (fun W => Has W g 29 (incC ⟨k, o, n⟩) ∧ Below w.heap.size w W) (.take 1 (.either 0 (.either 2 (Plan.of [(3, true), (4, true), (5, true), (6, false), (7, false), (8, true)] .done) 6 (Plan.of [(2, false), (3, true), (4, true), (5, true), (7, false), (8, true)] .done)) 6 (Plan.of [(0, false), (2, false), (3, true), (4, true), (5, true), (7, false), (8, true)] .done))) (by kernel_rfl) (by kernel_rfl) (by kernel_rfl) (by kernel_rfl) ⟨hX.drew, hb2.drew⟩ ?_
      refine plan_take _ _ rfl (yields_inc ⟨k, o, n⟩ (by rfl) _ rfl g rfl (fun _ h => h.1)) ?_
      try simp only [Act.put, List.setIfInBounds_toArray, List.set_cons_zero, List.set_cons_succ]
      refine plan_either ?_ ?_
      · refine plan_run _ rfl (fun K hK => ?_)
        go_simp
        refine (S.first _).mono ?_
        rintro e w3 ⟨rfl, hq⟩
        have hX3 := hX.drew.later hq
        have hb3 := hb2.drew.trans (hq.mono hb2.drew.size)
        refine hK.out _ _ ⟨hX3, hb3⟩ ?_
        clear hK K
        refine plan_either ?_ ?_
        · refine plan_run _ rfl (fun K hK => ?_)
          go_simp
          refine (S.apply firstM ⟨k, o, n⟩ _ firstM_ok hxo.out).mono ?_
          rintro e w4 ⟨rfl, hq⟩
          rw [hJ]
          have hX4 := hX3.later hq
          have hb4 := hb3.trans (hq.mono hb3.size)
          refine hK.out _ _ ⟨hX4, hb4⟩ ?_
          clear hK K
          iterate 3
            refine plan_take _ _ rfl (.inl ⟨by rfl, fun W hS => by go_simp; try with_reducible rfl⟩) ?_
            try simp only [Act.put, List.setIfInBounds_toArray, List.set_cons_zero, List.set_cons_succ]
          have hl4 := hX4.lt
          refine plan_alloc_has _ rfl (by rfl) 27 rfl (mapC zeroM) map_zero ⟨hX4.alloc _, hb4.alloc hb4.size _⟩ ?_
          try simp only [Act.put, List.setIfInBounds_toArray, List.set_cons_zero, List.set_cons_succ]
          refine plan_store_has _ rfl (by rfl) 27 _ _ rfl w4.heap.size rfl (mapC (applyM firstM ⟨k, o, n⟩)) rfl 27 (mapC zeroM) (map_size _) (by rw [mapC_size, mapC_size]) (mapC_one _) (Has.new _ _ _) ⟨(hX4.alloc _).row_other (by omega) _, below_setRow (hb4.alloc hb4.size _) hb4.size _⟩ ?_
          try simp only [Act.put, List.setIfInBounds_toArray, List.set_cons_zero, List.set_cons_succ]
          refine plan_take _ _ rfl (.inl ⟨by rfl, fun W hS => by go_simp; try with_reducible rfl⟩) ?_
          try simp only [Act.put, List.setIfInBounds_toArray, List.set_cons_zero, List.set_cons_succ]
          refine plan_done ?_
          go_wp2_with fail
          go_meet
          exact ⟨rfl, (hX4.alloc _).row_other (by omega) _, below_setRow (hb4.alloc hb4.size _) hb4.size _⟩
        · have hl3 := hX3.lt
          refine plan_alloc_has _ rfl (by rfl) 27 rfl (mapC zeroM) map_zero ⟨hX3.alloc _, hb3.alloc hb3.size _⟩ ?_
          try simp only [Act.put, List.setIfInBounds_toArray, List.set_cons_zero, List.set_cons_succ]
          have hN := Has.new w3 27 (mapC zeroM)
          have hXa := hX3.alloc (.cells (mapC zeroM) 27)
          have hba := hb3.alloc hb3.size (.cells (mapC zeroM) 27)
          have hs3 := hb3.size
          refine plan_run _ rfl (fun K hK => ?_)
          go_simp
          refine (S.apply firstM ⟨k, o, n⟩ _ firstM_ok hxo.out).mono ?_
          rintro e w4 ⟨rfl, hq⟩
          rw [hJ]
          have hN4 := hN.later hq
          have hX4 := hXa.later hq
          have hb4 := hba.trans (hq.mono hba.size)
          refine hK.out _ _ ⟨hX4, hb4⟩ ?_
          clear hK K
          iterate 3
            refine plan_take _ _ rfl (.inl ⟨by rfl, fun W hS => by go_simp; try with_reducible rfl⟩) ?_
            try simp only [Act.put, List.setIfInBounds_toArray, List.set_cons_zero, List.set_cons_succ]
          refine plan_store_has _ rfl (by rfl) 27 _ _ rfl w3.heap.size rfl (mapC (applyM firstM ⟨k, o, n⟩)) rfl 27 (mapC zeroM) (map_size _) (by rw [mapC_size, mapC_size]) (mapC_one _) hN4 ⟨hX4.row_other (by omega) _, below_setRow hb4 hs3 _⟩ ?_
          try simp only [Act.put, List.setIfInBounds_toArray, List.set_cons_zero, List.set_cons_succ]
          refine plan_take _ _ rfl (.inl ⟨by rfl, fun W hS => by go_simp; try with_reducible rfl⟩) ?_
          try simp only [Act.put, List.setIfInBounds_toArray, List.set_cons_zero, List.set_cons_succ]
          refine plan_done ?_
          go_wp2_with fail
          go_meet
          exact ⟨rfl, hX4.row_other (by omega) _, below_setRow hb4 hs3 _⟩
      · have hl3 := hX.drew.lt
        refine plan_alloc_has _ rfl (by rfl) 27 rfl (mapC zeroM) map_zero ⟨hX.drew.alloc _, hb2.drew.alloc hb2.drew.size _⟩ ?_
        try simp only [Act.put, List.setIfInBounds_toArray, List.set_cons_zero, List.set_cons_succ]
        have hN := Has.new wc.drew 27 (mapC zeroM)
        have hXa := hX.drew.alloc (.cells (mapC zeroM) 27)
        have hba := hb2.drew.alloc hb2.drew.size (.cells (mapC zeroM) 27)
        have hs3 := hb2.drew.size
        refine plan_run _ rfl (fun K hK => ?_)
        go_simp
        refine (S.first _).mono ?_
        rintro e w3 ⟨rfl, hq⟩
        have hN3 := hN.later hq
        have hX3 := hXa.later hq
        have hb3 := hba.trans (hq.mono hba.size)
        refine hK.out _ _ ⟨hX3, hb3⟩ ?_
        clear hK K
        refine plan_run _ rfl (fun K hK => ?_)
        go_simp
        refine (S.apply firstM ⟨k, o, n⟩ _ firstM_ok hxo.out).mono ?_
        rintro e w4 ⟨rfl, hq⟩
        rw [hJ]
        have hN4 := hN3.later hq
        have hX4 := hX3.later hq
        have hb4 := hb3.trans (hq.mono hb3.size)
        refine hK.out _ _ ⟨hX4, hb4⟩ ?_
        clear hK K
        iterate 3
          refine plan_take _ _ rfl (.inl ⟨by rfl, fun W hS => by go_simp; try with_reducible rfl⟩) ?_
          try simp only [Act.put, List.setIfInBounds_toArray, List.set_cons_zero, List.set_cons_succ]
        refine plan_store_has _ rfl (by rfl) 27 _ _ rfl wc.drew.heap.size rfl (mapC (applyM firstM ⟨k, o, n⟩)) rfl 27 (mapC zeroM) (map_size _) (by rw [mapC_size, mapC_size]) (mapC_one _) hN4 ⟨hX4.row_other (by omega) _, below_setRow hb4 hs3 _⟩ ?_
        try simp only [Act.put, List.setIfInBounds_toArray, List.set_cons_zero, List.set_cons_succ]
        refine plan_take _ _ rfl (.inl ⟨by rfl, fun W hS => by go_simp; try with_reducible rfl⟩) ?_
        try simp only [Act.put, List.setIfInBounds_toArray, List.set_cons_zero, List.set_cons_succ]
        refine plan_done ?_
        go_wp2_with fail
        go_meet
        exact ⟨rfl, hX4.row_other (by omega) _, below_setRow hb4 hs3 _⟩
    case rest =>
      clear hX hb2
      obtain ⟨rfl, hX, hb2⟩ := hcut
      obtain ⟨c0, c1, c2⟩ := inc_cells hX
      have hSl : Sl (wc.alloc (.cells #[.int .u8 k, .int .u8 o, .int .i64 n] 29)) (some ⟨wc.heap.size, 0, none⟩) 1 3 ([⟨k, o, n⟩].map fun x : IncV => (incC x).toList) :=
        Sl.of_block (rows := [⟨k, o, n⟩].map fun x : IncV => (incC x).toList) (t := 29) (Has.new wc 29 #[.int .u8 k, .int .u8 o, .int .i64 n]) (fun r hr => by obtain ⟨x, _, rfl⟩ := List.mem_map.1 hr; rfl) (by show 1 ≤ 1000000; decide)
      have hfold := S.fold (some ⟨wc.heap.size, 0, none⟩) 1 [⟨k, o, n⟩] _ hSl (fun x hx' => by rw [List.mem_singleton.1 hx']; exact hxo.out) (by show 1 ≤ 1000000; decide)
      have hX1 := hX.alloc (.cells #[.int .u8 k, .int .u8 o, .int .i64 n] 29)
      have hb3 := hb2.alloc hb2.size (.cells #[.int .u8 k, .int .u8 o, .int .i64 n] 29)
      clear hSl
      go_wp2_with fail
      refine hfold.mono ?_
      rintro e w5 ⟨rfl, hb5⟩
      have hF2 : (foldM [⟨k, o, n⟩]).2 = B := by rw [hF, hJ]; cases B <;> rfl
      rw [hF2]
      replace hX1 := hX1.later hb5
      replace hb5 := hb3.trans (hb5.mono hb3.size)
      have hlt := hX1.lt
      have hX6 := (hX1.alloc (.cells (mapC zeroM) 27)).row_other (k := w5.heap.size) (by omega) (mapC (foldM [⟨k, o, n⟩]).1)
      have hb6 := below_setRow (hb5.alloc hb5.size (.cells (mapC zeroM) 27)) hb5.size (mapC (foldM [⟨k, o, n⟩]).1)
      clear hfold c0 c1 c2 hX hb2 hb3 hX1 hb5 hJ hF hF2
      go_wp2_with (first
        | (refine alloc_map (by rfl) rfl ?_)
        | (refine store_map _ zeroM (by rfl) _ _ rfl _ rfl rfl ?hg ?_; (case hg => exact Has.new _ _ _); generalize (w5.alloc (.cells (mapC zeroM) 27)).setRow w5.heap.size (mapC (foldM [⟨k, o, n⟩]).1) = w6 at *)
        | (refine load_inc ⟨k, o, n⟩ (by rfl) _ rfl _ rfl ?hg ?_; (case hg => exact hX6)))
      refine (S.isinc ⟨k, o, n⟩ _ hxo.out).mono ?_
      rintro e w7 ⟨rfl, hb7⟩
      rw [hB'.out]
      cases B
      all_goals
        first | rw [errI_true] | rw [errI_false]
        go_wp2
        go_ret
        exact ⟨rfl, hb6.trans (hb7.mono hb6.size)⟩
end Go.Proofs.Ytoffbjdoampebaa
