/- MergeOnly, walked. -/
import Derived.Test.YtphlfepgaghhhaaMergeKnown
import Derived.Test.YtphlfepgaghhhaaMergeState
import Derived.Test.YtphlfepgaghhhaaOnlyFacts
namespace Go.Proofs.Ytphlfepgaghhhaa
set_option linter.unusedSimpArgs false
set_option linter.unusedVariables false
set_option maxRecDepth 100000
open Go.RowKit

set_option maxHeartbeats 8000000 in
theorem only_walk (ao bo : Option Addr) (c d x8 : Nat) (l more : List OpV) (w : World) (h : Sl w ao c 6 (opR l)) (h' : Sl w bo d 6 (opR more)) (hl : ∀ x ∈ l, OpOk x) (hm : ∀ x ∈ more, OpOk x) :
    Calls Try.prog 6 #[.slice ao l.length c, .slice bo more.length d, .int .u8 (x8 : Int)] w fun e w' => e = .returned (.bool true) ∧ Below w.heap.size w w' := by
  have hle := h.op_len
  have hcap := h.cap
  have hle' := h'.op_len
  have hcap' := h'.cap
  go_enter Try.func6, Try.ntmps6
  go_wp2_with fail
  refine (known8_any _).mono ?_
  rintro e w1 ⟨rfl, hb⟩
  by_cases h20 : 20 < l.length
  · have hI : (20 : Int) < (l.length : Int) := by omega
    go_wp2
    go_ret
    exact ⟨rfl, hb⟩
  have hI : ¬ (20 : Int) < (l.length : Int) := by omega
  by_cases h6 : 6 < more.length
  · have hJ : (6 : Int) < (more.length : Int) := by omega
    go_wp2
    go_ret
    exact ⟨rfl, hb⟩
  have hJ : ¬ (6 : Int) < (more.length : Int) := by omega
  have hst := fun W (hW : Below w.heap.size w W) => state_any ao none c 0 0 0 1 l [] W (h.later hW) (Sl.nothing _ _) hl (fun x hx => by cases hx) (by omega) (by decide) (by decide) (by decide) (by decide)
  have hSo : StOk (stM l [] 0 0 1) := stM_ok hl (fun x hx => by cases hx) (by omega) (by decide)
  have hS0 : Hid _ := only_start l
  have hrow := fun n => only_row (l := l) (more := more) (n := n) hl hm (by omega) (by omega)
  have hnil : Hid _ := only_nil l more
  go_wp2_with fail
  refine (hst _ hb).mono ?_
  rintro en w2 ⟨uo, uc, rfl, hG⟩
  have hS8 := hG.sl
  replace hb := hb.trans (hG.below.mono hb.size)
  clear hG hst
  generalize stM l [] 0 0 1 = S at *
  have hapS0 : ∀ d, uo = some d → 0 < (entR S.log).length → d.block < w2.heap.size := fun d hd hn => by
    subst hd
    exact Sl.block_lt hS8 hn (by decide)
  have hbs := hb.size
  obtain ⟨w3, hw3, hX, hq⟩ := new_var w2 40 (stC st0 none 0) (stC S uo uc)
  have hlt3 := hX.lt
  replace hS8 := hS8.later hq
  replace hb := hb.trans (hq.mono hb.size)
  clear hq
  obtain ⟨w4, hw4, hY, hq⟩ := new_var w3 40 (stC st0 none 0) (stC S uo uc)
  have hX4 := hX.later hq
  replace hS8 := hS8.later hq
  replace hb := hb.trans (hq.mono hb.size)
  clear hq
  go_wp2_with (first
    | (refine wpList_alloc_has (by rfl) 40 rfl (stC st0 none 0) st_zero ?_)
    | (refine wpList_store_to (by rfl) 40 _ _ rfl w2.heap.size rfl (stC S uo uc) rfl 40 (stC st0 none 0) (st_size _ _ _) (st_same _ _ _ _ _ _) (st_one _ _ _) ?hg w3 ?hW ?_; (case hg => exact Has.new _ _ _); (case hW => exact hw3); clear hw3)
    | (refine wpList_load_has (by rfl) 40 _ rfl (w2.heap.size) rfl 40 (stC S uo uc) _ Try.underlying40 rfl (st_size _ _ _) ?hg ?_; (case hg => exact hX))
    | (refine wpList_store_to (by rfl) 40 _ _ rfl w3.heap.size rfl (stC S uo uc) rfl 40 (stC st0 none 0) (st_size _ _ _) (st_same _ _ _ _ _ _) (st_one _ _ _) ?hg w4 ?hW ?_; (case hg => exact Has.new _ _ _); (case hW => exact hw4); clear hw4)
    | fail)
  replace hX := hX4
  clear hX4
  have hgt0 : w.heap.size ≤ w3.heap.size := by omega
  have hgs0 : w2.heap.size < w3.heap.size := by omega
  have hapS : ∀ d, uo = some d → 0 < (entR S.log).length → d.block ≠ w3.heap.size := fun d hd hn => by have := hapS0 d hd hn; omega
  clear hlt3 hapS0
  generalize w3.heap.size = gt at *
  generalize w2.heap.size = gs at *
  go_loopw [9, 10] (fun v i wr => ∃ (n : Nat) (ro : Option Addr) (rc : Nat), n ≤ more.length ∧ i = .int .i64 n ∧ v = .int .i64 (((more.take n).filter writesM).length : Int) ∧ Has wr gs 40 (stC S uo uc) ∧ Has wr gt 40 (stC (full 1 (onlyE l more n) ((onlyE l more n).length - 6)) ro rc) ∧ Sl wr uo uc 8 (entR S.log) ∧ Sl wr ro rc 8 (entR (full 1 (onlyE l more n) ((onlyE l more n).length - 6)).log) ∧ (∀ d, ro = some d → 0 < (entR (full 1 (onlyE l more n) ((onlyE l more n).length - 6)).log).length → d.block ≠ gt) ∧ Below w.heap.size w wr) (fun _ i _ => more.length - (intOf i).toNat)
  case atStart =>
    rw [hS0.out] at hY hS8 hapS
    refine ⟨0, uo, uc, Nat.zero_le _, rfl, rfl, hX, ?_, by rw [hS0.out]; exact hS8, ?_, ?_, hb⟩
    · rw [hnil.out]; exact hY
    · rw [hnil.out]; exact hS8
    · rw [hnil.out]; exact hapS
  case round =>
    clear hX hY hb hS8
    obtain ⟨n, ro, rc, hn, rfl, rfl, hX, hY, hS8, hT8, hap, hb⟩ := hrel
    by_cases hlt : n < more.length
    · cases bo with
      | none => have := h'.nil rfl; omega
      | some ad =>
        have hyo := hm more[n] (List.getElem_mem hlt)
        have hci := fun W (hW : Below w.heap.size w W) => op_at (h'.later hW) n hlt
        have hnext : Hid _ := only_step (l := l) hlt
        have hcnt : Hid _ := only_count (l := l) hlt
        have hEr := hrow n
        have hat := only_last (l := l) (more := more) (n := n)
        have hltI : (n : Int) < (more.length : Int) := by omega
        have hcn : ((more.take n).filter writesM).length ≤ 6 := Nat.le_trans (filter_len _) (by rw [List.length_take]; omega)
        generalize more[n] = y at *
        generalize ((more.take n).filter writesM).length = k at *
        generalize onlyE l more n = E at *
        have hTo : StOk (full 1 E (E.length - 6)) := full_ok hEr (by decide)
        have hhd : Hid (headM (full 1 E (E.length - 6)) = ((lastE ent0 E).since, E.length)) := full_headM hEr (by decide) (by omega)
        have hA : Hid _ := full_add (st := 1) (o := y) hEr (by decide) hat (by decide)
        have hEl := hEr.len
        have heo : EntOk ⟨30, E.length + 1, y⟩ := ⟨by show 30 < _; decide, by show E.length + 1 < _; omega, hyo⟩
        go_wp2_with (first
          | (refine wpList_load_has (by rfl) 40 _ rfl (gt) rfl 40 (stC (full 1 E (E.length - 6)) ro rc) _ Try.underlying40 rfl (st_size _ _ _) ?hg ?_; (case hg => exact hY))
          | fail)
        refine (head_any (full 1 E (E.length - 6)) ro rc _ hTo hT8).mono ?_
        rintro en w5 ⟨rfl, hq⟩
        rw [hhd.out]
        replace hX := hX.later hq
        replace hY := hY.later hq
        replace hS8 := hS8.later hq
        replace hT8 := hT8.later hq
        replace hb := hb.trans (hq.mono hb.size)
        clear hq hhd
        generalize (lastE ent0 E).since = ps at *
        have hva := fun W (hS : Sl W ro rc 8 (entR (full 1 E (E.length - 6)).log)) => add_any (full 1 E (E.length - 6)) ro rc ⟨30, E.length + 1, y⟩ W hTo heo hS
        generalize addM (full 1 E (E.length - 6)) ⟨30, E.length + 1, y⟩ = A at *
        have hltY := hY.lt
        have hbA : Below w5.heap.size w5 w5.drew := (Below.refl _ _).drew
        go_wp2_with fail
        refine wp_region_plan (fun W => Below w5.heap.size w5 W) (Plan.of [(0, true), (1, true), (2, true), (3, true), (4, true), (5, true), (6, true), (7, true)] (.either 8 (Plan.of [(9, true), (10, true), (11, true), (12, false), (13, false), (14, true)] .done) 12 (Plan.of [(8, false), (9, true), (10, true), (11, true), (13, false), (14, true)] .done))) (by kernel_rfl) (by kernel_rfl) (by kernel_rfl) (by kernel_rfl) hbA ?_
        refine plan_take _ _ rfl (yields_load_has (by rfl) 40 _ rfl (gt) rfl 40 (stC (full 1 E (E.length - 6)) ro rc) _ Try.underlying40 rfl (st_size _ _ _) (fun W hW => hY.later hW)) ?_
        try simp only [Act.put, List.setIfInBounds_toArray, List.set_cons_zero, List.set_cons_succ]
        iterate 1
          first
            | (refine plan_pass _ rfl (by rfl) ?_)
            | (refine plan_take _ _ rfl (.inl ⟨by rfl, fun W hS => by clear hS; go_simp; try with_reducible rfl⟩) ?_)
          try simp only [Act.put, List.setIfInBounds_toArray, List.set_cons_zero, List.set_cons_succ]
        refine plan_take _ (.int .u32 ((E.length + 1 : Nat) : Int)) rfl (.inl ⟨by rfl, fun W _ => run_add_u32 _ _ _ _ rfl E.length 1 (E.length + 1) rfl rfl rfl (by omega) W⟩) ?_
        try simp only [Act.put, List.setIfInBounds_toArray, List.set_cons_zero, List.set_cons_succ]
        iterate 3
          first
            | (refine plan_pass _ rfl (by rfl) ?_)
            | (refine plan_take _ _ rfl (.inl ⟨by rfl, fun W hS => by clear hS; go_simp; try with_reducible rfl⟩) ?_)
          try simp only [Act.put, List.setIfInBounds_toArray, List.set_cons_zero, List.set_cons_succ]
        refine plan_take _ _ rfl (.inl ⟨by rfl, fun W hW => run_load_any 35 _ rfl _ rfl (opL y) _ (hci W (hb.trans (hW.mono hb.size))) Try.underlying35 rfl (op_size y)⟩) ?_
        try simp only [Act.put, List.setIfInBounds_toArray, List.set_cons_zero, List.set_cons_succ]
        refine plan_take _ _ rfl (yields_build_three (by rfl) 37 0 1 2 _ _ _ rfl (.int .u32 30) (.int .u32 ((E.length + 1 : Nat) : Int)) (.agg (opC y)) rfl rfl rfl (entC ⟨30, E.length + 1, y⟩) (ent_built _ _ _)) ?_
        try simp only [Act.put, List.setIfInBounds_toArray, List.set_cons_zero, List.set_cons_succ]
        refine plan_either ?_ ?_
        · refine plan_run _ rfl (fun K hK => ?_)
          go_simp
          refine (hva _ (hT8.later hbA)).mono ?_
          rintro en w6 ⟨so, sc, rfl, hG⟩
          have hb5 : Below w5.heap.size w5 w6 := hbA.trans (hG.below.mono hbA.size)
          have hnew : ∀ d, so = some d → w5.heap.size ≤ d.block := hG.new
          refine hK.out _ _ hb5 ?_
          clear hK K
          try simp only [Act.put, List.setIfInBounds_toArray, List.set_cons_zero, List.set_cons_succ]
          iterate 3
            first
              | (refine plan_pass _ rfl (by rfl) ?_)
              | (refine plan_take _ _ rfl (.inl ⟨by rfl, fun W hS => by clear hS; go_simp; try with_reducible rfl⟩) ?_)
            try simp only [Act.put, List.setIfInBounds_toArray, List.set_cons_zero, List.set_cons_succ]
          refine plan_alloc_has _ rfl (by rfl) 40 rfl (stC st0 none 0) st_zero (hb5.alloc hb5.size _) ?_
          try simp only [Act.put, List.setIfInBounds_toArray, List.set_cons_zero, List.set_cons_succ]
          obtain ⟨w7, hw7, hT, hq⟩ := new_var w6 40 (stC st0 none 0) (stC A.1 so sc)
          have hb6 : Below w5.heap.size w5 w7 := hb5.trans (hq.mono hb5.size)
          have hsl6 := hG.sl.later hq
          refine plan_store_has _ rfl (by rfl) 40 _ _ rfl w6.heap.size rfl (stC A.1 so sc) rfl 40 (stC st0 none 0) (st_size _ _ _) (st_same _ _ _ _ _ _) (st_one _ _ _) (Has.new _ _ _) (by rw [hw7]; exact hb6) ?_
          rw [hw7]
          try simp only [Act.put, List.setIfInBounds_toArray, List.set_cons_zero, List.set_cons_succ]
          iterate 1
            first
              | (refine plan_pass _ rfl (by rfl) ?_)
              | (refine plan_take _ _ rfl (.inl ⟨by rfl, fun W hS => by clear hS; go_simp; try with_reducible rfl⟩) ?_)
            try simp only [Act.put, List.setIfInBounds_toArray, List.set_cons_zero, List.set_cons_succ]
          refine plan_done ?_
          clear hw7 hq hG hb5 hva
          generalize w6.heap.size = gv at *
          have hlt9 := hY.lt
          replace hX := hX.later hb6
          replace hY := hY.later hb6
          replace hS8 := hS8.later hb6
          replace hT8 := hT8.later hb6
          replace hb := hb.trans (hb6.mono hb.size)
          have hE0 : Hid (A.2 = if writesM y = true then 0 else 10) := by show _ = _; rw [hA.out]; split <;> rfl
          have hE1 : Hid (writesM y = true → A.1 = full 1 (E ++ [⟨30, E.length + 1, y⟩]) (E.length + 1 - 6)) := fun h => by rw [hA.out, if_pos h]
          clear hA
          cases hw : writesM y with
          | false =>
            rw [hw, if_neg (by simp)] at hE0 hnext hcnt
            have hA2 : ((A.2 : Int) == 0) = false := by rw [hE0.out]; rfl
            have hA2N : (A.2 == 0) = false := by rw [hE0.out]; rfl
            go_wp2_with fail
            go_roundw
            case rel => exact ⟨n + 1, ro, rc, by omega, by go_num, by rw [hcnt.out], hX, by rw [hnext.out]; exact hY, hS8, by rw [hnext.out]; exact hT8, by rw [hnext.out]; exact hap, hb⟩
            case measure => simp [intOf]; omega
          | true =>
            rw [hw, if_pos rfl] at hE0 hnext hcnt
            have hA2 : ((A.2 : Int) == 0) = true := by rw [hE0.out]; rfl
            have hA2N : (A.2 == 0) = true := by rw [hE0.out]; rfl
            have hE2 : Hid ((E ++ [(⟨30, E.length + 1, y⟩ : EntV)]).length - 6 = E.length + 1 - 6) := by show _ = _; rw [List.length_append]; rfl
            have hfin : Hid (full 1 (onlyE l more (n + 1)) ((onlyE l more (n + 1)).length - 6) = A.1) := by show _ = _; rw [hE1.out hw, hnext.out, hE2.out]
            clear hE0 hE1 hE2 hnext
            have hY7 := hY.row (stC A.1 so sc)
            have hX7 := hX.row_other (k := gt) (by omega) (stC A.1 so sc)
            have hS7 := hS8.row_if (k := gt) hapS (stC A.1 so sc)
            have hL7 := hsl6.row_other (k := gt) (fun d hd => by have := hnew d hd; omega) (stC A.1 so sc)
            have hb7 := below_setRow hb hgt0 (stC A.1 so sc)
            have hap7 : ∀ d, so = some d → 0 < (entR A.1.log).length → d.block ≠ gt := fun d hd _ => by have := hnew d hd; omega
            go_wp2_with (first
              | (refine wpList_load_has (by rfl) 40 _ rfl (gv) rfl 40 (stC A.1 so sc) _ Try.underlying40 rfl (st_size _ _ _) ?hg ?_; (case hg => exact hT))
              | (refine wpList_store_has (by rfl) 40 _ _ rfl (gt) rfl (stC A.1 so sc) rfl 40 (stC (full 1 E (E.length - 6)) ro rc) (st_size _ _ _) (st_same _ _ _ _ _ _) (st_one _ _ _) ?hg ?_; (case hg => exact hY))
              | fail)
            go_roundw
            case rel => exact ⟨n + 1, so, sc, by omega, by go_num, by rw [hcnt.out]; go_num, hX7, by rw [hfin.out]; exact hY7, hS7, by rw [hfin.out]; exact hL7, by rw [hfin.out]; exact hap7, hb7⟩
            case measure => simp [intOf]; omega
        · refine plan_alloc_has _ rfl (by rfl) 40 rfl (stC st0 none 0) st_zero (hbA.alloc hbA.size _) ?_
          try simp only [Act.put, List.setIfInBounds_toArray, List.set_cons_zero, List.set_cons_succ]
          obtain ⟨w6, hw6, hT, hq⟩ : ∃ W, w5.drew.alloc (.cells (stC st0 none 0) 40) = W ∧ Has W w5.heap.size 40 (stC st0 none 0) ∧ Below w5.heap.size w5.drew W := one_var w5.drew 40 (stC st0 none 0)
          rw [hw6]
          have hb5 : Below w5.heap.size w5 w6 := hbA.trans (hq.mono hbA.size)
          have hlt3 := hT.lt
          clear hq hw6
          refine plan_run _ rfl (fun K hK => ?_)
          go_simp
          refine (hva _ (hT8.later hb5)).mono ?_
          rintro en w7 ⟨so, sc, rfl, hG⟩
          have hb7 : Below w5.heap.size w5 w7 := hb5.trans (hG.below.mono hb5.size)
          have hnew : ∀ d, so = some d → w5.heap.size ≤ d.block := fun d hd => by have := hG.new d hd; have := hb5.size; omega
          have hnet : ∀ d, so = some d → d.block ≠ w5.heap.size := fun d hd => by have := hG.new d hd; omega
          refine hK.out _ _ hb7 ?_
          clear hK K
          try simp only [Act.put, List.setIfInBounds_toArray, List.set_cons_zero, List.set_cons_succ]
          iterate 3
            first
              | (refine plan_pass _ rfl (by rfl) ?_)
              | (refine plan_take _ _ rfl (.inl ⟨by rfl, fun W hS => by clear hS; go_simp; try with_reducible rfl⟩) ?_)
            try simp only [Act.put, List.setIfInBounds_toArray, List.set_cons_zero, List.set_cons_succ]
          replace hT := hT.later hG.below
          have hT7 := hT.row (stC A.1 so sc)
          have hb6 := below_setRow hb7 (Nat.le_refl _) (stC A.1 so sc)
          have hsl6 := hG.sl.row_other hnet (stC A.1 so sc)
          refine plan_store_has _ rfl (by rfl) 40 _ _ rfl w5.heap.size rfl (stC A.1 so sc) rfl 40 (stC st0 none 0) (st_size _ _ _) (st_same _ _ _ _ _ _) (st_one _ _ _) hT hb6 ?_
          try simp only [Act.put, List.setIfInBounds_toArray, List.set_cons_zero, List.set_cons_succ]
          iterate 1
            first
              | (refine plan_pass _ rfl (by rfl) ?_)
              | (refine plan_take _ _ rfl (.inl ⟨by rfl, fun W hS => by clear hS; go_simp; try with_reducible rfl⟩) ?_)
            try simp only [Act.put, List.setIfInBounds_toArray, List.set_cons_zero, List.set_cons_succ]
          refine plan_done ?_
          replace hT := hT7
          clear hG hb7 hva hT7 hnet hlt3 hb5
          generalize w7.setRow w5.heap.size (stC A.1 so sc) = w9 at *
          have hlt9 := hY.lt
          replace hX := hX.later hb6
          replace hY := hY.later hb6
          replace hS8 := hS8.later hb6
          replace hT8 := hT8.later hb6
          replace hb := hb.trans (hb6.mono hb.size)
          have hE0 : Hid (A.2 = if writesM y = true then 0 else 10) := by show _ = _; rw [hA.out]; split <;> rfl
          have hE1 : Hid (writesM y = true → A.1 = full 1 (E ++ [⟨30, E.length + 1, y⟩]) (E.length + 1 - 6)) := fun h => by rw [hA.out, if_pos h]
          clear hA
          cases hw : writesM y with
          | false =>
            rw [hw, if_neg (by simp)] at hE0 hnext hcnt
            have hA2 : ((A.2 : Int) == 0) = false := by rw [hE0.out]; rfl
            have hA2N : (A.2 == 0) = false := by rw [hE0.out]; rfl
            go_wp2_with fail
            go_roundw
            case rel => exact ⟨n + 1, ro, rc, by omega, by go_num, by rw [hcnt.out], hX, by rw [hnext.out]; exact hY, hS8, by rw [hnext.out]; exact hT8, by rw [hnext.out]; exact hap, hb⟩
            case measure => simp [intOf]; omega
          | true =>
            rw [hw, if_pos rfl] at hE0 hnext hcnt
            have hA2 : ((A.2 : Int) == 0) = true := by rw [hE0.out]; rfl
            have hA2N : (A.2 == 0) = true := by rw [hE0.out]; rfl
            have hE2 : Hid ((E ++ [(⟨30, E.length + 1, y⟩ : EntV)]).length - 6 = E.length + 1 - 6) := by show _ = _; rw [List.length_append]; rfl
            have hfin : Hid (full 1 (onlyE l more (n + 1)) ((onlyE l more (n + 1)).length - 6) = A.1) := by show _ = _; rw [hE1.out hw, hnext.out, hE2.out]
            clear hE0 hE1 hE2 hnext
            have hY7 := hY.row (stC A.1 so sc)
            have hX7 := hX.row_other (k := gt) (by omega) (stC A.1 so sc)
            have hS7 := hS8.row_if (k := gt) hapS (stC A.1 so sc)
            have hL7 := hsl6.row_other (k := gt) (fun d hd => by have := hnew d hd; omega) (stC A.1 so sc)
            have hb7 := below_setRow hb hgt0 (stC A.1 so sc)
            have hap7 : ∀ d, so = some d → 0 < (entR A.1.log).length → d.block ≠ gt := fun d hd _ => by have := hnew d hd; omega
            go_wp2_with (first
              | (refine wpList_load_has (by rfl) 40 _ rfl (w5.heap.size) rfl 40 (stC A.1 so sc) _ Try.underlying40 rfl (st_size _ _ _) ?hg ?_; (case hg => exact hT))
              | (refine wpList_store_has (by rfl) 40 _ _ rfl (gt) rfl (stC A.1 so sc) rfl 40 (stC (full 1 E (E.length - 6)) ro rc) (st_size _ _ _) (st_same _ _ _ _ _ _) (st_one _ _ _) ?hg ?_; (case hg => exact hY))
              | fail)
            go_roundw
            case rel => exact ⟨n + 1, so, sc, by omega, by go_num, by rw [hcnt.out]; go_num, hX7, by rw [hfin.out]; exact hY7, hS7, by rw [hfin.out]; exact hL7, by rw [hfin.out]; exact hap7, hb7⟩
            case measure => simp [intOf]; omega
    · have e5 : n = more.length := by omega
      subst e5
      have hcn : ((more.take more.length).filter writesM).length ≤ 6 := Nat.le_trans (filter_len _) (by rw [List.length_take]; omega)
      have hr0 := hrow 0
      rw [hnil.out] at hr0
      have hOn := onlys hr0 (hrow more.length) (only_pre l more more.length) (only_len l more more.length) hcn
      rw [← hS0.out] at hOn
      have hltI : ¬ (more.length : Int) < (more.length : Int) := by omega
      clear hr0 hrow hS0 hnil hap hapS
      generalize ((more.take more.length).filter writesM).length = k at *
      generalize full 1 (onlyE l more more.length) ((onlyE l more more.length).length - 6) = T at *
      have hTo := hOn.okT
      have hkd : Hid _ := hOn.kind
      have hlg : Hid _ := hOn.log
      have happ : Hid _ := hOn.app
      have hagn : Hid _ := hOn.again
      have hext : Hid _ := hOn.ext
      have hbck : Hid _ := hOn.back
      clear hOn
      go_wp2_with (first
        | (refine wpList_load_has (by rfl) 40 _ rfl (gs) rfl 40 (stC S uo uc) _ Try.underlying40 rfl (st_size _ _ _) ?hg ?_; (case hg => exact hX))
        | (refine wpList_load_has (by rfl) 40 _ rfl (gt) rfl 40 (stC T ro rc) _ Try.underlying40 rfl (st_size _ _ _) ?hg ?_; (case hg => exact hY))
        | fail)
      refine (make_any S T uo ro uc rc _ hSo hTo hS8 hT8).mono ?_
      rintro en w5 ⟨lo, lc, wo, wc, rfl, hG⟩
      have hDl := hG.sl
      have hDw := hG.wl
      have hDo := make_fit hSo hTo
      replace hS8 := hS8.later hG.below
      replace hT8 := hT8.later hG.below
      replace hX := hX.later hG.below
      replace hY := hY.later hG.below
      replace hb := hb.trans (hG.below.mono hb.size)
      clear hG
      generalize makeM S T = D at *
      obtain ⟨w6, hw6, hD, hq⟩ := new_var w5 61 (diffC diff0 none 0 none 0) (diffC D lo lc wo wc)
      replace hS8 := hS8.later hq
      replace hT8 := hT8.later hq
      replace hX := hX.later hq
      replace hY := hY.later hq
      replace hDl := hDl.later hq
      replace hDw := hDw.later hq
      replace hb := hb.trans (hq.mono hb.size)
      clear hq
      go_wp2_with (first
        | (refine wpList_alloc_has (by rfl) 61 rfl (diffC diff0 none 0 none 0) diff_zero ?_)
        | (refine wpList_store_to (by rfl) 61 _ _ rfl w5.heap.size rfl (diffC D lo lc wo wc) rfl 61 (diffC diff0 none 0 none 0) (diff_size _ _ _ _ _) (diff_same _ _ _ _ _ _ _ _ _ _) (diff_one _ _ _ _ _) ?hg w6 ?hW ?_; (case hg => exact Has.new _ _ _); (case hW => exact hw6); clear hw6; generalize w5.heap.size = gd at *)
        | (refine wpList_load_has (by rfl) 40 _ rfl (gs) rfl 40 (stC S uo uc) _ Try.underlying40 rfl (st_size _ _ _) ?hg ?_; (case hg => exact hX))
        | (refine wpList_load_has (by rfl) 61 _ rfl (gd) rfl 61 (diffC D lo lc wo wc) _ Try.underlying61 rfl (diff_size _ _ _ _ _) ?hg ?_; (case hg => exact hD))
        | fail)
      refine (apply_any S D uo lo wo uc lc wc _ hSo hDo hS8 hDl hDw).mono ?_
      rintro en w7 ⟨xo, xc, rfl, hG⟩
      rw [happ.out] at hG
      rw [happ.out]
      have hX8 := hG.sl
      replace hS8 := hS8.later hG.below
      replace hT8 := hT8.later hG.below
      replace hX := hX.later hG.below
      replace hY := hY.later hG.below
      replace hD := hD.later hG.below
      replace hDl := hDl.later hG.below
      replace hDw := hDw.later hG.below
      replace hb := hb.trans (hG.below.mono hb.size)
      clear hG happ
      obtain ⟨w8, hw8, hU, hq⟩ := new_var w7 40 (stC st0 none 0) (stC T xo xc)
      replace hS8 := hS8.later hq
      replace hT8 := hT8.later hq
      replace hX := hX.later hq
      replace hY := hY.later hq
      replace hD := hD.later hq
      replace hDl := hDl.later hq
      replace hDw := hDw.later hq
      replace hX8 := hX8.later hq
      replace hb := hb.trans (hq.mono hb.size)
      clear hq
      go_wp2_with (first
        | (refine wpList_alloc_has (by rfl) 40 rfl (stC st0 none 0) st_zero ?_)
        | (refine wpList_store_to (by rfl) 40 _ _ rfl w7.heap.size rfl (stC T xo xc) rfl 40 (stC st0 none 0) (st_size _ _ _) (st_same _ _ _ _ _ _) (st_one _ _ _) ?hg w8 ?hW ?_; (case hg => exact Has.new _ _ _); (case hW => exact hw8); clear hw8; generalize w7.heap.size = gu at *)
        | (refine wpList_load_has (by rfl) 40 _ rfl (gu) rfl 40 (stC T xo xc) _ Try.underlying40 rfl (st_size _ _ _) ?hg ?_; (case hg => exact hU))
        | (refine wpList_load_has (by rfl) 61 _ rfl (gd) rfl 61 (diffC D lo lc wo wc) _ Try.underlying61 rfl (diff_size _ _ _ _ _) ?hg ?_; (case hg => exact hD))
        | fail)
      refine (apply_any T D xo lo wo xc lc wc _ hTo hDo hX8 hDl hDw).mono ?_
      rintro en w9 ⟨yo, yc, rfl, hG⟩
      rw [hagn.out] at hG
      rw [hagn.out]
      have hY8 := hG.sl
      replace hS8 := hS8.later hG.below
      replace hT8 := hT8.later hG.below
      replace hX := hX.later hG.below
      replace hY := hY.later hG.below
      replace hD := hD.later hG.below
      replace hU := hU.later hG.below
      replace hX8 := hX8.later hG.below
      replace hb := hb.trans (hG.below.mono hb.size)
      clear hG hagn hDl hDw
      obtain ⟨w10, hw10, hV, hq⟩ := new_var w9 40 (stC st0 none 0) (stC T yo yc)
      replace hS8 := hS8.later hq
      replace hT8 := hT8.later hq
      replace hX := hX.later hq
      replace hY := hY.later hq
      replace hD := hD.later hq
      replace hU := hU.later hq
      replace hX8 := hX8.later hq
      replace hY8 := hY8.later hq
      replace hb := hb.trans (hq.mono hb.size)
      clear hq
      have k0 := hD.d_kind
      have k2 := hD.d_log
      rw [hkd.out] at k0
      rw [hlg.out] at k2
      clear hkd hlg
      by_cases hk : k = 0
      · have i0 : ((k : Int) == 0) = true := by rw [hk]; rfl
        have i0N : (k == 0) = true := by rw [hk]; rfl
        rw [if_pos hk] at k0
        rw [decide_eq_true hk] at hbck
        clear hk
        go_wp2_with (first
          | (refine wpList_alloc_has (by rfl) 40 rfl (stC st0 none 0) st_zero ?_)
          | (refine wpList_store_to (by rfl) 40 _ _ rfl w9.heap.size rfl (stC T yo yc) rfl 40 (stC st0 none 0) (st_size _ _ _) (st_same _ _ _ _ _ _) (st_one _ _ _) ?hg w10 ?hW ?_; (case hg => exact Has.new _ _ _); (case hW => exact hw10); clear hw10; generalize w9.heap.size = gv at *)
          | (refine wpList_load_has (by rfl) 40 _ rfl (gu) rfl 40 (stC T xo xc) _ Try.underlying40 rfl (st_size _ _ _) ?hg ?_; (case hg => exact hU))
          | (refine wpList_load_has (by rfl) 40 _ rfl (gt) rfl 40 (stC T ro rc) _ Try.underlying40 rfl (st_size _ _ _) ?hg ?_; (case hg => exact hY))
          | fail)
        refine (same_any T T xo ro xc rc _ hTo hTo hX8 hT8).mono ?_
        rintro en wa ⟨rfl, hq⟩
        rw [same_self]
        replace hS8 := hS8.later hq
        replace hT8 := hT8.later hq
        replace hX := hX.later hq
        replace hY := hY.later hq
        replace hV := hV.later hq
        replace hY8 := hY8.later hq
        replace hb := hb.trans (hq.mono hb.size)
        clear hq k0 k2
        go_wp2_with (first
          | (refine wpList_load_has (by rfl) 40 _ rfl (gv) rfl 40 (stC T yo yc) _ Try.underlying40 rfl (st_size _ _ _) ?hg ?_; (case hg => exact hV))
          | (refine wpList_load_has (by rfl) 40 _ rfl (gt) rfl 40 (stC T ro rc) _ Try.underlying40 rfl (st_size _ _ _) ?hg ?_; (case hg => exact hY))
          | fail)
        refine (same_any T T yo ro yc rc _ hTo hTo hY8 hT8).mono ?_
        rintro en wb ⟨rfl, hq⟩
        rw [same_self]
        replace hS8 := hS8.later hq
        replace hT8 := hT8.later hq
        replace hX := hX.later hq
        replace hY := hY.later hq
        replace hb := hb.trans (hq.mono hb.size)
        clear hq
        go_wp2_with (first
          | (refine wpList_load_has (by rfl) 40 _ rfl (gs) rfl 40 (stC S uo uc) _ Try.underlying40 rfl (st_size _ _ _) ?hg ?_; (case hg => exact hX))
          | (refine wpList_load_has (by rfl) 40 _ rfl (gt) rfl 40 (stC T ro rc) _ Try.underlying40 rfl (st_size _ _ _) ?hg ?_; (case hg => exact hY))
          | fail)
        refine (extends_any S T uo ro uc rc _ hSo hTo hS8 hT8).mono ?_
        rintro en wc' ⟨rfl, hq⟩
        rw [hext.out]
        replace hS8 := hS8.later hq
        replace hT8 := hT8.later hq
        replace hX := hX.later hq
        replace hY := hY.later hq
        replace hb := hb.trans (hq.mono hb.size)
        clear hq
        go_wp2_with (first
          | (refine wpList_load_has (by rfl) 40 _ rfl (gt) rfl 40 (stC T ro rc) _ Try.underlying40 rfl (st_size _ _ _) ?hg ?_; (case hg => exact hY))
          | (refine wpList_load_has (by rfl) 40 _ rfl (gs) rfl 40 (stC S uo uc) _ Try.underlying40 rfl (st_size _ _ _) ?hg ?_; (case hg => exact hX))
          | fail)
        refine (extends_any T S ro uo rc uc _ hTo hSo hT8 hS8).mono ?_
        rintro en wd ⟨rfl, hq⟩
        rw [hbck.out]
        replace hb := hb.trans (hq.mono hb.size)
        clear hq
        go_wp2_with fail
        go_ret
        exact ⟨rfl, hb⟩
      · have i0 : ((k : Int) == 0) = false := by rw [beq_eq_false_iff_ne]; omega
        have i0N : (k == 0) = false := by rw [beq_eq_false_iff_ne]; omega
        rw [if_neg hk] at k0
        rw [decide_eq_false hk] at hbck
        clear hk
        go_wp2_with (first
          | (refine wpList_alloc_has (by rfl) 40 rfl (stC st0 none 0) st_zero ?_)
          | (refine wpList_store_to (by rfl) 40 _ _ rfl w9.heap.size rfl (stC T yo yc) rfl 40 (stC st0 none 0) (st_size _ _ _) (st_same _ _ _ _ _ _) (st_one _ _ _) ?hg w10 ?hW ?_; (case hg => exact Has.new _ _ _); (case hW => exact hw10); clear hw10; generalize w9.heap.size = gv at *)
          | (refine wpList_load_has (by rfl) 40 _ rfl (gu) rfl 40 (stC T xo xc) _ Try.underlying40 rfl (st_size _ _ _) ?hg ?_; (case hg => exact hU))
          | (refine wpList_load_has (by rfl) 40 _ rfl (gt) rfl 40 (stC T ro rc) _ Try.underlying40 rfl (st_size _ _ _) ?hg ?_; (case hg => exact hY))
          | fail)
        refine (same_any T T xo ro xc rc _ hTo hTo hX8 hT8).mono ?_
        rintro en wa ⟨rfl, hq⟩
        rw [same_self]
        replace hS8 := hS8.later hq
        replace hT8 := hT8.later hq
        replace hX := hX.later hq
        replace hY := hY.later hq
        replace hV := hV.later hq
        replace hY8 := hY8.later hq
        replace hb := hb.trans (hq.mono hb.size)
        clear hq k0 k2
        go_wp2_with (first
          | (refine wpList_load_has (by rfl) 40 _ rfl (gv) rfl 40 (stC T yo yc) _ Try.underlying40 rfl (st_size _ _ _) ?hg ?_; (case hg => exact hV))
          | (refine wpList_load_has (by rfl) 40 _ rfl (gt) rfl 40 (stC T ro rc) _ Try.underlying40 rfl (st_size _ _ _) ?hg ?_; (case hg => exact hY))
          | fail)
        refine (same_any T T yo ro yc rc _ hTo hTo hY8 hT8).mono ?_
        rintro en wb ⟨rfl, hq⟩
        rw [same_self]
        replace hS8 := hS8.later hq
        replace hT8 := hT8.later hq
        replace hX := hX.later hq
        replace hY := hY.later hq
        replace hb := hb.trans (hq.mono hb.size)
        clear hq
        go_wp2_with (first
          | (refine wpList_load_has (by rfl) 40 _ rfl (gs) rfl 40 (stC S uo uc) _ Try.underlying40 rfl (st_size _ _ _) ?hg ?_; (case hg => exact hX))
          | (refine wpList_load_has (by rfl) 40 _ rfl (gt) rfl 40 (stC T ro rc) _ Try.underlying40 rfl (st_size _ _ _) ?hg ?_; (case hg => exact hY))
          | fail)
        refine (extends_any S T uo ro uc rc _ hSo hTo hS8 hT8).mono ?_
        rintro en wc' ⟨rfl, hq⟩
        rw [hext.out]
        replace hS8 := hS8.later hq
        replace hT8 := hT8.later hq
        replace hX := hX.later hq
        replace hY := hY.later hq
        replace hb := hb.trans (hq.mono hb.size)
        clear hq
        go_wp2_with (first
          | (refine wpList_load_has (by rfl) 40 _ rfl (gt) rfl 40 (stC T ro rc) _ Try.underlying40 rfl (st_size _ _ _) ?hg ?_; (case hg => exact hY))
          | (refine wpList_load_has (by rfl) 40 _ rfl (gs) rfl 40 (stC S uo uc) _ Try.underlying40 rfl (st_size _ _ _) ?hg ?_; (case hg => exact hX))
          | fail)
        refine (extends_any T S ro uo rc uc _ hTo hSo hT8 hS8).mono ?_
        rintro en wd ⟨rfl, hq⟩
        rw [hbck.out]
        replace hb := hb.trans (hq.mono hb.size)
        clear hq
        go_wp2_with fail
        go_ret
        exact ⟨rfl, hb⟩
end Go.Proofs.Ytphlfepgaghhhaa
