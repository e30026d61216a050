/- LogFinds, walked. -/
import Derived.Test.YtkkjdihmjcaibaaCutsLaw
namespace Go.Proofs.Ytkkjdihmjcaibaa
set_option linter.unusedSimpArgs false
set_option linter.unusedVariables false
set_option maxRecDepth 100000
open Go.RowKit

/-- The difference of two numbers of 64 bits, the first the greater. -/
theorem run_sub_i64 {P : Program} {o : Oper} {ev : Operand → Value} (ty ty' : TypeId) (x y : Operand) (ho : o.op = .binOp .sub ty x y ty') (n m k : Nat) (hx : ev x = .int .i64 (n : Int)) (hy : ev y = .int .i64 (m : Int)) (hk : n = m + k) (hl : k < 4294967296) (w : World) :
    (execOp ev o).run P w = .ok (.value (.int .i64 (k : Int))) w := by
  subst hk
  have h4 : IntKind.i64.wrap (((m + k : Nat) : Int) - (m : Int)) = (k : Int) := by
    rw [show ((m + k : Nat) : Int) - (m : Int) = (k : Int) by omega]
    exact i64_small k hl
  unfold execOp
  simp only [ho, hx, hy]
  simp only [Sem.run_bind, go_sem, h4]
  simp [go_sem, h4]

set_option maxHeartbeats 4000000 in
theorem finds_walk (ao : Option Addr) (c n : Nat) (l : List OpV) (w : World) (h : Sl w ao c 6 (opR l)) (hl : ∀ x ∈ l, OpOk x) (hn : n < 4294967296) :
    Calls Try.prog 7 #[.slice ao l.length c, .int .u32 (n : Int)] w fun e w' => e = .returned (.bool true) ∧ Below w.heap.size w w' := by
  have hle := h.op_le
  have hcap := h.cap
  go_enter Try.func7, Try.ntmps7
  go_wp2_with fail
  refine (known_any _).mono ?_
  rintro e w1 ⟨rfl, hb⟩
  by_cases hlong : 40 < l.length
  · have hI : (40 : Int) < (l.length : Int) := by omega
    clear hlong
    go_wp2_with fail
    go_ret
    exact ⟨rfl, hb⟩
  have hI : ¬ ((40 : Int) < (l.length : Int)) := by omega
  have hl60 : l.length ≤ 60 := by omega
  have hlB : l.length ≤ 40 := by omega
  clear hlong
  go_wp2_with fail
  refine (row_any ao c 3 l _ (h.later hb) hl hl60 (by omega)).mono ?_
  rintro e w2 ⟨ro, rc, bo, bc, rfl, hS8, _, hD6, _, hq⟩
  replace hb := hb.trans (hq.mono hb.size)
  have hDw := filter_writes l
  have hDo := filter_ok hl
  have hD60 : (l.filter writesM).length ≤ 40 := Nat.le_trans (filter_len l) hlB
  have hD60I : ((l.filter writesM).length : Int) ≤ 40 := by omega
  have hRS := rowState (q := 3 % 60 + 1) (D := l.filter writesM) (by omega) hDw hDo (by omega)
  clear hq
  generalize stOf (3 % 60 + 1) (l.filter writesM) = S at *
  have hq60 : 3 % 60 + 1 ≤ 60 := by omega
  generalize 3 % 60 + 1 = q at *
  generalize l.filter writesM = D at *
  have hDc := hD6.op_le
  have hDcap := hD6.cap
  have hSo := hRS.ok
  have hSi : Hid _ := hRS.is'
  have hSf : Hid _ := hRS.fold
  have hSh : Hid _ := hRS.head
  have hSl : Hid _ := hRS.len
  have hSt : Hid _ := hRS.tail
  have hSb : Hid _ := hRS.base
  have hSe : Hid _ := hRS.eq
  clear hRS
  obtain ⟨w3, hw3, hX, hq⟩ := new_var w2 40 (stC st0 none 0) (stC S ro rc)
  replace hS8 := hS8.later hq
  replace hD6 := hD6.later hq
  replace hb := hb.trans (hq.mono hb.size)
  clear hq
  obtain ⟨t, ht⟩ : ∃ t, t = D.length - 6 := ⟨_, rfl⟩
  have hBo := all_ok base0_ok D hDo
  have hseenA : Hid (∀ i (hi : i < D.length), (seenM (allM base0 D).1 D[i]).2 = true) := fun i hi => seen_all base0 D i hi (hDw _ (List.getElem_mem hi))
  have hfy : Hid (∀ i (hi : i < D.length), t < i + 1 → findM S (i + 1) = (⟨q, i + 1, D[i]⟩, true)) := fun i hi hti => by
    rw [hSe.out]
    exact sK_find hq60 hDw (by omega) (by omega) (by omega) hi
  have hfn : Hid (∀ k, k ≤ t ∨ D.length < k → findM S k = (ent0, false)) := fun k hk => by
    rw [hSe.out]
    exact sK_find_no hq60 hDw (by omega) (by omega) (by rcases hk with hk | hk; left; omega; right; exact hk)
  generalize (allM base0 D).1 = B at *
  have hq32 : q < 4294967296 := by omega
  have htn : ∀ W, Has W w2.heap.size 40 (stC S ro rc) → W.cell? ⟨w2.heap.size, 41, none⟩ = some (.int .u32 (t : Int)) := fun W hW => by
    have := hW.st_tail_n
    rw [hSt.out, ← ht] at this
    exact this
  have ht40 : t ≤ 40 := by omega
  have ht40I : (t : Int) ≤ 40 := by omega
  clear ht hSt hSb hSl hSh hSe
  go_wp2_with (first
    | (refine wpList_alloc_has (by rfl) 40 rfl (stC st0 none 0) st_zero ?_)
    | (refine wpList_store_to (by rfl) 40 _ _ rfl w2.heap.size rfl (stC S ro rc) rfl 40 (stC st0 none 0) (st_size _ _ _) (st_same _ _ _ _ _ _) (st_one _ _ _) ?hg w3 ?hW ?_; (case hg => exact Has.new _ _ _); (case hW => exact hw3); clear hw3; generalize w2.heap.size = gs at *)
    | fail)
  go_loopw [7] (fun i wr => ∃ k : Nat, 1 ≤ k ∧ k ≤ D.length + 1 ∧ i = .int .i64 (k : Int) ∧ Has wr gs 40 (stC S ro rc) ∧ Sl wr ro rc 8 (entR S.log) ∧ Sl wr bo bc 6 (opR D) ∧ Below w.heap.size w wr) (fun i _ => 41 - (intOf i).toNat)
  case atStart => exact ⟨1, Nat.le_refl _, by omega, rfl, hX, hS8, hD6, hb⟩
  case round =>
    clear hX hS8 hD6 hb
    obtain ⟨k, hk1, hkD, rfl, hX, hS8, hD6, hb⟩ := hrel
    have hkI : (k : Int) ≤ 41 := by omega
    by_cases hlt : k ≤ D.length
    · have hltI : (k : Int) ≤ (D.length : Int) := by omega
      obtain ⟨i, hi⟩ : ∃ i, k = 1 + i := ⟨k - 1, by omega⟩
      have hiD : i < D.length := by omega
      have hiI : (i : Int) < (D.length : Int) := by omega
      cases bo with
      | none => have := hD6.nil rfl; omega
      | some bd =>
        have hyo := hDo D[i] (List.getElem_mem hiD)
        have hseen : Hid _ := hseenA.out i hiD
        have hfyk : Hid _ := hfy.out i hiD
        have hfnk : Hid _ := hfn.out k
        rw [show i + 1 = k by omega] at hfyk
        have hcy0 := fun W (hW : Below wr.heap.size wr W) => op_at (hD6.later hW) i hiD
        have hki : Hid _ := hi
        generalize D[i] = y at *
        have hrr : ∃ rr, rr = (seenM B y).1 := ⟨_, rfl⟩
        obtain ⟨rr, hrr⟩ := hrr
        have hseen2 : Hid (seenM B y = (rr, true)) := by
          have h1 := hseen.out
          rw [hrr]
          exact Prod.ext rfl h1
        replace hseen := hseen2
        clear hi hrr hseen2
        have hk32 : k < 4294967296 := by omega
        go_wp2_with (first
          | (refine wpList_load_has (by rfl) 40 _ rfl (gs) rfl 40 (stC S ro rc) _ Try.underlying40 rfl (st_size _ _ _) ?hg ?_; (case hg => exact hX)))
        refine (find_any S ro rc k _ hSo hS8 hk32).mono ?_
        rintro e w4 ⟨rfl, hq⟩
        replace hX := hX.later hq
        replace hS8 := hS8.later hq
        replace hD6 := hD6.later hq
        replace hb := hb.trans (hq.mono hb.size)
        have hqq := hq
        clear hq
        by_cases htk : t < k
        · have htkI : (t : Int) < (k : Int) := by omega
          have hF := hfyk.out htk
          rw [hF]
          replace htk : Hid _ := htk
          obtain ⟨v5, hv5, hE, hq⟩ := new_var w4 37 (entC ent0) (entC ⟨q, k, y⟩)
          replace hX := hX.later hq
          replace hS8 := hS8.later hq
          replace hD6 := hD6.later hq
          replace hb := hb.trans (hq.mono hb.size)
          replace hqq := hqq.trans (hq.mono hqq.size)
          have hcy := fun W (hW : Below v5.heap.size v5 W) => hcy0 W (hqq.trans (hW.mono hqq.size))
          clear hq hqq hcy0 hF
          go_wp2_with (first
            | (refine wpList_alloc_has (by rfl) 37 rfl (entC ent0) ent_zero ?_)
            | (refine wpList_store_to (by rfl) 37 _ _ rfl w4.heap.size rfl (entC ⟨q, k, y⟩) rfl 37 (entC ent0) (ent_size _) rfl (ent_one _) ?hg v5 ?hW ?_; (case hg => exact Has.new _ _ _); (case hW => exact hv5); clear hv5; generalize w4.heap.size = ge at *))
          have hbA : Below v5.heap.size v5 v5.drew := (Below.refl _ _).drew
          have heq := fun W => neqv_op y y hyo hyo W
          rw [same_self] at heq
          refine wp_region_plan (fun W => Below v5.heap.size v5 W) (Plan.of [(0, true), (1, true), (2, true), (3, true), (4, true), (5, true), (6, true), (7, true), (8, true), (9, true), (10, true), (11, true), (12, true), (13, true), (14, true), (15, true), (16, true), (17, true), (18, true), (19, true), (20, true), (21, true), (22, true), (23, true), (24, true), (25, true), (26, true), (27, true)] .done) (by kernel_rfl) (by kernel_rfl) (by kernel_rfl) (by kernel_rfl) hbA ?_
          iterate 4
            first
              | (refine plan_pass _ rfl (by rfl) ?_)
              | (refine plan_take _ _ rfl (.inl ⟨by rfl, fun W hS => by clear hS; go_simp; try with_reducible rfl⟩) ?_)
            try simp only [Act.put, List.setIfInBounds_toArray, List.set_cons_zero, List.set_cons_succ]
          iterate 1
            first
              | (refine plan_pass _ rfl (by rfl) ?_)
              | (refine plan_take _ _ rfl (.inl ⟨by rfl, fun W hS => by have z0 := htn W (hX.later hS); go_simp; try with_reducible rfl⟩) ?_)
            try simp only [Act.put, List.setIfInBounds_toArray, List.set_cons_zero, List.set_cons_succ]
          refine plan_take _ (.int .i64 ((t : Nat) : Int)) rfl (.inl ⟨by rfl, fun W hS => by clear hS; go_simp; exact i64_small _ (by omega)⟩) ?_
          try simp only [Act.put, List.setIfInBounds_toArray, List.set_cons_zero, List.set_cons_succ]
          refine plan_take _ (.bool true) rfl (.inl ⟨by rfl, fun W hS => by clear hS; go_simp; try with_reducible rfl⟩) ?_
          try simp only [Act.put, List.setIfInBounds_toArray, List.set_cons_zero, List.set_cons_succ]
          refine plan_take _ (.bool false) rfl (.inl ⟨by rfl, fun W hS => by clear hS; go_simp; try with_reducible rfl⟩) ?_
          try simp only [Act.put, List.setIfInBounds_toArray, List.set_cons_zero, List.set_cons_succ]
          iterate 4
            first
              | (refine plan_pass _ rfl (by rfl) ?_)
              | (refine plan_take _ _ rfl (.inl ⟨by rfl, fun W hS => by clear hS; go_simp; try with_reducible rfl⟩) ?_)
            try simp only [Act.put, List.setIfInBounds_toArray, List.set_cons_zero, List.set_cons_succ]
          refine plan_take _ _ rfl (yields_load_mid (by rfl) 35 _ rfl ge 2 rfl (opL y) _ Try.underlying35 rfl (op_size _) (fun W hW => (hE.later hW).ent_op)) ?_
          try simp only [Act.put, List.setIfInBounds_toArray, List.set_cons_zero, List.set_cons_succ]
          iterate 2
            first
              | (refine plan_pass _ rfl (by rfl) ?_)
              | (refine plan_take _ _ rfl (.inl ⟨by rfl, fun W hS => by clear hS; go_simp; try with_reducible rfl⟩) ?_)
            try simp only [Act.put, List.setIfInBounds_toArray, List.set_cons_zero, List.set_cons_succ]
          refine plan_take _ (.int .i64 (i : Int)) rfl (.inl ⟨by rfl, fun W _ => run_sub_i64 _ _ _ _ rfl k 1 i rfl rfl hki.out (by omega) W⟩) ?_
          try simp only [Act.put, List.setIfInBounds_toArray, List.set_cons_zero, List.set_cons_succ]
          iterate 1
            first
              | (refine plan_pass _ rfl (by rfl) ?_)
              | (refine plan_take _ _ rfl (.inl ⟨by rfl, fun W hS => by clear hS; go_simp; try with_reducible rfl⟩) ?_)
            try simp only [Act.put, List.setIfInBounds_toArray, List.set_cons_zero, List.set_cons_succ]
          refine plan_take _ _ rfl (.inl ⟨by rfl, fun W hW => run_load_any 35 _ rfl _ rfl (opL y) _ (hcy W hW) Try.underlying35 rfl (op_size y)⟩) ?_
          try simp only [Act.put, List.setIfInBounds_toArray, List.set_cons_zero, List.set_cons_succ]
          refine plan_take _ _ rfl (yields_bin_agg (by rfl) .neq 35 _ _ _ rfl (opC y) (opC y) rfl rfl (.bool false) guard_op heq) ?_
          try simp only [Act.put, List.setIfInBounds_toArray, List.set_cons_zero, List.set_cons_succ]
          iterate 2
            first
              | (refine plan_pass _ rfl (by rfl) ?_)
              | (refine plan_take _ _ rfl (.inl ⟨by rfl, fun W hS => by clear hS; go_simp; try with_reducible rfl⟩) ?_)
            try simp only [Act.put, List.setIfInBounds_toArray, List.set_cons_zero, List.set_cons_succ]
          iterate 1
            first
              | (refine plan_pass _ rfl (by rfl) ?_)
              | (refine plan_take _ _ rfl (.inl ⟨by rfl, fun W hS => by have z0 := (hE.later hS).ent_n; go_simp; try with_reducible rfl⟩) ?_)
            try simp only [Act.put, List.setIfInBounds_toArray, List.set_cons_zero, List.set_cons_succ]
          iterate 1
            first
              | (refine plan_pass _ rfl (by rfl) ?_)
              | (refine plan_take _ _ rfl (.inl ⟨by rfl, fun W hS => by clear hS; go_simp; try with_reducible rfl⟩) ?_)
            try simp only [Act.put, List.setIfInBounds_toArray, List.set_cons_zero, List.set_cons_succ]
          refine plan_take _ (.int .u32 (k : Int)) rfl (.inl ⟨by rfl, fun W hS => by clear hS; go_simp; exact u32_small _ (by omega)⟩) ?_
          try simp only [Act.put, List.setIfInBounds_toArray, List.set_cons_zero, List.set_cons_succ]
          refine plan_take _ (.bool false) rfl (.inl ⟨by rfl, fun W hS => by clear hS; go_simp; try with_reducible rfl⟩) ?_
          try simp only [Act.put, List.setIfInBounds_toArray, List.set_cons_zero, List.set_cons_succ]
          iterate 3
            first
              | (refine plan_pass _ rfl (by rfl) ?_)
              | (refine plan_take _ _ rfl (.inl ⟨by rfl, fun W hS => by clear hS; go_simp; try with_reducible rfl⟩) ?_)
            try simp only [Act.put, List.setIfInBounds_toArray, List.set_cons_zero, List.set_cons_succ]
          refine plan_done ?_
          replace hX := hX.later hbA
          replace hS8 := hS8.later hbA
          replace hD6 := hD6.later hbA
          replace hb := hb.trans (hbA.mono hb.size)
          replace hcy := fun W (hW : Below v5.drew.heap.size v5.drew W) => hcy W (hbA.trans (hW.mono hbA.size))
          clear hbA hE heq
          generalize v5.drew = w5 at *
          go_wp2_with fail
          have hbF : Below w5.heap.size w5 w5.drew := (Below.refl _ _).drew
          refine wp_region_plan (fun W => Below w5.heap.size w5 W) (Plan.of [(0, true), (2, true), (3, true), (4, true), (5, true), (6, true)] (.either 1 (.either 7 (Plan.of [(8, true), (9, true), (10, true), (11, false), (12, false), (13, true)] .done) 11 (Plan.of [(7, false), (8, true), (9, true), (10, true), (12, false), (13, true)] .done)) 11 (Plan.of [(1, false), (7, false), (8, true), (9, true), (10, true), (12, false), (13, true)] .done))) (by kernel_rfl) (by kernel_rfl) (by kernel_rfl) (by kernel_rfl) hbF ?_
          refine plan_take _ _ rfl (yields_load_has (by rfl) 40 _ rfl (gs) rfl 40 (stC S ro rc) _ Try.underlying40 rfl (st_size _ _ _) (fun W hW => hX.later hW)) ?_
          try simp only [Act.put, List.setIfInBounds_toArray, List.set_cons_zero, List.set_cons_succ]
          iterate 2
            first
              | (refine plan_pass _ rfl (by rfl) ?_)
              | (refine plan_take _ _ rfl (.inl ⟨by rfl, fun W hS => by clear hS; go_simp; try with_reducible rfl⟩) ?_)
            try simp only [Act.put, List.setIfInBounds_toArray, List.set_cons_zero, List.set_cons_succ]
          refine plan_take _ (.int .i64 (i : Int)) rfl (.inl ⟨by rfl, fun W _ => run_sub_i64 _ _ _ _ rfl k 1 i rfl rfl hki.out (by omega) W⟩) ?_
          try simp only [Act.put, List.setIfInBounds_toArray, List.set_cons_zero, List.set_cons_succ]
          iterate 1
            first
              | (refine plan_pass _ rfl (by rfl) ?_)
              | (refine plan_take _ _ rfl (.inl ⟨by rfl, fun W hS => by clear hS; go_simp; try with_reducible rfl⟩) ?_)
            try simp only [Act.put, List.setIfInBounds_toArray, List.set_cons_zero, List.set_cons_succ]
          refine plan_take _ _ rfl (.inl ⟨by rfl, fun W hW => run_load_any 35 _ rfl _ rfl (opL y) _ (hcy W hW) Try.underlying35 rfl (op_size y)⟩) ?_
          try simp only [Act.put, List.setIfInBounds_toArray, List.set_cons_zero, List.set_cons_succ]
          refine plan_either ?_ ?_
          · refine plan_run _ rfl (fun K hK => ?_)
            go_simp
            refine (fold_any S ro rc _ hSo (hS8.later hbF)).mono ?_
            rintro e w6 ⟨rfl, hq⟩
            rw [hSf.out]
            have hbG : Below _ _ w6 := hbF.trans (hq.mono hbF.size)
            refine hK.out _ _ hbG ?_
            clear hK K
            try simp only [Act.put, List.setIfInBounds_toArray, List.set_cons_zero, List.set_cons_succ]
            clear hq
            refine plan_either ?_ ?_
            · refine plan_run _ rfl (fun K hK => ?_)
              go_simp
              refine (seen_any B y _ hBo hyo).mono ?_
              rintro e w7 ⟨rfl, hq⟩
              rw [hseen.out]
              have hbH : Below _ _ w7 := hbG.trans (hq.mono hbG.size)
              refine hK.out _ _ hbH ?_
              clear hK K
              try simp only [Act.put, List.setIfInBounds_toArray, List.set_cons_zero, List.set_cons_succ]
              iterate 3
                first
                  | (refine plan_pass _ rfl (by rfl) ?_)
                  | (refine plan_take _ _ rfl (.inl ⟨by rfl, fun W hS => by clear hS; go_simp; try with_reducible rfl⟩) ?_)
                try simp only [Act.put, List.setIfInBounds_toArray, List.set_cons_zero, List.set_cons_succ]
              clear hq
              refine plan_alloc_has _ rfl (by rfl) 28 rfl (resC res0) res_zero (hbH.alloc hbH.size _) ?_
              try simp only [Act.put, List.setIfInBounds_toArray, List.set_cons_zero, List.set_cons_succ]
              have hR := Has.new w7 28 (resC res0)
              have hbI : Below _ _ (w7.alloc (.cells (resC res0) 28)) := hbH.alloc hbH.size _
              have hgr : w5.heap.size ≤ w7.heap.size := hbH.size
              generalize w7.alloc (.cells (resC res0) 28) = w8 at *
              generalize w7.heap.size = gr at *
              have hbZ := below_setRow hbI hgr (resC rr)
              refine plan_store_has _ rfl (by rfl) 28 _ _ rfl gr rfl (resC rr) rfl 28 (resC res0) (res_size _) rfl (res_one _) hR hbZ ?_
              try simp only [Act.put, List.setIfInBounds_toArray, List.set_cons_zero, List.set_cons_succ]
              iterate 1
                first
                  | (refine plan_pass _ rfl (by rfl) ?_)
                  | (refine plan_take _ _ rfl (.inl ⟨by rfl, fun W hS => by clear hS; go_simp; try with_reducible rfl⟩) ?_)
                try simp only [Act.put, List.setIfInBounds_toArray, List.set_cons_zero, List.set_cons_succ]
              refine plan_done ?_
              replace hX := hX.later hbZ
              replace hS8 := hS8.later hbZ
              replace hD6 := hD6.later hbZ
              replace hb := hb.trans (hbZ.mono hb.size)
              generalize w8.setRow gr (resC rr) = w9 at *
              clear hbZ hR hgr hbI
              go_wp2_with fail
              go_roundw
              case rel => exact ⟨k + 1, by omega, by omega, by go_num, hX, hS8, hD6, hb⟩
              case measure => simp [intOf]; omega
            · refine plan_alloc_has _ rfl (by rfl) 28 rfl (resC res0) res_zero (hbG.alloc hbG.size _) ?_
              try simp only [Act.put, List.setIfInBounds_toArray, List.set_cons_zero, List.set_cons_succ]
              have hR := Has.new w6 28 (resC res0)
              have hbH : Below _ _ (w6.alloc (.cells (resC res0) 28)) := hbG.alloc hbG.size _
              have hgr : w5.heap.size ≤ w6.heap.size := hbG.size
              generalize w6.alloc (.cells (resC res0) 28) = w7 at *
              generalize w6.heap.size = gr at *
              refine plan_run _ rfl (fun K hK => ?_)
              go_simp
              refine (seen_any B y _ hBo hyo).mono ?_
              rintro e w8 ⟨rfl, hq⟩
              rw [hseen.out]
              have hbI : Below _ _ w8 := hbH.trans (hq.mono hbH.size)
              refine hK.out _ _ hbI ?_
              clear hK K
              try simp only [Act.put, List.setIfInBounds_toArray, List.set_cons_zero, List.set_cons_succ]
              iterate 3
                first
                  | (refine plan_pass _ rfl (by rfl) ?_)
                  | (refine plan_take _ _ rfl (.inl ⟨by rfl, fun W hS => by clear hS; go_simp; try with_reducible rfl⟩) ?_)
                try simp only [Act.put, List.setIfInBounds_toArray, List.set_cons_zero, List.set_cons_succ]
              replace hR := hR.later hq
              clear hq
              have hbZ := below_setRow hbI hgr (resC rr)
              refine plan_store_has _ rfl (by rfl) 28 _ _ rfl gr rfl (resC rr) rfl 28 (resC res0) (res_size _) rfl (res_one _) hR hbZ ?_
              try simp only [Act.put, List.setIfInBounds_toArray, List.set_cons_zero, List.set_cons_succ]
              iterate 1
                first
                  | (refine plan_pass _ rfl (by rfl) ?_)
                  | (refine plan_take _ _ rfl (.inl ⟨by rfl, fun W hS => by clear hS; go_simp; try with_reducible rfl⟩) ?_)
                try simp only [Act.put, List.setIfInBounds_toArray, List.set_cons_zero, List.set_cons_succ]
              refine plan_done ?_
              replace hX := hX.later hbZ
              replace hS8 := hS8.later hbZ
              replace hD6 := hD6.later hbZ
              replace hb := hb.trans (hbZ.mono hb.size)
              generalize w8.setRow gr (resC rr) = w9 at *
              clear hbZ hR hgr hbI
              go_wp2_with fail
              go_roundw
              case rel => exact ⟨k + 1, by omega, by omega, by go_num, hX, hS8, hD6, hb⟩
              case measure => simp [intOf]; omega
          · refine plan_alloc_has _ rfl (by rfl) 28 rfl (resC res0) res_zero (hbF.alloc hbF.size _) ?_
            try simp only [Act.put, List.setIfInBounds_toArray, List.set_cons_zero, List.set_cons_succ]
            have hR := Has.new w5.drew 28 (resC res0)
            have hbG : Below _ _ (w5.drew.alloc (.cells (resC res0) 28)) := hbF.alloc hbF.size _
            have hgr : w5.heap.size ≤ w5.drew.heap.size := hbF.size
            generalize w5.drew.alloc (.cells (resC res0) 28) = w6 at *
            generalize w5.drew.heap.size = gr at *
            refine plan_run _ rfl (fun K hK => ?_)
            go_simp
            refine (fold_any S ro rc _ hSo (hS8.later hbG)).mono ?_
            rintro e w7 ⟨rfl, hq⟩
            rw [hSf.out]
            have hbH : Below _ _ w7 := hbG.trans (hq.mono hbG.size)
            refine hK.out _ _ hbH ?_
            clear hK K
            try simp only [Act.put, List.setIfInBounds_toArray, List.set_cons_zero, List.set_cons_succ]
            replace hR := hR.later hq
            clear hq
            refine plan_run _ rfl (fun K hK => ?_)
            go_simp
            refine (seen_any B y _ hBo hyo).mono ?_
            rintro e w8 ⟨rfl, hq⟩
            rw [hseen.out]
            have hbI : Below _ _ w8 := hbH.trans (hq.mono hbH.size)
            refine hK.out _ _ hbI ?_
            clear hK K
            try simp only [Act.put, List.setIfInBounds_toArray, List.set_cons_zero, List.set_cons_succ]
            iterate 3
              first
                | (refine plan_pass _ rfl (by rfl) ?_)
                | (refine plan_take _ _ rfl (.inl ⟨by rfl, fun W hS => by clear hS; go_simp; try with_reducible rfl⟩) ?_)
              try simp only [Act.put, List.setIfInBounds_toArray, List.set_cons_zero, List.set_cons_succ]
            replace hR := hR.later hq
            clear hq
            have hbZ := below_setRow hbI hgr (resC rr)
            refine plan_store_has _ rfl (by rfl) 28 _ _ rfl gr rfl (resC rr) rfl 28 (resC res0) (res_size _) rfl (res_one _) hR hbZ ?_
            try simp only [Act.put, List.setIfInBounds_toArray, List.set_cons_zero, List.set_cons_succ]
            iterate 1
              first
                | (refine plan_pass _ rfl (by rfl) ?_)
                | (refine plan_take _ _ rfl (.inl ⟨by rfl, fun W hS => by clear hS; go_simp; try with_reducible rfl⟩) ?_)
              try simp only [Act.put, List.setIfInBounds_toArray, List.set_cons_zero, List.set_cons_succ]
            refine plan_done ?_
            replace hX := hX.later hbZ
            replace hS8 := hS8.later hbZ
            replace hD6 := hD6.later hbZ
            replace hb := hb.trans (hbZ.mono hb.size)
            generalize w8.setRow gr (resC rr) = w9 at *
            clear hbZ hR hgr hbI
            go_wp2_with fail
            go_roundw
            case rel => exact ⟨k + 1, by omega, by omega, by go_num, hX, hS8, hD6, hb⟩
            case measure => simp [intOf]; omega
        · have htkI : ¬ ((t : Int) < (k : Int)) := by omega
          have htkN : k ≤ t := by omega
          have hF := hfnk.out (.inl (by omega))
          rw [hF]
          replace htk : Hid _ := htk
          obtain ⟨v5, hv5, hE, hq⟩ := new_var w4 37 (entC ent0) (entC ent0)
          replace hX := hX.later hq
          replace hS8 := hS8.later hq
          replace hD6 := hD6.later hq
          replace hb := hb.trans (hq.mono hb.size)
          replace hqq := hqq.trans (hq.mono hqq.size)
          have hcy := fun W (hW : Below v5.heap.size v5 W) => hcy0 W (hqq.trans (hW.mono hqq.size))
          clear hq hqq hcy0 hF
          go_wp2_with (first
            | (refine wpList_alloc_has (by rfl) 37 rfl (entC ent0) ent_zero ?_)
            | (refine wpList_store_to (by rfl) 37 _ _ rfl w4.heap.size rfl (entC ent0) rfl 37 (entC ent0) (ent_size _) rfl (ent_one _) ?hg v5 ?hW ?_; (case hg => exact Has.new _ _ _); (case hW => exact hv5); clear hv5; generalize w4.heap.size = ge at *))
          have hbA : Below v5.heap.size v5 v5.drew := (Below.refl _ _).drew
          refine wp_region_plan (fun W => Below v5.heap.size v5 W) (Plan.of [(0, true), (1, true), (2, true), (3, true), (4, true), (5, true), (6, true), (7, true), (8, true), (9, true), (10, true), (11, true), (12, true), (13, true), (14, true), (15, true), (16, true), (17, true), (18, true), (19, true), (20, true), (21, true), (22, true), (23, true), (24, true), (25, true), (26, true), (27, true)] .done) (by kernel_rfl) (by kernel_rfl) (by kernel_rfl) (by kernel_rfl) hbA ?_
          iterate 4
            first
              | (refine plan_pass _ rfl (by rfl) ?_)
              | (refine plan_take _ _ rfl (.inl ⟨by rfl, fun W hS => by clear hS; go_simp; try with_reducible rfl⟩) ?_)
            try simp only [Act.put, List.setIfInBounds_toArray, List.set_cons_zero, List.set_cons_succ]
          iterate 1
            first
              | (refine plan_pass _ rfl (by rfl) ?_)
              | (refine plan_take _ _ rfl (.inl ⟨by rfl, fun W hS => by have z0 := htn W (hX.later hS); go_simp; try with_reducible rfl⟩) ?_)
            try simp only [Act.put, List.setIfInBounds_toArray, List.set_cons_zero, List.set_cons_succ]
          refine plan_take _ (.int .i64 ((t : Nat) : Int)) rfl (.inl ⟨by rfl, fun W hS => by clear hS; go_simp; exact i64_small _ (by omega)⟩) ?_
          try simp only [Act.put, List.setIfInBounds_toArray, List.set_cons_zero, List.set_cons_succ]
          refine plan_take _ (.bool false) rfl (.inl ⟨by rfl, fun W hS => by clear hS; go_simp; try with_reducible rfl⟩) ?_
          try simp only [Act.put, List.setIfInBounds_toArray, List.set_cons_zero, List.set_cons_succ]
          refine plan_take _ (.bool false) rfl (.inl ⟨by rfl, fun W hS => by clear hS; go_simp; try with_reducible rfl⟩) ?_
          try simp only [Act.put, List.setIfInBounds_toArray, List.set_cons_zero, List.set_cons_succ]
          iterate 20
            first
              | (refine plan_pass _ rfl (by rfl) ?_)
              | (refine plan_take _ _ rfl (.inl ⟨by rfl, fun W hS => by clear hS; go_simp; try with_reducible rfl⟩) ?_)
            try simp only [Act.put, List.setIfInBounds_toArray, List.set_cons_zero, List.set_cons_succ]
          refine plan_done ?_
          replace hX := hX.later hbA
          replace hS8 := hS8.later hbA
          replace hD6 := hD6.later hbA
          replace hb := hb.trans (hbA.mono hb.size)
          replace hcy := fun W (hW : Below v5.drew.heap.size v5.drew W) => hcy W (hbA.trans (hW.mono hbA.size))
          clear hbA hE
          generalize v5.drew = w5 at *
          go_wp2_with fail
          have hbF : Below w5.heap.size w5 w5.drew := (Below.refl _ _).drew
          refine wp_region_plan (fun W => Below w5.heap.size w5 W) (Plan.of [(0, true), (2, true), (3, true), (4, true), (5, true), (6, true)] (.either 1 (.either 7 (Plan.of [(8, true), (9, true), (10, true), (11, false), (12, false), (13, true)] .done) 11 (Plan.of [(7, false), (8, true), (9, true), (10, true), (12, false), (13, true)] .done)) 11 (Plan.of [(1, false), (7, false), (8, true), (9, true), (10, true), (12, false), (13, true)] .done))) (by kernel_rfl) (by kernel_rfl) (by kernel_rfl) (by kernel_rfl) hbF ?_
          refine plan_take _ _ rfl (yields_load_has (by rfl) 40 _ rfl (gs) rfl 40 (stC S ro rc) _ Try.underlying40 rfl (st_size _ _ _) (fun W hW => hX.later hW)) ?_
          try simp only [Act.put, List.setIfInBounds_toArray, List.set_cons_zero, List.set_cons_succ]
          iterate 2
            first
              | (refine plan_pass _ rfl (by rfl) ?_)
              | (refine plan_take _ _ rfl (.inl ⟨by rfl, fun W hS => by clear hS; go_simp; try with_reducible rfl⟩) ?_)
            try simp only [Act.put, List.setIfInBounds_toArray, List.set_cons_zero, List.set_cons_succ]
          refine plan_take _ (.int .i64 (i : Int)) rfl (.inl ⟨by rfl, fun W _ => run_sub_i64 _ _ _ _ rfl k 1 i rfl rfl hki.out (by omega) W⟩) ?_
          try simp only [Act.put, List.setIfInBounds_toArray, List.set_cons_zero, List.set_cons_succ]
          iterate 1
            first
              | (refine plan_pass _ rfl (by rfl) ?_)
              | (refine plan_take _ _ rfl (.inl ⟨by rfl, fun W hS => by clear hS; go_simp; try with_reducible rfl⟩) ?_)
            try simp only [Act.put, List.setIfInBounds_toArray, List.set_cons_zero, List.set_cons_succ]
          refine plan_take _ _ rfl (.inl ⟨by rfl, fun W hW => run_load_any 35 _ rfl _ rfl (opL y) _ (hcy W hW) Try.underlying35 rfl (op_size y)⟩) ?_
          try simp only [Act.put, List.setIfInBounds_toArray, List.set_cons_zero, List.set_cons_succ]
          refine plan_either ?_ ?_
          · refine plan_run _ rfl (fun K hK => ?_)
            go_simp
            refine (fold_any S ro rc _ hSo (hS8.later hbF)).mono ?_
            rintro e w6 ⟨rfl, hq⟩
            rw [hSf.out]
            have hbG : Below _ _ w6 := hbF.trans (hq.mono hbF.size)
            refine hK.out _ _ hbG ?_
            clear hK K
            try simp only [Act.put, List.setIfInBounds_toArray, List.set_cons_zero, List.set_cons_succ]
            clear hq
            refine plan_either ?_ ?_
            · refine plan_run _ rfl (fun K hK => ?_)
              go_simp
              refine (seen_any B y _ hBo hyo).mono ?_
              rintro e w7 ⟨rfl, hq⟩
              rw [hseen.out]
              have hbH : Below _ _ w7 := hbG.trans (hq.mono hbG.size)
              refine hK.out _ _ hbH ?_
              clear hK K
              try simp only [Act.put, List.setIfInBounds_toArray, List.set_cons_zero, List.set_cons_succ]
              iterate 3
                first
                  | (refine plan_pass _ rfl (by rfl) ?_)
                  | (refine plan_take _ _ rfl (.inl ⟨by rfl, fun W hS => by clear hS; go_simp; try with_reducible rfl⟩) ?_)
                try simp only [Act.put, List.setIfInBounds_toArray, List.set_cons_zero, List.set_cons_succ]
              clear hq
              refine plan_alloc_has _ rfl (by rfl) 28 rfl (resC res0) res_zero (hbH.alloc hbH.size _) ?_
              try simp only [Act.put, List.setIfInBounds_toArray, List.set_cons_zero, List.set_cons_succ]
              have hR := Has.new w7 28 (resC res0)
              have hbI : Below _ _ (w7.alloc (.cells (resC res0) 28)) := hbH.alloc hbH.size _
              have hgr : w5.heap.size ≤ w7.heap.size := hbH.size
              generalize w7.alloc (.cells (resC res0) 28) = w8 at *
              generalize w7.heap.size = gr at *
              have hbZ := below_setRow hbI hgr (resC rr)
              refine plan_store_has _ rfl (by rfl) 28 _ _ rfl gr rfl (resC rr) rfl 28 (resC res0) (res_size _) rfl (res_one _) hR hbZ ?_
              try simp only [Act.put, List.setIfInBounds_toArray, List.set_cons_zero, List.set_cons_succ]
              iterate 1
                first
                  | (refine plan_pass _ rfl (by rfl) ?_)
                  | (refine plan_take _ _ rfl (.inl ⟨by rfl, fun W hS => by clear hS; go_simp; try with_reducible rfl⟩) ?_)
                try simp only [Act.put, List.setIfInBounds_toArray, List.set_cons_zero, List.set_cons_succ]
              refine plan_done ?_
              replace hX := hX.later hbZ
              replace hS8 := hS8.later hbZ
              replace hD6 := hD6.later hbZ
              replace hb := hb.trans (hbZ.mono hb.size)
              generalize w8.setRow gr (resC rr) = w9 at *
              clear hbZ hR hgr hbI
              go_wp2_with fail
              go_roundw
              case rel => exact ⟨k + 1, by omega, by omega, by go_num, hX, hS8, hD6, hb⟩
              case measure => simp [intOf]; omega
            · refine plan_alloc_has _ rfl (by rfl) 28 rfl (resC res0) res_zero (hbG.alloc hbG.size _) ?_
              try simp only [Act.put, List.setIfInBounds_toArray, List.set_cons_zero, List.set_cons_succ]
              have hR := Has.new w6 28 (resC res0)
              have hbH : Below _ _ (w6.alloc (.cells (resC res0) 28)) := hbG.alloc hbG.size _
              have hgr : w5.heap.size ≤ w6.heap.size := hbG.size
              generalize w6.alloc (.cells (resC res0) 28) = w7 at *
              generalize w6.heap.size = gr at *
              refine plan_run _ rfl (fun K hK => ?_)
              go_simp
              refine (seen_any B y _ hBo hyo).mono ?_
              rintro e w8 ⟨rfl, hq⟩
              rw [hseen.out]
              have hbI : Below _ _ w8 := hbH.trans (hq.mono hbH.size)
              refine hK.out _ _ hbI ?_
              clear hK K
              try simp only [Act.put, List.setIfInBounds_toArray, List.set_cons_zero, List.set_cons_succ]
              iterate 3
                first
                  | (refine plan_pass _ rfl (by rfl) ?_)
                  | (refine plan_take _ _ rfl (.inl ⟨by rfl, fun W hS => by clear hS; go_simp; try with_reducible rfl⟩) ?_)
                try simp only [Act.put, List.setIfInBounds_toArray, List.set_cons_zero, List.set_cons_succ]
              replace hR := hR.later hq
              clear hq
              have hbZ := below_setRow hbI hgr (resC rr)
              refine plan_store_has _ rfl (by rfl) 28 _ _ rfl gr rfl (resC rr) rfl 28 (resC res0) (res_size _) rfl (res_one _) hR hbZ ?_
              try simp only [Act.put, List.setIfInBounds_toArray, List.set_cons_zero, List.set_cons_succ]
              iterate 1
                first
                  | (refine plan_pass _ rfl (by rfl) ?_)
                  | (refine plan_take _ _ rfl (.inl ⟨by rfl, fun W hS => by clear hS; go_simp; try with_reducible rfl⟩) ?_)
                try simp only [Act.put, List.setIfInBounds_toArray, List.set_cons_zero, List.set_cons_succ]
              refine plan_done ?_
              replace hX := hX.later hbZ
              replace hS8 := hS8.later hbZ
              replace hD6 := hD6.later hbZ
              replace hb := hb.trans (hbZ.mono hb.size)
              generalize w8.setRow gr (resC rr) = w9 at *
              clear hbZ hR hgr hbI
              go_wp2_with fail
              go_roundw
              case rel => exact ⟨k + 1, by omega, by omega, by go_num, hX, hS8, hD6, hb⟩
              case measure => simp [intOf]; omega
          · refine plan_alloc_has _ rfl (by rfl) 28 rfl (resC res0) res_zero (hbF.alloc hbF.size _) ?_
            try simp only [Act.put, List.setIfInBounds_toArray, List.set_cons_zero, List.set_cons_succ]
            have hR := Has.new w5.drew 28 (resC res0)
            have hbG : Below _ _ (w5.drew.alloc (.cells (resC res0) 28)) := hbF.alloc hbF.size _
            have hgr : w5.heap.size ≤ w5.drew.heap.size := hbF.size
            generalize w5.drew.alloc (.cells (resC res0) 28) = w6 at *
            generalize w5.drew.heap.size = gr at *
            refine plan_run _ rfl (fun K hK => ?_)
            go_simp
            refine (fold_any S ro rc _ hSo (hS8.later hbG)).mono ?_
            rintro e w7 ⟨rfl, hq⟩
            rw [hSf.out]
            have hbH : Below _ _ w7 := hbG.trans (hq.mono hbG.size)
            refine hK.out _ _ hbH ?_
            clear hK K
            try simp only [Act.put, List.setIfInBounds_toArray, List.set_cons_zero, List.set_cons_succ]
            replace hR := hR.later hq
            clear hq
            refine plan_run _ rfl (fun K hK => ?_)
            go_simp
            refine (seen_any B y _ hBo hyo).mono ?_
            rintro e w8 ⟨rfl, hq⟩
            rw [hseen.out]
            have hbI : Below _ _ w8 := hbH.trans (hq.mono hbH.size)
            refine hK.out _ _ hbI ?_
            clear hK K
            try simp only [Act.put, List.setIfInBounds_toArray, List.set_cons_zero, List.set_cons_succ]
            iterate 3
              first
                | (refine plan_pass _ rfl (by rfl) ?_)
                | (refine plan_take _ _ rfl (.inl ⟨by rfl, fun W hS => by clear hS; go_simp; try with_reducible rfl⟩) ?_)
              try simp only [Act.put, List.setIfInBounds_toArray, List.set_cons_zero, List.set_cons_succ]
            replace hR := hR.later hq
            clear hq
            have hbZ := below_setRow hbI hgr (resC rr)
            refine plan_store_has _ rfl (by rfl) 28 _ _ rfl gr rfl (resC rr) rfl 28 (resC res0) (res_size _) rfl (res_one _) hR hbZ ?_
            try simp only [Act.put, List.setIfInBounds_toArray, List.set_cons_zero, List.set_cons_succ]
            iterate 1
              first
                | (refine plan_pass _ rfl (by rfl) ?_)
                | (refine plan_take _ _ rfl (.inl ⟨by rfl, fun W hS => by clear hS; go_simp; try with_reducible rfl⟩) ?_)
              try simp only [Act.put, List.setIfInBounds_toArray, List.set_cons_zero, List.set_cons_succ]
            refine plan_done ?_
            replace hX := hX.later hbZ
            replace hS8 := hS8.later hbZ
            replace hD6 := hD6.later hbZ
            replace hb := hb.trans (hbZ.mono hb.size)
            generalize w8.setRow gr (resC rr) = w9 at *
            clear hbZ hR hgr hbI
            go_wp2_with fail
            go_roundw
            case rel => exact ⟨k + 1, by omega, by omega, by go_num, hX, hS8, hD6, hb⟩
            case measure => simp [intOf]; omega
    · have e5 : k = D.length + 1 := by omega
      have hltI : ¬ ((k : Int) ≤ (D.length : Int)) := by omega
      obtain ⟨r, hr⟩ : ∃ r, n % 100 = r := ⟨_, rfl⟩
      obtain ⟨n1, hn1⟩ : ∃ n1, D.length + 1 = n1 := ⟨_, rfl⟩
      obtain ⟨n2, hn2⟩ : ∃ n2, n1 + r = n2 := ⟨_, rfl⟩
      have hn2b : n2 < 4294967296 := by omega
      have hn1b : n1 < 4294967296 := by omega
      have hF := hfn.out n2 (.inr (by omega))
      replace hr : Hid _ := hr
      replace hn1 : Hid _ := hn1
      replace hn2 : Hid _ := hn2
      clear e5 hlt
      go_wp2_with (first
        | (refine wpList_load_has (by rfl) 40 _ rfl (gs) rfl 40 (stC S ro rc) _ Try.underlying40 rfl (st_size _ _ _) ?hg ?_; (case hg => exact hX))
        | (refine wpList_val (.int .u32 (r : Int)) (by rfl) (run_rem_u32 _ _ _ _ rfl n 100 r rfl rfl hn (by decide) hr.out) ?_)
        | (refine wpList_val (.int .u32 (n1 : Int)) (by rfl) (run_add_u32 _ _ _ _ rfl D.length 1 n1 rfl rfl hn1.out hn1b) ?_)
        | (refine wpList_val (.int .u32 (n2 : Int)) (by rfl) (run_add_u32 _ _ _ _ rfl n1 r n2 rfl rfl hn2.out hn2b) ?_))
      refine (find_any S ro rc n2 _ hSo hS8 hn2b).mono ?_
      rintro e w4 ⟨rfl, hq⟩
      rw [hF]
      replace hb := hb.trans (hq.mono hb.size)
      clear hq
      obtain ⟨w5, hw5, hE, hq⟩ := new_var w4 37 (entC ent0) (entC ent0)
      replace hb := hb.trans (hq.mono hb.size)
      clear hq
      go_wp2_with (first
        | (refine wpList_alloc_has (by rfl) 37 rfl (entC ent0) ent_zero ?_)
        | (refine wpList_store_to (by rfl) 37 _ _ rfl w4.heap.size rfl (entC ent0) rfl 37 (entC ent0) (ent_size _) rfl (ent_one _) ?hg w5 ?hW ?_; (case hg => exact Has.new _ _ _); (case hW => exact hw5)))
      go_ret
      exact ⟨rfl, hb⟩
end Go.Proofs.Ytkkjdihmjcaibaa
