/- The contract of the document's Do. -/
import Derived.Test.YtphlfepgaghhhaaRefChange
import Derived.Test.YtphlfepgaghhhaaPlanMem
namespace Go.Proofs.Ytphlfepgaghhhaa
set_option linter.unusedSimpArgs false
set_option linter.unusedVariables false
set_option maxRecDepth 100000
open Go.RowKit

theorem rdo_no {b : BaseV} {o : OpV} (h : writesM o = false) : doM b o = (b, ⟨3, []⟩) := by unfold doM; rw [if_neg (by rw [h]; simp)]
theorem rdo_seen {b : BaseV} {o : OpV} (h : writesM o = true) (hs : (seenM b o).2 = true) : doM b o = (b, (seenM b o).1) := by unfold doM; rw [if_pos h, if_pos hs]
theorem rdo_new {b : BaseV} {o : OpV} (h : writesM o = true) (hs : (seenM b o).2 = false) : doM b o = (putLast (putObj b o (changeM (objOf b o) o).1) o ⟨o.seq, ⟨(changeM (objOf b o) o).2, []⟩⟩, ⟨(changeM (objOf b o) o).2, []⟩) := by unfold doM; rw [if_pos h, if_neg (by rw [hs]; simp)]
theorem change_code (x : ObjV) (o : OpV) : (changeM x o).2 ≤ 3 := by
  unfold changeM
  repeat' split
  all_goals simp

theorem res_code (n : Nat) : Try.prog.built 28 [(0, .int .u8 (n : Int))] = some (resC ⟨n, []⟩) := by kernel_rfl
theorem last_built (q n : Nat) : Try.prog.built 30 [(0, .int .u32 (q : Int)), (1, .agg (resC ⟨n, []⟩))] = some (lastC ⟨q, ⟨n, []⟩⟩) := by kernel_rfl

set_option maxHeartbeats 800000 in
theorem refdo_any (b : BaseV) (o : OpV) (w : World) (hb : BaseOk b) (ho : OpOk o) :
    Calls Try.prog 55 #[.agg (baseC b), .agg (opC o)] w fun e w' => e = .returned (.tuple #[.agg (baseC (doM b o).1), .agg (resC (doM b o).2)]) ∧ Below w.heap.size w w' := by
  obtain ⟨W0, hW0⟩ : ∃ W0, W0 = (((w.alloc (.cells (baseC b) 33)).alloc (.cells (opC o) 35)).alloc (.cells (baseC base0) 33)).alloc (.cells (resC res0) 28) := ⟨_, rfl⟩
  have hB : Has W0 w.heap.size 33 (baseC b) := hW0 ▸ (((Has.new _ _ _).alloc _).alloc _).alloc _
  have hO : Has W0 (w.heap.size + 1) 35 (opC o) := by
    have := ((Has.new (w.alloc (.cells (baseC b) 33)) 35 (opC o)).alloc (.cells (baseC base0) 33)).alloc (.cells (resC res0) 28)
    rw [hW0]
    simpa using this
  have hQ : Has W0 (w.heap.size + 1 + 1) 33 (baseC base0) := by
    have := (Has.new ((w.alloc (.cells (baseC b) 33)).alloc (.cells (opC o) 35)) 33 (baseC base0)).alloc (.cells (resC res0) 28)
    rw [hW0]
    simpa using this
  have hR : Has W0 (w.heap.size + 1 + 1 + 1) 28 (resC res0) := by
    have := Has.new (((w.alloc (.cells (baseC b) 33)).alloc (.cells (opC o) 35)).alloc (.cells (baseC base0) 33)) 28 (resC res0)
    rw [hW0]
    simpa using this
  have hbw : Below w.heap.size w W0 := hW0 ▸ ((((Below.refl _ _).alloc (Nat.le_refl _) _).alloc (by simp) _).alloc (by simp; omega) _).alloc (by simp; omega) _
  rw [hW0] at hB hO hQ hR hbw
  clear hW0 W0
  go_enter Try.func55, Try.ntmps55
  go_wp2_with (first
    | (refine wpList_alloc_has (by rfl) 33 rfl (baseC base0) base_zero ?_)
    | (refine wpList_alloc_has (by rfl) 28 rfl (resC res0) res_zero ?_; generalize (((w.alloc (.cells (baseC b) 33)).alloc (.cells (opC o) 35)).alloc (.cells (baseC base0) 33)).alloc (.cells (resC res0) 28) = w0 at *)
    | (refine wpList_load_has (by rfl) 35 _ rfl (w.heap.size + 1) rfl 35 (opC o) _ Try.underlying35 rfl (op_size o) hO ?_))
  refine (refwrites_any o _ ho).mono ?_
  rintro e w1 ⟨rfl, hq⟩
  replace hB := hB.later hq
  replace hO := hO.later hq
  replace hQ := hQ.later hq
  replace hR := hR.later hq
  replace hbw := hbw.trans (hq.mono hbw.size)
  clear hq
  cases hw : writesM o with
  | false =>
    have hc := rdo_no (b := b) hw
    have hQz := (hQ.row (baseC b)).row_other (k := w.heap.size + 1 + 1 + 1) (by omega) (resC ⟨3, []⟩)
    have hR1 := hR.row_other (k := w.heap.size + 1 + 1) (by omega) (baseC b)
    have hRz := hR1.row (resC ⟨3, []⟩)
    have hbz := below_setRow (g := w.heap.size + 1 + 1 + 1) (below_setRow (g := w.heap.size + 1 + 1) hbw (by omega) (baseC b)) (by omega) (resC ⟨3, []⟩)
    go_wp2_with (first
      | (refine wpList_load_has (by rfl) 33 _ rfl w.heap.size rfl 33 (baseC b) _ Try.underlying33 rfl (base_size b) hB ?_)
      | (refine wpList_build_has (by rfl) 28 _ rfl (resC ⟨3, []⟩) (by simpa using res_bad) ?_)
      | (refine wpList_store_has (by rfl) 33 _ _ rfl (w.heap.size + 1 + 1) rfl (baseC b) rfl 33 (baseC base0) (base_size _) rfl (base_one _) hQ ?_)
      | (refine wpList_store_has (by rfl) 28 _ _ rfl (w.heap.size + 1 + 1 + 1) rfl (resC ⟨3, []⟩) rfl 28 (resC res0) (res_size _) rfl (res_one _) hR1 ?_))
    exact ret_has_two rfl (w.heap.size + 1 + 1) (w.heap.size + 1 + 1 + 1) rfl rfl 33 28 (baseC b) (resC ⟨3, []⟩) _ _ Try.underlying33 rfl (base_size _) Try.underlying28 rfl (res_size _) hQz hRz rfl ⟨by rw [hc], hbz⟩
  | true =>
    obtain ⟨hc1, hc3, hob, hk1, hk4, hdl⟩ := writes_client hw
    have hlt1 := hR.lt
    go_wp2_with (first
      | (refine wpList_load_has (by rfl) 33 _ rfl w.heap.size rfl 33 (baseC b) _ Try.underlying33 rfl (base_size b) hB ?_)
      | (refine wpList_load_has (by rfl) 35 _ rfl (w.heap.size + 1) rfl 35 (opC o) _ Try.underlying35 rfl (op_size o) hO ?_))
    refine (refseen_any b o _ hb ho).mono ?_
    rintro e w2 ⟨rfl, hq⟩
    have hgs : w.heap.size + 1 + 1 + 1 < w2.heap.size := by
      have := hq.size
      omega
    have hbb := hq.trans ((below_setRow ((Below.refl w2.heap.size w2).alloc (Nat.le_refl _) (.cells (resC res0) 28)) (Nat.le_refl _) (resC (seenM b o).1)).mono hq.size)
    have hS := (Has.new w2 28 (resC res0)).row (resC (seenM b o).1)
    replace hB := hB.later hbb
    replace hO := hO.later hbb
    replace hQ := hQ.later hbb
    replace hR := hR.later hbb
    replace hbw := hbw.trans (hbb.mono hbw.size)
    clear hq hbb
    cases hsn : (seenM b o).2 with
    | true =>
      have hc : Hid _ := rdo_seen hw hsn
      clear hsn
      generalize (seenM b o).1 = r at *
      go_wp2_with (first
        | (refine wpList_alloc_has (by rfl) 28 rfl (resC res0) res_zero ?_)
        | (refine wpList_store_has (by rfl) 28 _ _ rfl w2.heap.size rfl (resC r) rfl 28 (resC res0) (res_size _) rfl (res_one _) (Has.new _ _ _) ?_; generalize (w2.alloc (.cells (resC res0) 28)).setRow w2.heap.size (resC r) = w3 at *; generalize w2.heap.size = gs at *))
      have hQz := (hQ.drew.row (baseC b)).row_other (k := w.heap.size + 1 + 1 + 1) (by omega) (resC r)
      have hR1 := hR.drew.row_other (k := w.heap.size + 1 + 1) (by omega) (baseC b)
      have hRz := hR1.row (resC r)
      have hB1 := hB.drew.row_other (k := w.heap.size + 1 + 1) (by omega) (baseC b)
      have hS1 := hS.drew.row_other (k := w.heap.size + 1 + 1) (by omega) (baseC b)
      have hB2 := hB1.row_other (k := w.heap.size + 1 + 1 + 1) (by omega) (resC r)
      have hS2 := hS1.row_other (k := w.heap.size + 1 + 1 + 1) (by omega) (resC r)
      have hbz := below_setRow (g := w.heap.size + 1 + 1 + 1) (below_setRow (g := w.heap.size + 1 + 1) hbw.drew (by omega) (baseC b)) (by omega) (resC r)
      refine wp_region_plan (fun W => Has W w.heap.size 33 (baseC b) ∧ Has W gs 28 (resC r)) (Plan.of [(0, true), (1, true), (2, false), (3, false)] .done) (by kernel_rfl) (by kernel_rfl) (by kernel_rfl) (by kernel_rfl) ⟨hB.drew, hS.drew⟩ ?_
      refine plan_take _ _ rfl (yields_load_has (by rfl) 33 _ rfl w.heap.size rfl 33 (baseC b) _ Try.underlying33 rfl (base_size b) (fun _ h => h.1)) ?_
      try simp only [Act.put, List.setIfInBounds_toArray, List.set_cons_zero, List.set_cons_succ]
      refine plan_take _ _ rfl (yields_load_has (by rfl) 28 _ rfl gs rfl 28 (resC r) _ Try.underlying28 rfl (res_size r) (fun _ h => h.2)) ?_
      try simp only [Act.put, List.setIfInBounds_toArray, List.set_cons_zero, List.set_cons_succ]
      refine plan_store_has _ rfl (by rfl) 33 _ _ rfl (w.heap.size + 1 + 1) rfl (baseC b) rfl 33 (baseC base0) (base_size _) rfl (base_one _) hQ.drew ⟨hB1, hS1⟩ ?_
      try simp only [Act.put, List.setIfInBounds_toArray, List.set_cons_zero, List.set_cons_succ]
      refine plan_store_has _ rfl (by rfl) 28 _ _ rfl (w.heap.size + 1 + 1 + 1) rfl (resC r) rfl 28 (resC res0) (res_size _) rfl (res_one _) hR1 ⟨hB2, hS2⟩ ?_
      try simp only [Act.put, List.setIfInBounds_toArray, List.set_cons_zero, List.set_cons_succ]
      refine plan_done ?_
      go_wp2
      exact ret_has_two rfl (w.heap.size + 1 + 1) (w.heap.size + 1 + 1 + 1) rfl rfl 33 28 (baseC b) (resC r) _ _ Try.underlying33 rfl (base_size _) Try.underlying28 rfl (res_size _) hQz hRz rfl ⟨by rw [hc.out], hbz⟩
    | false =>
      have hc0 := rdo_new hw hsn
      obtain ⟨i, hie⟩ : ∃ i, i = o.obj := ⟨_, rfl⟩
      have hob : i < 6 := by omega
      obtain ⟨k, hke⟩ : ∃ k, o.client = k + 1 := ⟨o.client - 1, by omega⟩
      have hk3 : k < 3 := by omega
      have hoo : objOf b o = b.obj ⟨i, hob⟩ := by unfold objOf; rw [dif_pos (by omega)]; congr 1; exact Fin.ext hie.symm
      rw [hoo] at hc0
      obtain ⟨X, hX⟩ : ∃ X, X = (changeM (b.obj ⟨i, hob⟩) o).1 := ⟨_, rfl⟩
      obtain ⟨cd, hcd⟩ : ∃ c, c = (changeM (b.obj ⟨i, hob⟩) o).2 := ⟨_, rfl⟩
      have hcd3 := change_code (b.obj ⟨i, hob⟩) o
      rw [← hcd] at hcd3
      rw [← hX, ← hcd] at hc0
      obtain ⟨BZ, hBZ⟩ : ∃ B, B = (b.setObj ⟨i, hob⟩ X).setLast ⟨k, hk3⟩ ⟨o.seq, ⟨cd, []⟩⟩ := ⟨_, rfl⟩
      have hc : Hid (doM b o = (BZ, ⟨cd, []⟩)) := by
        show _ = _
        rw [hc0, hBZ]
        unfold putLast putObj
        rw [dif_pos (show o.obj < 6 by omega), dif_pos (show o.client - 1 < 3 by omega)]
        congr 2
        · congr 1
          exact Fin.ext hie.symm
        · exact Fin.ext (by simp [hke])
      have hchange := fun W => refchange_any (b.obj ⟨i, hob⟩) o W (hb.data _) ho hdl hk1 hk4
      rw [← hX, ← hcd] at hchange
      replace hBZ : Hid _ := hBZ.symm
      replace hie : Hid (o.obj = i) := hie.symm
      replace hke : Hid _ := hke
      clear hc0 hoo hX hcd hsn
      generalize (seenM b o).1 = r at *
      have hiI : (i : Int) < 6 := by omega
      have hkI : (k : Int) < 3 := by omega
      go_wp2_with (first
        | (refine wpList_alloc_has (by rfl) 28 rfl (resC res0) res_zero ?_)
        | (refine wpList_store_has (by rfl) 28 _ _ rfl w2.heap.size rfl (resC r) rfl 28 (resC res0) (res_size _) rfl (res_one _) (Has.new _ _ _) ?_; generalize (w2.alloc (.cells (resC res0) 28)).setRow w2.heap.size (resC r) = w3 at *; generalize w2.heap.size = gs at *))
      have hbA : Below w3.heap.size w3 w3.drew := (Below.refl _ _).drew
      have hS3 : ∀ W, Below w3.heap.size w3 W → W.cell? ⟨w.heap.size + 1, 3, none⟩ = some (.int .u8 (i : Int)) := fun W hW => ((hO.later hW).cell 3).trans (by rw [← hie.out]; rfl)
      refine wp_region_plan (fun W => Below w3.heap.size w3 W) (Plan.of [(0, true), (1, true), (2, true), (3, true), (4, true), (5, true)] (.either 6 (Plan.of [(7, true), (8, true), (9, true), (10, false), (11, false), (12, true)] .done) 10 (Plan.of [(6, false), (7, true), (8, true), (9, true), (11, false), (12, true)] .done))) (by kernel_rfl) (by kernel_rfl) (by kernel_rfl) (by kernel_rfl) hbA ?_
      iterate 1
        first
          | (refine plan_pass _ rfl (by rfl) ?_)
          | (refine plan_take _ _ rfl (.inl ⟨by rfl, fun W hS => by clear hS; go_simp; try with_reducible rfl⟩) ?_)
        try simp only [Act.put, List.setIfInBounds_toArray, List.set_cons_zero, List.set_cons_succ]
      iterate 1
        first
          | (refine plan_pass _ rfl (by rfl) ?_)
          | (refine plan_take _ _ rfl (.inl ⟨by rfl, fun W hS => by have z1 := hS3 W hS; go_simp; try with_reducible rfl⟩) ?_)
        try simp only [Act.put, List.setIfInBounds_toArray, List.set_cons_zero, List.set_cons_succ]
      iterate 2
        first
          | (refine plan_pass _ rfl (by rfl) ?_)
          | (refine plan_take _ _ rfl (.inl ⟨by rfl, fun W hS => by clear hS; go_simp; try with_reducible rfl⟩) ?_)
        try simp only [Act.put, List.setIfInBounds_toArray, List.set_cons_zero, List.set_cons_succ]
      refine plan_take _ _ rfl (yieldsIf_load_mid (by rfl) 25 _ rfl w.heap.size (i * 5) rfl (objL (b.obj ⟨i, hob⟩)) _ (fun W h => (hB.later h).obj_at ⟨i, hob⟩) Try.underlying25 rfl (obj_size (b.obj ⟨i, hob⟩))) ?_
      try simp only [Act.put, List.setIfInBounds_toArray, List.set_cons_zero, List.set_cons_succ]
      refine plan_take _ _ rfl (yields_load_has (by rfl) 35 _ rfl (w.heap.size + 1) rfl 35 (opC o) _ Try.underlying35 rfl (op_size o) (fun W h => hO.later h)) ?_
      try simp only [Act.put, List.setIfInBounds_toArray, List.set_cons_zero, List.set_cons_succ]
      refine plan_either ?_ ?_
      · refine plan_run _ rfl (fun K hK => ?_)
        go_simp
        refine (hchange _).mono ?_
        rintro e w4 ⟨rfl, hq⟩
        have hbB : Below w3.heap.size w3 w4 := hbA.trans (hq.mono hbA.size)
        refine hK.out _ _ hbB ?_
        clear hK K hq
        iterate 3
          first
            | (refine plan_pass _ rfl (by rfl) ?_)
            | (refine plan_take _ _ rfl (.inl ⟨by rfl, fun W hS => by clear hS; go_simp; try with_reducible rfl⟩) ?_)
          try simp only [Act.put, List.setIfInBounds_toArray, List.set_cons_zero, List.set_cons_succ]
        refine plan_alloc_has _ rfl (by rfl) 25 rfl (objC obj0) obj_zero (hbB.alloc hbB.size _) ?_
        try simp only [Act.put, List.setIfInBounds_toArray, List.set_cons_zero, List.set_cons_succ]
        have hM := Has.new w4 25 (objC obj0)
        have hbC : Below w3.heap.size w3 (w4.alloc (.cells (objC obj0) 25)) := hbB.alloc hbB.size _
        have hgm : w3.heap.size ≤ w4.heap.size := hbB.size
        generalize w4.alloc (.cells (objC obj0) 25) = w5 at *
        generalize w4.heap.size = gm at *
        have hbW := below_setRow hbC hgm (objC X)
        refine plan_store_has _ rfl (by rfl) 25 _ _ rfl gm rfl (objC X) rfl 25 (objC obj0) (obj_size _) rfl (obj_one _) hM hbW ?_
        try simp only [Act.put, List.setIfInBounds_toArray, List.set_cons_zero, List.set_cons_succ]
        have hMz := hM.row (objC X)
        generalize w5.setRow gm (objC X) = w8 at *
        iterate 1
          first
            | (refine plan_pass _ rfl (by rfl) ?_)
            | (refine plan_take _ _ rfl (.inl ⟨by rfl, fun W hS => by clear hS; go_simp; try with_reducible rfl⟩) ?_)
          try simp only [Act.put, List.setIfInBounds_toArray, List.set_cons_zero, List.set_cons_succ]
        refine plan_done ?_
        clear hM
        replace hB := hB.later hbW
        replace hO := hO.later hbW
        replace hQ := hQ.later hbW
        replace hR := hR.later hbW
        have hbw8 := hbw.trans (hbW.mono hbw.size)
        have o3 := (hO.cell 3).trans (show (opC o)[3]? = some (.int .u8 (o.obj : Int)) from rfl)
        have hB1 : Has (w8.setCells w.heap.size (i * 5) (objC X).toList) w.heap.size 33 (baseC (b.setObj ⟨i, hob⟩ X)) := hB.setObj ⟨i, hob⟩ X
        have hO1 := hO.cells_other (k := w.heap.size) (by omega) (objC X).toList (i * 5)
        have hQ1 := hQ.cells_other (k := w.heap.size) (by omega) (objC X).toList (i * 5)
        have hR1 := hR.cells_other (k := w.heap.size) (by omega) (objC X).toList (i * 5)
        have hb1 := below_setCells hbw8 (Nat.le_refl w.heap.size) (objC X).toList (i * 5)
        have ht1 : Hid (w8.there w.heap.size (i * 5) (objC X).size) := hB.there (i * 5) 5 (show i * 5 + 5 ≤ 39 by omega)
        have p0 := (hO1.cell 0).trans (show (opC o)[0]? = some (.int .u8 (o.client : Int)) from rfl)
        have p1 := (hO1.cell 1).trans (show (opC o)[1]? = some (.int .u32 (o.seq : Int)) from rfl)
        rw [hie.out] at o3
        rw [hke.out] at p0
        replace p0 : _ = some (Value.int .u8 ((k : Int) + 1)) := p0
        have hB2 : Has ((w8.setCells w.heap.size (i * 5) (objC X).toList).setCells w.heap.size (30 + k * 3) (lastC ⟨o.seq, ⟨cd, []⟩⟩).toList) w.heap.size 33 (baseC ((b.setObj ⟨i, hob⟩ X).setLast ⟨k, hk3⟩ ⟨o.seq, ⟨cd, []⟩⟩)) := hB1.setLast ⟨k, hk3⟩ ⟨o.seq, ⟨cd, []⟩⟩
        have hQ2 := hQ1.cells_other (k := w.heap.size) (by omega) (lastC ⟨o.seq, ⟨cd, []⟩⟩).toList (30 + k * 3)
        have hR2 := hR1.cells_other (k := w.heap.size) (by omega) (lastC ⟨o.seq, ⟨cd, []⟩⟩).toList (30 + k * 3)
        have hb2 := below_setCells hb1 (Nat.le_refl w.heap.size) (lastC ⟨o.seq, ⟨cd, []⟩⟩).toList (30 + k * 3)
        have ht2 : Hid ((w8.setCells w.heap.size (i * 5) (objC X).toList).there w.heap.size (30 + k * 3) (lastC ⟨o.seq, ⟨cd, []⟩⟩).size) := hB1.there (30 + k * 3) 3 (show 30 + k * 3 + 3 ≤ 39 by omega)
        have hQz := (hQ2.row (baseC BZ)).row_other (k := w.heap.size + 1 + 1 + 1) (by omega) (resC ⟨cd, []⟩)
        have hR3 := hR2.row_other (k := w.heap.size + 1 + 1) (by omega) (baseC BZ)
        have hRz := hR3.row (resC ⟨cd, []⟩)
        have hbz := below_setRow (g := w.heap.size + 1 + 1 + 1) (below_setRow (g := w.heap.size + 1 + 1) hb2 (by omega) (baseC BZ)) (by omega) (resC ⟨cd, []⟩)
        rw [hBZ.out] at hB2
        clear hB hO hQ hR hbw8
        go_wp2_with (first
          | (refine wpList_load_has (by rfl) 25 _ rfl gm rfl 25 (objC X) _ Try.underlying25 rfl (obj_size X) ?hg ?_; (case hg => exact hMz))
          | (refine wpList_store_mid' (by rfl) 25 _ _ rfl w.heap.size (i * 5) (objC X) rfl rfl ?hg (obj_size X) (obj_one X) ?_; (case hg => exact ht1.out); generalize w8.setCells w.heap.size (i * 5) (objC X).toList = w9 at *)
          | (refine wpList_build_one (by rfl) 28 0 _ rfl (.int .u8 (cd : Int)) rfl (resC ⟨cd, []⟩) (res_code cd) ?_)
          | (refine wpList_build_two (by rfl) 30 0 1 _ _ rfl (.int .u32 (o.seq : Int)) (.agg (resC ⟨cd, []⟩)) rfl rfl (lastC ⟨o.seq, ⟨cd, []⟩⟩) (last_built o.seq cd) ?_)
          | (refine wpList_store_mid' (by rfl) 30 _ _ rfl w.heap.size (30 + k * 3) (lastC ⟨o.seq, ⟨cd, []⟩⟩) rfl rfl ?hg (last_size _) (last_one _) ?_; (case hg => exact ht2.out); generalize w9.setCells w.heap.size (30 + k * 3) (lastC ⟨o.seq, ⟨cd, []⟩⟩).toList = w10 at *)
          | (refine wpList_load_has (by rfl) 33 _ rfl w.heap.size rfl 33 (baseC BZ) _ Try.underlying33 rfl (base_size _) ?hg ?_; (case hg => exact hB2))
          | (refine wpList_store_has (by rfl) 33 _ _ rfl (w.heap.size + 1 + 1) rfl (baseC BZ) rfl 33 (baseC base0) (base_size _) rfl (base_one _) ?hg ?_; (case hg => exact hQ2))
          | (refine wpList_store_has (by rfl) 28 _ _ rfl (w.heap.size + 1 + 1 + 1) rfl (resC ⟨cd, []⟩) rfl 28 (resC res0) (res_size _) rfl (res_one _) ?hg ?_; (case hg => exact hR3)))
        exact ret_has_two rfl (w.heap.size + 1 + 1) (w.heap.size + 1 + 1 + 1) rfl rfl 33 28 (baseC BZ) (resC ⟨cd, []⟩) _ _ Try.underlying33 rfl (base_size _) Try.underlying28 rfl (res_size _) hQz hRz rfl ⟨by rw [hc.out], hbz⟩
      · refine plan_alloc_has _ rfl (by rfl) 25 rfl (objC obj0) obj_zero (hbA.alloc hbA.size _) ?_
        try simp only [Act.put, List.setIfInBounds_toArray, List.set_cons_zero, List.set_cons_succ]
        have hM := Has.new w3.drew 25 (objC obj0)
        have hbB : Below w3.heap.size w3 (w3.drew.alloc (.cells (objC obj0) 25)) := hbA.alloc hbA.size _
        have hgm : w3.heap.size ≤ w3.drew.heap.size := hbA.size
        generalize w3.drew.alloc (.cells (objC obj0) 25) = w4 at *
        generalize w3.drew.heap.size = gm at *
        refine plan_run _ rfl (fun K hK => ?_)
        go_simp
        refine (hchange _).mono ?_
        rintro e w5 ⟨rfl, hq⟩
        have hbC : Below w3.heap.size w3 w5 := hbB.trans (hq.mono hbB.size)
        replace hM := hM.later hq
        refine hK.out _ _ hbC ?_
        clear hK K hq
        iterate 3
          first
            | (refine plan_pass _ rfl (by rfl) ?_)
            | (refine plan_take _ _ rfl (.inl ⟨by rfl, fun W hS => by clear hS; go_simp; try with_reducible rfl⟩) ?_)
          try simp only [Act.put, List.setIfInBounds_toArray, List.set_cons_zero, List.set_cons_succ]
        have hbW := below_setRow hbC hgm (objC X)
        refine plan_store_has _ rfl (by rfl) 25 _ _ rfl gm rfl (objC X) rfl 25 (objC obj0) (obj_size _) rfl (obj_one _) hM hbW ?_
        try simp only [Act.put, List.setIfInBounds_toArray, List.set_cons_zero, List.set_cons_succ]
        have hMz := hM.row (objC X)
        generalize w5.setRow gm (objC X) = w8 at *
        iterate 1
          first
            | (refine plan_pass _ rfl (by rfl) ?_)
            | (refine plan_take _ _ rfl (.inl ⟨by rfl, fun W hS => by clear hS; go_simp; try with_reducible rfl⟩) ?_)
          try simp only [Act.put, List.setIfInBounds_toArray, List.set_cons_zero, List.set_cons_succ]
        refine plan_done ?_
        clear hM
        replace hB := hB.later hbW
        replace hO := hO.later hbW
        replace hQ := hQ.later hbW
        replace hR := hR.later hbW
        have hbw8 := hbw.trans (hbW.mono hbw.size)
        have o3 := (hO.cell 3).trans (show (opC o)[3]? = some (.int .u8 (o.obj : Int)) from rfl)
        have hB1 : Has (w8.setCells w.heap.size (i * 5) (objC X).toList) w.heap.size 33 (baseC (b.setObj ⟨i, hob⟩ X)) := hB.setObj ⟨i, hob⟩ X
        have hO1 := hO.cells_other (k := w.heap.size) (by omega) (objC X).toList (i * 5)
        have hQ1 := hQ.cells_other (k := w.heap.size) (by omega) (objC X).toList (i * 5)
        have hR1 := hR.cells_other (k := w.heap.size) (by omega) (objC X).toList (i * 5)
        have hb1 := below_setCells hbw8 (Nat.le_refl w.heap.size) (objC X).toList (i * 5)
        have ht1 : Hid (w8.there w.heap.size (i * 5) (objC X).size) := hB.there (i * 5) 5 (show i * 5 + 5 ≤ 39 by omega)
        have p0 := (hO1.cell 0).trans (show (opC o)[0]? = some (.int .u8 (o.client : Int)) from rfl)
        have p1 := (hO1.cell 1).trans (show (opC o)[1]? = some (.int .u32 (o.seq : Int)) from rfl)
        rw [hie.out] at o3
        rw [hke.out] at p0
        replace p0 : _ = some (Value.int .u8 ((k : Int) + 1)) := p0
        have hB2 : Has ((w8.setCells w.heap.size (i * 5) (objC X).toList).setCells w.heap.size (30 + k * 3) (lastC ⟨o.seq, ⟨cd, []⟩⟩).toList) w.heap.size 33 (baseC ((b.setObj ⟨i, hob⟩ X).setLast ⟨k, hk3⟩ ⟨o.seq, ⟨cd, []⟩⟩)) := hB1.setLast ⟨k, hk3⟩ ⟨o.seq, ⟨cd, []⟩⟩
        have hQ2 := hQ1.cells_other (k := w.heap.size) (by omega) (lastC ⟨o.seq, ⟨cd, []⟩⟩).toList (30 + k * 3)
        have hR2 := hR1.cells_other (k := w.heap.size) (by omega) (lastC ⟨o.seq, ⟨cd, []⟩⟩).toList (30 + k * 3)
        have hb2 := below_setCells hb1 (Nat.le_refl w.heap.size) (lastC ⟨o.seq, ⟨cd, []⟩⟩).toList (30 + k * 3)
        have ht2 : Hid ((w8.setCells w.heap.size (i * 5) (objC X).toList).there w.heap.size (30 + k * 3) (lastC ⟨o.seq, ⟨cd, []⟩⟩).size) := hB1.there (30 + k * 3) 3 (show 30 + k * 3 + 3 ≤ 39 by omega)
        have hQz := (hQ2.row (baseC BZ)).row_other (k := w.heap.size + 1 + 1 + 1) (by omega) (resC ⟨cd, []⟩)
        have hR3 := hR2.row_other (k := w.heap.size + 1 + 1) (by omega) (baseC BZ)
        have hRz := hR3.row (resC ⟨cd, []⟩)
        have hbz := below_setRow (g := w.heap.size + 1 + 1 + 1) (below_setRow (g := w.heap.size + 1 + 1) hb2 (by omega) (baseC BZ)) (by omega) (resC ⟨cd, []⟩)
        rw [hBZ.out] at hB2
        clear hB hO hQ hR hbw8
        go_wp2_with (first
          | (refine wpList_load_has (by rfl) 25 _ rfl gm rfl 25 (objC X) _ Try.underlying25 rfl (obj_size X) ?hg ?_; (case hg => exact hMz))
          | (refine wpList_store_mid' (by rfl) 25 _ _ rfl w.heap.size (i * 5) (objC X) rfl rfl ?hg (obj_size X) (obj_one X) ?_; (case hg => exact ht1.out); generalize w8.setCells w.heap.size (i * 5) (objC X).toList = w9 at *)
          | (refine wpList_build_one (by rfl) 28 0 _ rfl (.int .u8 (cd : Int)) rfl (resC ⟨cd, []⟩) (res_code cd) ?_)
          | (refine wpList_build_two (by rfl) 30 0 1 _ _ rfl (.int .u32 (o.seq : Int)) (.agg (resC ⟨cd, []⟩)) rfl rfl (lastC ⟨o.seq, ⟨cd, []⟩⟩) (last_built o.seq cd) ?_)
          | (refine wpList_store_mid' (by rfl) 30 _ _ rfl w.heap.size (30 + k * 3) (lastC ⟨o.seq, ⟨cd, []⟩⟩) rfl rfl ?hg (last_size _) (last_one _) ?_; (case hg => exact ht2.out); generalize w9.setCells w.heap.size (30 + k * 3) (lastC ⟨o.seq, ⟨cd, []⟩⟩).toList = w10 at *)
          | (refine wpList_load_has (by rfl) 33 _ rfl w.heap.size rfl 33 (baseC BZ) _ Try.underlying33 rfl (base_size _) ?hg ?_; (case hg => exact hB2))
          | (refine wpList_store_has (by rfl) 33 _ _ rfl (w.heap.size + 1 + 1) rfl (baseC BZ) rfl 33 (baseC base0) (base_size _) rfl (base_one _) ?hg ?_; (case hg => exact hQ2))
          | (refine wpList_store_has (by rfl) 28 _ _ rfl (w.heap.size + 1 + 1 + 1) rfl (resC ⟨cd, []⟩) rfl 28 (resC res0) (res_size _) rfl (res_one _) ?hg ?_; (case hg => exact hR3)))
        exact ret_has_two rfl (w.heap.size + 1 + 1) (w.heap.size + 1 + 1 + 1) rfl rfl 33 28 (baseC BZ) (resC ⟨cd, []⟩) _ _ Try.underlying33 rfl (base_size _) Try.underlying28 rfl (res_size _) hQz hRz rfl ⟨by rw [hc.out], hbz⟩
end Go.Proofs.Ytphlfepgaghhhaa
