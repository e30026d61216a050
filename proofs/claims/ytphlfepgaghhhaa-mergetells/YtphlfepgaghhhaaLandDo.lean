/- The contract of objects.Do. -/
import Derived.Test.YtphlfepgaghhhaaLandSeen
import Derived.Test.YtphlfepgaghhhaaLandChange
import Derived.Test.YtphlfepgaghhhaaLandOf
import Derived.Test.YtphlfepgaghhhaaObjFacts
import Derived.Test.YtphlfepgaghhhaaPlanMem
namespace Go.Proofs.Ytphlfepgaghhhaa
set_option linter.unusedSimpArgs false
set_option linter.unusedVariables false
set_option maxRecDepth 100000
open Go.RowKit

theorem lres_code (n : Nat) : Try.prog.built 28 [(0, .int .u8 (n : Int))] = some (resC ⟨n, []⟩) := by kernel_rfl
theorem llast_built (q n : Nat) : Try.prog.built 30 [(0, .int .u32 (q : Int)), (1, .agg (resC ⟨n, []⟩))] = some (lastC ⟨q, ⟨n, []⟩⟩) := by kernel_rfl

/-- Whatever the kind: the change that changeOf hands back. -/
theorem change_any (x : ObjV) (o : OpV) (w : World) (hx : x.data.length ≤ 1000) (ho : OpOk o) (hl : o.data.length ≤ 16) (hk1 : 1 ≤ o.kind) (hk4 : o.kind ≤ 4) :
    Calls Try.prog (ofF o.kind) #[.agg (objC x), .agg (opC o)] w fun e w' => e = .returned (.tuple #[.agg (objC (changeM x o).1), .int .u8 ((changeM x o).2 : Nat)]) ∧ Below w.heap.size w w' := by
  rcases (show o.kind = 1 ∨ o.kind = 2 ∨ o.kind = 3 ∨ o.kind = 4 by omega) with h | h | h | h
  · rw [h]
    exact write_any x o w hx ho hl h
  · rw [h]
    exact trunc_any x o w hx ho h
  · rw [h]
    exact attr_any x o w ho h
  · rw [h]
    exact remove_any x o w ho h

theorem of_enter (k : Nat) (hk1 : 1 ≤ k) (hk4 : k ≤ 4) (args : Array Value) (W : World) : (callFunc (ofF k) args).run Try.prog W = .ok (.enter (ofF k) args) W := by
  rcases (show k = 1 ∨ k = 2 ∨ k = 3 ∨ k = 4 by omega) with rfl | rfl | rfl | rfl
  · show (callFunc 79 args).run Try.prog W = .ok (.enter 79 args) W
    go_simp
  · show (callFunc 80 args).run Try.prog W = .ok (.enter 80 args) W
    go_simp
  · show (callFunc 81 args).run Try.prog W = .ok (.enter 81 args) W
    go_simp
  · show (callFunc 82 args).run Try.prog W = .ok (.enter 82 args) W
    go_simp

set_option maxHeartbeats 4000000 in
theorem do_any (b : BaseV) (o : OpV) (w : World) (hb : BaseOk b) (ho : OpOk o) :
    Calls Try.prog 69 #[.agg (baseC b), .agg (opC o)] w fun e w' => e = .returned (.tuple #[.agg (baseC (doM b o).1), .agg (resC (doM b o).2)]) ∧ Below w.heap.size w w' := by
  obtain ⟨W0, hW0⟩ : ∃ W0, W0 = (((w.alloc (.cells (baseC b) 33)).alloc (.cells (opC o) 35)).alloc (.cells (baseC base0) 33)).alloc (.cells (resC res0) 28) := ⟨_, rfl⟩
  have hB : Has W0 w.heap.size 33 (baseC b) := hW0 ▸ (((Has.new _ _ _).alloc _).alloc _).alloc _
  have hO : Has W0 (w.heap.size + 1) 35 (opC o) := by
    have := ((Has.new (w.alloc (.cells (baseC b) 33)) 35 (opC o)).alloc (.cells (baseC base0) 33)).alloc (.cells (resC res0) 28)
    rw [hW0]
    simpa using this
  have hQ : Has W0 (w.heap.size + 1 + 1) 33 (baseC base0) := by
    have := (Has.new ((w.alloc (.cells (baseC b) 33)).alloc (.cells (opC o) 35)) 33 (baseC base0)).alloc (.cells (resC res0) 28)
    rw [hW0]
    simpa using this
  have hR : Has W0 (w.heap.size + 1 + 1 + 1) 28 (resC res0) := by
    have := Has.new (((w.alloc (.cells (baseC b) 33)).alloc (.cells (opC o) 35)).alloc (.cells (baseC base0) 33)) 28 (resC res0)
    rw [hW0]
    simpa using this
  have hbw : Below w.heap.size w W0 := hW0 ▸ ((((Below.refl _ _).alloc (Nat.le_refl _) _).alloc (by simp) _).alloc (by simp; omega) _).alloc (by simp; omega) _
  rw [hW0] at hB hO hQ hR hbw
  clear hW0 W0
  go_enter Try.func69, Try.ntmps69
  go_wp2_with (first
    | (refine wpList_alloc_has (by rfl) 33 rfl (baseC base0) base_zero ?_)
    | (refine wpList_alloc_has (by rfl) 28 rfl (resC res0) res_zero ?_; generalize (((w.alloc (.cells (baseC b) 33)).alloc (.cells (opC o) 35)).alloc (.cells (baseC base0) 33)).alloc (.cells (resC res0) 28) = w0 at *)
    | (refine wpList_load_has (by rfl) 35 _ rfl (w.heap.size + 1) rfl 35 (opC o) _ Try.underlying35 rfl (op_size o) hO ?_))
  refine (writes_any o _ ho).mono ?_
  rintro e w1 ⟨rfl, hq⟩
  replace hB := hB.later hq
  replace hO := hO.later hq
  replace hQ := hQ.later hq
  replace hR := hR.later hq
  replace hbw := hbw.trans (hq.mono hbw.size)
  clear hq
  cases hw : writesM o with
  | false =>
    have hc := do_bad (b := b) hw
    have hQz := (hQ.row (baseC b)).row_other (k := w.heap.size + 1 + 1 + 1) (by omega) (resC ⟨3, []⟩)
    have hR1 := hR.row_other (k := w.heap.size + 1 + 1) (by omega) (baseC b)
    have hRz := hR1.row (resC ⟨3, []⟩)
    have hbz := below_setRow (g := w.heap.size + 1 + 1 + 1) (below_setRow (g := w.heap.size + 1 + 1) hbw (by omega) (baseC b)) (by omega) (resC ⟨3, []⟩)
    go_wp2_with (first
      | (refine wpList_load_has (by rfl) 33 _ rfl w.heap.size rfl 33 (baseC b) _ Try.underlying33 rfl (base_size b) hB ?_)
      | (refine wpList_build_has (by rfl) 28 _ rfl (resC ⟨3, []⟩) (by simpa using res_bad) ?_)
      | (refine wpList_store_has (by rfl) 33 _ _ rfl (w.heap.size + 1 + 1) rfl (baseC b) rfl 33 (baseC base0) (base_size _) rfl (base_one _) hQ ?_)
      | (refine wpList_store_has (by rfl) 28 _ _ rfl (w.heap.size + 1 + 1 + 1) rfl (resC ⟨3, []⟩) rfl 28 (resC res0) (res_size _) rfl (res_one _) hR1 ?_))
    exact ret_has_two rfl (w.heap.size + 1 + 1) (w.heap.size + 1 + 1 + 1) rfl rfl 33 28 (baseC b) (resC ⟨3, []⟩) _ _ Try.underlying33 rfl (base_size _) Try.underlying28 rfl (res_size _) hQz hRz rfl ⟨by rw [hc], hbz⟩
  | true =>
    obtain ⟨hc1, hc3, hob, hk1, hk4, hdl⟩ := writes_client hw
    have hlt1 := hR.lt
    go_wp2_with (first
      | (refine wpList_load_has (by rfl) 33 _ rfl w.heap.size rfl 33 (baseC b) _ Try.underlying33 rfl (base_size b) hB ?_)
      | (refine wpList_load_has (by rfl) 35 _ rfl (w.heap.size + 1) rfl 35 (opC o) _ Try.underlying35 rfl (op_size o) hO ?_))
    refine (seen_any b o _ hb ho).mono ?_
    rintro e w2 ⟨rfl, hq⟩
    have hgs : w.heap.size + 1 + 1 + 1 < w2.heap.size := by
      have := hq.size
      omega
    have hbb := hq.trans ((below_setRow ((Below.refl w2.heap.size w2).alloc (Nat.le_refl _) (.cells (resC res0) 28)) (Nat.le_refl _) (resC (seenM b o).1)).mono hq.size)
    have hS := (Has.new w2 28 (resC res0)).row (resC (seenM b o).1)
    replace hB := hB.later hbb
    replace hO := hO.later hbb
    replace hQ := hQ.later hbb
    replace hR := hR.later hbb
    replace hbw := hbw.trans (hbb.mono hbw.size)
    clear hq hbb
    cases hsn : (seenM b o).2 with
    | true =>
      have hc : Hid _ := do_seen hw hsn
      clear hsn
      generalize (seenM b o).1 = r at *
      go_wp2_with (first
        | (refine wpList_alloc_has (by rfl) 28 rfl (resC res0) res_zero ?_)
        | (refine wpList_store_has (by rfl) 28 _ _ rfl w2.heap.size rfl (resC r) rfl 28 (resC res0) (res_size _) rfl (res_one _) (Has.new _ _ _) ?_; generalize (w2.alloc (.cells (resC res0) 28)).setRow w2.heap.size (resC r) = w3 at *; generalize w2.heap.size = gs at *))
      have hQz := (hQ.drew.row (baseC b)).row_other (k := w.heap.size + 1 + 1 + 1) (by omega) (resC r)
      have hRy := hR.drew.row_other (k := w.heap.size + 1 + 1) (by omega) (baseC b)
      have hRz := hRy.row (resC r)
      have hBy := hB.drew.row_other (k := w.heap.size + 1 + 1) (by omega) (baseC b)
      have hSy := hS.drew.row_other (k := w.heap.size + 1 + 1) (by omega) (baseC b)
      have hBz := hBy.row_other (k := w.heap.size + 1 + 1 + 1) (by omega) (resC r)
      have hSz := hSy.row_other (k := w.heap.size + 1 + 1 + 1) (by omega) (resC r)
      have hbz := below_setRow (g := w.heap.size + 1 + 1 + 1) (below_setRow (g := w.heap.size + 1 + 1) hbw.drew (by omega) (baseC b)) (by omega) (resC r)
      refine wp_region_plan (fun W => Has W w.heap.size 33 (baseC b) ∧ Has W gs 28 (resC r)) (Plan.of [(0, true), (1, true), (2, false), (3, false)] .done) (by kernel_rfl) (by kernel_rfl) (by kernel_rfl) (by kernel_rfl) ⟨hB.drew, hS.drew⟩ ?_
      refine plan_take _ _ rfl (yields_load_has (by rfl) 33 _ rfl w.heap.size rfl 33 (baseC b) _ Try.underlying33 rfl (base_size _) (fun _ h => h.1)) ?_
      try simp only [Act.put, List.setIfInBounds_toArray, List.set_cons_zero, List.set_cons_succ]
      refine plan_take _ _ rfl (yields_load_has (by rfl) 28 _ rfl gs rfl 28 (resC r) _ Try.underlying28 rfl (res_size _) (fun _ h => h.2)) ?_
      try simp only [Act.put, List.setIfInBounds_toArray, List.set_cons_zero, List.set_cons_succ]
      refine plan_store_has _ rfl (by rfl) 33 _ _ rfl (w.heap.size + 1 + 1) rfl (baseC b) rfl 33 (baseC base0) (base_size _) rfl (base_one _) hQ.drew ⟨hBy, hSy⟩ ?_
      try simp only [Act.put, List.setIfInBounds_toArray, List.set_cons_zero, List.set_cons_succ]
      refine plan_store_has _ rfl (by rfl) 28 _ _ rfl (w.heap.size + 1 + 1 + 1) rfl (resC r) rfl 28 (resC res0) (res_size _) rfl (res_one _) hRy ⟨hBz, hSz⟩ ?_
      try simp only [Act.put, List.setIfInBounds_toArray, List.set_cons_zero, List.set_cons_succ]
      refine plan_done ?_
      go_wp2
      exact ret_has_two rfl (w.heap.size + 1 + 1) (w.heap.size + 1 + 1 + 1) rfl rfl 33 28 (baseC b) (resC r) _ _ Try.underlying33 rfl (base_size _) Try.underlying28 rfl (res_size _) hQz hRz rfl ⟨by rw [hc.out], hbz⟩
    | false =>
      have hc0 := do_new hw (by rw [hsn]; simp)
      obtain ⟨i, hie⟩ : ∃ i, i = o.obj := ⟨_, rfl⟩
      have hob : i < 6 := by omega
      obtain ⟨k, hke⟩ : ∃ k, o.client = k + 1 := ⟨o.client - 1, by omega⟩
      have hk3 : k < 3 := by omega
      have hoo : objOf b o = b.obj ⟨i, hob⟩ := by unfold objOf; rw [dif_pos (by omega)]; congr 1; exact Fin.ext hie.symm
      rw [hoo] at hc0
      obtain ⟨X, hX⟩ : ∃ X, X = (changeM (b.obj ⟨i, hob⟩) o).1 := ⟨_, rfl⟩
      obtain ⟨cd, hcd⟩ : ∃ c, c = (changeM (b.obj ⟨i, hob⟩) o).2 := ⟨_, rfl⟩
      have hcd3 := code_le (b.obj ⟨i, hob⟩) o
      rw [← hcd] at hcd3
      rw [← hX, ← hcd] at hc0
      obtain ⟨BZ, hBZ⟩ : ∃ B, B = (b.setObj ⟨i, hob⟩ X).setLast ⟨k, hk3⟩ ⟨o.seq, ⟨cd, []⟩⟩ := ⟨_, rfl⟩
      have hc : Hid (doM b o = (BZ, ⟨cd, []⟩)) := by
        show _ = _
        rw [hc0, hBZ]
        unfold putLast putObj
        rw [dif_pos (show o.obj < 6 by omega), dif_pos (show o.client - 1 < 3 by omega)]
        congr 2
        · congr 1
          exact Fin.ext hie.symm
        · exact Fin.ext (by simp [hke])
      have hchange := fun W => change_any (b.obj ⟨i, hob⟩) o W (hb.data _) ho hdl hk1 hk4
      have hof := fun W => of_any o.kind W hk1 hk4
      have hcf := fun (args : Array Value) (W : World) => of_enter o.kind hk1 hk4 args W
      rw [← hX, ← hcd] at hchange
      replace hBZ : Hid _ := hBZ.symm
      replace hie : Hid (o.obj = i) := hie.symm
      replace hke : Hid _ := hke
      clear hc0 hoo hX hcd hsn
      generalize (seenM b o).1 = r at *
      generalize ofF o.kind = F at *
      have hiI : (i : Int) < 6 := by omega
      have hkI : (k : Int) < 3 := by omega
      go_wp2_with (first
        | (refine wpList_alloc_has (by rfl) 28 rfl (resC res0) res_zero ?_)
        | (refine wpList_store_has (by rfl) 28 _ _ rfl w2.heap.size rfl (resC r) rfl 28 (resC res0) (res_size _) rfl (res_one _) (Has.new _ _ _) ?_; generalize (w2.alloc (.cells (resC res0) 28)).setRow w2.heap.size (resC r) = w3 at *; generalize w2.heap.size = gs at *))
      have hbA : Below w3.heap.size w3 w3.drew := (Below.refl _ _).drew
      have hlt3 : w.heap.size + 1 + 1 + 1 < w3.heap.size := hR.lt
      have hS3 : ∀ W, Below w3.heap.size w3 W → W.cell? ⟨w.heap.size + 1, 3, none⟩ = some (.int .u8 (i : Int)) := fun W hW => ((hO.later hW).cell 3).trans (by rw [← hie.out]; rfl)
      have hS2 : ∀ W, Below w3.heap.size w3 W → W.cell? ⟨w.heap.size + 1, 2, none⟩ = some (.int .u8 (o.kind : Int)) := fun W hW => ((hO.later hW).cell 2).trans rfl
      refine wp_region_plan (fun W => Below w3.heap.size w3 W) (Plan.of [(0, true), (1, true), (3, true), (4, true), (5, true), (6, true), (7, true), (8, true)] (.either 2 (.either 9 (Plan.of [(10, true), (11, true), (12, true), (13, false), (14, false), (15, true)] .done) 13 (Plan.of [(9, false), (10, true), (11, true), (12, true), (14, false), (15, true)] .done)) 13 (Plan.of [(2, false), (9, false), (10, true), (11, true), (12, true), (14, false), (15, true)] .done))) (by kernel_rfl) (by kernel_rfl) (by kernel_rfl) (by kernel_rfl) hbA ?_
      iterate 1
        first
          | (refine plan_pass _ rfl (by rfl) ?_)
          | (refine plan_take _ _ rfl (.inl ⟨by rfl, fun W hS => by clear hS; go_simp; try with_reducible rfl⟩) ?_)
        try simp only [Act.put, List.setIfInBounds_toArray, List.set_cons_zero, List.set_cons_succ]
      iterate 1
        first
          | (refine plan_pass _ rfl (by rfl) ?_)
          | (refine plan_take _ _ rfl (.inl ⟨by rfl, fun W hS => by have z1 := hS2 W hS; go_simp; try with_reducible rfl⟩) ?_)
        try simp only [Act.put, List.setIfInBounds_toArray, List.set_cons_zero, List.set_cons_succ]
      iterate 1
        first
          | (refine plan_pass _ rfl (by rfl) ?_)
          | (refine plan_take _ _ rfl (.inl ⟨by rfl, fun W hS => by clear hS; go_simp; try with_reducible rfl⟩) ?_)
        try simp only [Act.put, List.setIfInBounds_toArray, List.set_cons_zero, List.set_cons_succ]
      iterate 1
        first
          | (refine plan_pass _ rfl (by rfl) ?_)
          | (refine plan_take _ _ rfl (.inl ⟨by rfl, fun W hS => by have z1 := hS3 W hS; go_simp; try with_reducible rfl⟩) ?_)
        try simp only [Act.put, List.setIfInBounds_toArray, List.set_cons_zero, List.set_cons_succ]
      iterate 2
        first
          | (refine plan_pass _ rfl (by rfl) ?_)
          | (refine plan_take _ _ rfl (.inl ⟨by rfl, fun W hS => by clear hS; go_simp; try with_reducible rfl⟩) ?_)
        try simp only [Act.put, List.setIfInBounds_toArray, List.set_cons_zero, List.set_cons_succ]
      refine plan_take _ _ rfl (yieldsIf_load_mid (by rfl) 25 _ rfl w.heap.size (i * 5) rfl (objL (b.obj ⟨i, hob⟩)) _ (fun W h => (hB.later h).obj_at ⟨i, hob⟩) Try.underlying25 rfl (obj_size (b.obj ⟨i, hob⟩))) ?_
      try simp only [Act.put, List.setIfInBounds_toArray, List.set_cons_zero, List.set_cons_succ]
      refine plan_take _ _ rfl (yields_load_has (by rfl) 35 _ rfl (w.heap.size + 1) rfl 35 (opC o) _ Try.underlying35 rfl (op_size o) (fun W h => hO.later h)) ?_
      try simp only [Act.put, List.setIfInBounds_toArray, List.set_cons_zero, List.set_cons_succ]
      refine plan_either ?_ ?_
      · refine plan_run _ rfl (fun K hK => ?_)
        go_simp
        refine (hof _).mono ?_
        rintro e w4 ⟨rfl, hq⟩
        have hbB : Below w3.heap.size w3 w4 := hbA.trans (hq.mono hbA.size)
        refine hK.out _ _ hbB ?_
        clear hK K
        clear hq
        refine plan_either ?_ ?_
        · refine plan_run _ rfl (fun K hK => ?_)
          go_simp
          refine (hchange _).mono ?_
          rintro e w5 ⟨rfl, hq⟩
          have hbC : Below w3.heap.size w3 w5 := hbB.trans (hq.mono hbB.size)
          refine hK.out _ _ hbC ?_
          clear hK K
          clear hq
          iterate 3
            first
              | (refine plan_pass _ rfl (by rfl) ?_)
              | (refine plan_take _ _ rfl (.inl ⟨by rfl, fun W hS => by clear hS; go_simp; try with_reducible rfl⟩) ?_)
            try simp only [Act.put, List.setIfInBounds_toArray, List.set_cons_zero, List.set_cons_succ]
          refine plan_alloc_has _ rfl (by rfl) 102 rfl (objC obj0) own_zero (hbC.alloc hbC.size _) ?_
          try simp only [Act.put, List.setIfInBounds_toArray, List.set_cons_zero, List.set_cons_succ]
          have hM := Has.new w5 102 (objC obj0)
          have hbD : Below w3.heap.size w3 (w5.alloc (.cells (objC obj0) 102)) := hbC.alloc hbC.size _
          have hgm : w3.heap.size ≤ w5.heap.size := hbC.size
          generalize w5.alloc (.cells (objC obj0) 102) = w6 at *
          generalize w5.heap.size = gm at *
          have hbW := below_setRow hbD hgm (objC X)
          refine plan_store_has _ rfl (by rfl) 102 _ _ rfl gm rfl (objC X) rfl 102 (objC obj0) (own_size _) rfl (obj_one _) hM hbW ?_
          try simp only [Act.put, List.setIfInBounds_toArray, List.set_cons_zero, List.set_cons_succ]
          have hMz := hM.row (objC X)
          generalize w6.setRow gm (objC X) = w8 at *
          iterate 1
            first
              | (refine plan_pass _ rfl (by rfl) ?_)
              | (refine plan_take _ _ rfl (.inl ⟨by rfl, fun W hS => by clear hS; go_simp; try with_reducible rfl⟩) ?_)
            try simp only [Act.put, List.setIfInBounds_toArray, List.set_cons_zero, List.set_cons_succ]
          refine plan_done ?_
          clear hM
          replace hB := hB.later hbW
          replace hO := hO.later hbW
          replace hQ := hQ.later hbW
          replace hR := hR.later hbW
          have hbw8 := hbw.trans (hbW.mono hbw.size)
          have hN8 := Has.new w8 28 (resC res0)
          have hbr := below_setRow ((Below.refl w8.heap.size w8).alloc (Nat.le_refl _) (.cells (resC res0) 28)) (Nat.le_refl _) (resC ⟨cd, []⟩)
          have hC := (Has.new w8 28 (resC res0)).row (resC ⟨cd, []⟩)
          obtain ⟨w9, hw9⟩ : ∃ W, (w8.alloc (.cells (resC res0) 28)).setRow w8.heap.size (resC ⟨cd, []⟩) = W := ⟨_, rfl⟩
          rw [hw9] at hbr hC
          replace hB := hB.later hbr
          replace hO := hO.later hbr
          replace hQ := hQ.later hbr
          replace hR := hR.later hbr
          replace hMz := hMz.later hbr
          replace hbw8 := hbw8.trans (hbr.mono hbw8.size)
          have hgr : w.heap.size + 1 + 1 + 1 < w8.heap.size := Nat.lt_of_lt_of_le hlt3 hbW.size
          obtain ⟨gr, hgre⟩ : ∃ g, g = w8.heap.size := ⟨_, rfl⟩
          rw [← hgre] at hC hgr hw9 hN8
          have o3 := (hO.cell 3).trans (show (opC o)[3]? = some (.int .u8 (o.obj : Int)) from rfl)
          have hB1 : Has (w9.setCells w.heap.size (i * 5) (objC X).toList) w.heap.size 33 (baseC (b.setObj ⟨i, hob⟩ X)) := hB.setObj ⟨i, hob⟩ X
          have hO1 := hO.cells_other (k := w.heap.size) (by omega) (objC X).toList (i * 5)
          have hQ1 := hQ.cells_other (k := w.heap.size) (by omega) (objC X).toList (i * 5)
          have hR1 := hR.cells_other (k := w.heap.size) (by omega) (objC X).toList (i * 5)
          have hC1 := hC.cells_other (k := w.heap.size) (by omega) (objC X).toList (i * 5)
          have hb1 := below_setCells hbw8 (Nat.le_refl w.heap.size) (objC X).toList (i * 5)
          have ht1 : Hid (w9.there w.heap.size (i * 5) (objC X).size) := hB.there (i * 5) 5 (show i * 5 + 5 ≤ 39 by omega)
          have p0 := (hO1.cell 0).trans (show (opC o)[0]? = some (.int .u8 (o.client : Int)) from rfl)
          have p1 := (hO1.cell 1).trans (show (opC o)[1]? = some (.int .u32 (o.seq : Int)) from rfl)
          rw [hie.out] at o3
          rw [hke.out] at p0
          replace p0 : _ = some (Value.int .u8 ((k : Int) + 1)) := p0
          have hB2 : Has ((w9.setCells w.heap.size (i * 5) (objC X).toList).setCells w.heap.size (30 + k * 3) (lastC ⟨o.seq, ⟨cd, []⟩⟩).toList) w.heap.size 33 (baseC ((b.setObj ⟨i, hob⟩ X).setLast ⟨k, hk3⟩ ⟨o.seq, ⟨cd, []⟩⟩)) := hB1.setLast ⟨k, hk3⟩ ⟨o.seq, ⟨cd, []⟩⟩
          have hQ2 := hQ1.cells_other (k := w.heap.size) (by omega) (lastC ⟨o.seq, ⟨cd, []⟩⟩).toList (30 + k * 3)
          have hR2 := hR1.cells_other (k := w.heap.size) (by omega) (lastC ⟨o.seq, ⟨cd, []⟩⟩).toList (30 + k * 3)
          have hC2 := hC1.cells_other (k := w.heap.size) (by omega) (lastC ⟨o.seq, ⟨cd, []⟩⟩).toList (30 + k * 3)
          have hb2 := below_setCells hb1 (Nat.le_refl w.heap.size) (lastC ⟨o.seq, ⟨cd, []⟩⟩).toList (30 + k * 3)
          have ht2 : Hid ((w9.setCells w.heap.size (i * 5) (objC X).toList).there w.heap.size (30 + k * 3) (lastC ⟨o.seq, ⟨cd, []⟩⟩).size) := hB1.there (30 + k * 3) 3 (show 30 + k * 3 + 3 ≤ 39 by omega)
          rw [hBZ.out] at hB2
          clear hB hO hQ hR hbw8 hbr
          go_wp2_with (first
            | (refine wpList_build_one (by rfl) 28 0 _ rfl (.int .u8 (cd : Int)) rfl (resC ⟨cd, []⟩) (lres_code cd) ?_)
            | (refine wpList_alloc_has (by rfl) 28 rfl (resC res0) res_zero ?_; rw [← hgre])
            | (refine wpList_store_to (by rfl) 28 _ _ rfl gr rfl (resC ⟨cd, []⟩) rfl 28 (resC res0) (res_size _) rfl (res_one _) ?hg w9 ?hW ?_; (case hg => exact hN8); (case hW => exact hw9); clear hw9 hN8 hgre)
            | (refine wpList_load_has (by rfl) 102 _ rfl gm rfl 102 (objC X) _ Try.underlying102 rfl (own_size X) ?hg ?_; (case hg => exact hMz))
            | (refine wpList_store_mid' (by rfl) 25 _ _ rfl w.heap.size (i * 5) (objC X) rfl rfl ?hg (obj_size X) (obj_one X) ?_; (case hg => exact ht1.out); generalize w9.setCells w.heap.size (i * 5) (objC X).toList = w10 at *)
            | (refine wpList_load_has (by rfl) 28 _ rfl gr rfl 28 (resC ⟨cd, []⟩) _ Try.underlying28 rfl (res_size _) ?hg ?_; (case hg => exact hC1))
            | (refine wpList_build_two (by rfl) 30 0 1 _ _ rfl (.int .u32 (o.seq : Int)) (.agg (resC ⟨cd, []⟩)) rfl rfl (lastC ⟨o.seq, ⟨cd, []⟩⟩) (llast_built o.seq cd) ?_)
            | (refine wpList_store_mid' (by rfl) 30 _ _ rfl w.heap.size (30 + k * 3) (lastC ⟨o.seq, ⟨cd, []⟩⟩) rfl rfl ?hg (last_size _) (last_one _) ?_; (case hg => exact ht2.out); generalize w10.setCells w.heap.size (30 + k * 3) (lastC ⟨o.seq, ⟨cd, []⟩⟩).toList = w11 at *))
          have hQz := (hQ2.drew.row (baseC BZ)).row_other (k := w.heap.size + 1 + 1 + 1) (by omega) (resC (⟨cd, []⟩ : ResV))
          have hRy := hR2.drew.row_other (k := w.heap.size + 1 + 1) (by omega) (baseC BZ)
          have hRz := hRy.row (resC (⟨cd, []⟩ : ResV))
          have hBy := hB2.drew.row_other (k := w.heap.size + 1 + 1) (by omega) (baseC BZ)
          have hSy := hC2.drew.row_other (k := w.heap.size + 1 + 1) (by omega) (baseC BZ)
          have hBz := hBy.row_other (k := w.heap.size + 1 + 1 + 1) (by omega) (resC (⟨cd, []⟩ : ResV))
          have hSz := hSy.row_other (k := w.heap.size + 1 + 1 + 1) (by omega) (resC (⟨cd, []⟩ : ResV))
          have hbz := below_setRow (g := w.heap.size + 1 + 1 + 1) (below_setRow (g := w.heap.size + 1 + 1) hb2.drew (by omega) (baseC BZ)) (by omega) (resC (⟨cd, []⟩ : ResV))
          refine wp_region_plan (fun W => Has W w.heap.size 33 (baseC BZ) ∧ Has W gr 28 (resC (⟨cd, []⟩ : ResV))) (Plan.of [(0, true), (1, true), (2, false), (3, false)] .done) (by kernel_rfl) (by kernel_rfl) (by kernel_rfl) (by kernel_rfl) ⟨hB2.drew, hC2.drew⟩ ?_
          refine plan_take _ _ rfl (yields_load_has (by rfl) 33 _ rfl w.heap.size rfl 33 (baseC BZ) _ Try.underlying33 rfl (base_size _) (fun _ h => h.1)) ?_
          try simp only [Act.put, List.setIfInBounds_toArray, List.set_cons_zero, List.set_cons_succ]
          refine plan_take _ _ rfl (yields_load_has (by rfl) 28 _ rfl gr rfl 28 (resC (⟨cd, []⟩ : ResV)) _ Try.underlying28 rfl (res_size _) (fun _ h => h.2)) ?_
          try simp only [Act.put, List.setIfInBounds_toArray, List.set_cons_zero, List.set_cons_succ]
          refine plan_store_has _ rfl (by rfl) 33 _ _ rfl (w.heap.size + 1 + 1) rfl (baseC BZ) rfl 33 (baseC base0) (base_size _) rfl (base_one _) hQ2.drew ⟨hBy, hSy⟩ ?_
          try simp only [Act.put, List.setIfInBounds_toArray, List.set_cons_zero, List.set_cons_succ]
          refine plan_store_has _ rfl (by rfl) 28 _ _ rfl (w.heap.size + 1 + 1 + 1) rfl (resC (⟨cd, []⟩ : ResV)) rfl 28 (resC res0) (res_size _) rfl (res_one _) hRy ⟨hBz, hSz⟩ ?_
          try simp only [Act.put, List.setIfInBounds_toArray, List.set_cons_zero, List.set_cons_succ]
          refine plan_done ?_
          go_wp2
          exact ret_has_two rfl (w.heap.size + 1 + 1) (w.heap.size + 1 + 1 + 1) rfl rfl 33 28 (baseC BZ) (resC (⟨cd, []⟩ : ResV)) _ _ Try.underlying33 rfl (base_size _) Try.underlying28 rfl (res_size _) hQz hRz rfl ⟨by rw [hc.out], hbz⟩
        · refine plan_alloc_has _ rfl (by rfl) 102 rfl (objC obj0) own_zero (hbB.alloc hbB.size _) ?_
          try simp only [Act.put, List.setIfInBounds_toArray, List.set_cons_zero, List.set_cons_succ]
          have hM := Has.new w4 102 (objC obj0)
          have hbC : Below w3.heap.size w3 (w4.alloc (.cells (objC obj0) 102)) := hbB.alloc hbB.size _
          have hgm : w3.heap.size ≤ w4.heap.size := hbB.size
          generalize w4.alloc (.cells (objC obj0) 102) = w5 at *
          generalize w4.heap.size = gm at *
          refine plan_run _ rfl (fun K hK => ?_)
          go_simp
          refine (hchange _).mono ?_
          rintro e w6 ⟨rfl, hq⟩
          have hbD : Below w3.heap.size w3 w6 := hbC.trans (hq.mono hbC.size)
          refine hK.out _ _ hbD ?_
          clear hK K
          replace hM := hM.later hq
          clear hq
          iterate 3
            first
              | (refine plan_pass _ rfl (by rfl) ?_)
              | (refine plan_take _ _ rfl (.inl ⟨by rfl, fun W hS => by clear hS; go_simp; try with_reducible rfl⟩) ?_)
            try simp only [Act.put, List.setIfInBounds_toArray, List.set_cons_zero, List.set_cons_succ]
          have hbW := below_setRow hbD hgm (objC X)
          refine plan_store_has _ rfl (by rfl) 102 _ _ rfl gm rfl (objC X) rfl 102 (objC obj0) (own_size _) rfl (obj_one _) hM hbW ?_
          try simp only [Act.put, List.setIfInBounds_toArray, List.set_cons_zero, List.set_cons_succ]
          have hMz := hM.row (objC X)
          generalize w6.setRow gm (objC X) = w8 at *
          iterate 1
            first
              | (refine plan_pass _ rfl (by rfl) ?_)
              | (refine plan_take _ _ rfl (.inl ⟨by rfl, fun W hS => by clear hS; go_simp; try with_reducible rfl⟩) ?_)
            try simp only [Act.put, List.setIfInBounds_toArray, List.set_cons_zero, List.set_cons_succ]
          refine plan_done ?_
          clear hM
          replace hB := hB.later hbW
          replace hO := hO.later hbW
          replace hQ := hQ.later hbW
          replace hR := hR.later hbW
          have hbw8 := hbw.trans (hbW.mono hbw.size)
          have hN8 := Has.new w8 28 (resC res0)
          have hbr := below_setRow ((Below.refl w8.heap.size w8).alloc (Nat.le_refl _) (.cells (resC res0) 28)) (Nat.le_refl _) (resC ⟨cd, []⟩)
          have hC := (Has.new w8 28 (resC res0)).row (resC ⟨cd, []⟩)
          obtain ⟨w9, hw9⟩ : ∃ W, (w8.alloc (.cells (resC res0) 28)).setRow w8.heap.size (resC ⟨cd, []⟩) = W := ⟨_, rfl⟩
          rw [hw9] at hbr hC
          replace hB := hB.later hbr
          replace hO := hO.later hbr
          replace hQ := hQ.later hbr
          replace hR := hR.later hbr
          replace hMz := hMz.later hbr
          replace hbw8 := hbw8.trans (hbr.mono hbw8.size)
          have hgr : w.heap.size + 1 + 1 + 1 < w8.heap.size := Nat.lt_of_lt_of_le hlt3 hbW.size
          obtain ⟨gr, hgre⟩ : ∃ g, g = w8.heap.size := ⟨_, rfl⟩
          rw [← hgre] at hC hgr hw9 hN8
          have o3 := (hO.cell 3).trans (show (opC o)[3]? = some (.int .u8 (o.obj : Int)) from rfl)
          have hB1 : Has (w9.setCells w.heap.size (i * 5) (objC X).toList) w.heap.size 33 (baseC (b.setObj ⟨i, hob⟩ X)) := hB.setObj ⟨i, hob⟩ X
          have hO1 := hO.cells_other (k := w.heap.size) (by omega) (objC X).toList (i * 5)
          have hQ1 := hQ.cells_other (k := w.heap.size) (by omega) (objC X).toList (i * 5)
          have hR1 := hR.cells_other (k := w.heap.size) (by omega) (objC X).toList (i * 5)
          have hC1 := hC.cells_other (k := w.heap.size) (by omega) (objC X).toList (i * 5)
          have hb1 := below_setCells hbw8 (Nat.le_refl w.heap.size) (objC X).toList (i * 5)
          have ht1 : Hid (w9.there w.heap.size (i * 5) (objC X).size) := hB.there (i * 5) 5 (show i * 5 + 5 ≤ 39 by omega)
          have p0 := (hO1.cell 0).trans (show (opC o)[0]? = some (.int .u8 (o.client : Int)) from rfl)
          have p1 := (hO1.cell 1).trans (show (opC o)[1]? = some (.int .u32 (o.seq : Int)) from rfl)
          rw [hie.out] at o3
          rw [hke.out] at p0
          replace p0 : _ = some (Value.int .u8 ((k : Int) + 1)) := p0
          have hB2 : Has ((w9.setCells w.heap.size (i * 5) (objC X).toList).setCells w.heap.size (30 + k * 3) (lastC ⟨o.seq, ⟨cd, []⟩⟩).toList) w.heap.size 33 (baseC ((b.setObj ⟨i, hob⟩ X).setLast ⟨k, hk3⟩ ⟨o.seq, ⟨cd, []⟩⟩)) := hB1.setLast ⟨k, hk3⟩ ⟨o.seq, ⟨cd, []⟩⟩
          have hQ2 := hQ1.cells_other (k := w.heap.size) (by omega) (lastC ⟨o.seq, ⟨cd, []⟩⟩).toList (30 + k * 3)
          have hR2 := hR1.cells_other (k := w.heap.size) (by omega) (lastC ⟨o.seq, ⟨cd, []⟩⟩).toList (30 + k * 3)
          have hC2 := hC1.cells_other (k := w.heap.size) (by omega) (lastC ⟨o.seq, ⟨cd, []⟩⟩).toList (30 + k * 3)
          have hb2 := below_setCells hb1 (Nat.le_refl w.heap.size) (lastC ⟨o.seq, ⟨cd, []⟩⟩).toList (30 + k * 3)
          have ht2 : Hid ((w9.setCells w.heap.size (i * 5) (objC X).toList).there w.heap.size (30 + k * 3) (lastC ⟨o.seq, ⟨cd, []⟩⟩).size) := hB1.there (30 + k * 3) 3 (show 30 + k * 3 + 3 ≤ 39 by omega)
          rw [hBZ.out] at hB2
          clear hB hO hQ hR hbw8 hbr
          go_wp2_with (first
            | (refine wpList_build_one (by rfl) 28 0 _ rfl (.int .u8 (cd : Int)) rfl (resC ⟨cd, []⟩) (lres_code cd) ?_)
            | (refine wpList_alloc_has (by rfl) 28 rfl (resC res0) res_zero ?_; rw [← hgre])
            | (refine wpList_store_to (by rfl) 28 _ _ rfl gr rfl (resC ⟨cd, []⟩) rfl 28 (resC res0) (res_size _) rfl (res_one _) ?hg w9 ?hW ?_; (case hg => exact hN8); (case hW => exact hw9); clear hw9 hN8 hgre)
            | (refine wpList_load_has (by rfl) 102 _ rfl gm rfl 102 (objC X) _ Try.underlying102 rfl (own_size X) ?hg ?_; (case hg => exact hMz))
            | (refine wpList_store_mid' (by rfl) 25 _ _ rfl w.heap.size (i * 5) (objC X) rfl rfl ?hg (obj_size X) (obj_one X) ?_; (case hg => exact ht1.out); generalize w9.setCells w.heap.size (i * 5) (objC X).toList = w10 at *)
            | (refine wpList_load_has (by rfl) 28 _ rfl gr rfl 28 (resC ⟨cd, []⟩) _ Try.underlying28 rfl (res_size _) ?hg ?_; (case hg => exact hC1))
            | (refine wpList_build_two (by rfl) 30 0 1 _ _ rfl (.int .u32 (o.seq : Int)) (.agg (resC ⟨cd, []⟩)) rfl rfl (lastC ⟨o.seq, ⟨cd, []⟩⟩) (llast_built o.seq cd) ?_)
            | (refine wpList_store_mid' (by rfl) 30 _ _ rfl w.heap.size (30 + k * 3) (lastC ⟨o.seq, ⟨cd, []⟩⟩) rfl rfl ?hg (last_size _) (last_one _) ?_; (case hg => exact ht2.out); generalize w10.setCells w.heap.size (30 + k * 3) (lastC ⟨o.seq, ⟨cd, []⟩⟩).toList = w11 at *))
          have hQz := (hQ2.drew.row (baseC BZ)).row_other (k := w.heap.size + 1 + 1 + 1) (by omega) (resC (⟨cd, []⟩ : ResV))
          have hRy := hR2.drew.row_other (k := w.heap.size + 1 + 1) (by omega) (baseC BZ)
          have hRz := hRy.row (resC (⟨cd, []⟩ : ResV))
          have hBy := hB2.drew.row_other (k := w.heap.size + 1 + 1) (by omega) (baseC BZ)
          have hSy := hC2.drew.row_other (k := w.heap.size + 1 + 1) (by omega) (baseC BZ)
          have hBz := hBy.row_other (k := w.heap.size + 1 + 1 + 1) (by omega) (resC (⟨cd, []⟩ : ResV))
          have hSz := hSy.row_other (k := w.heap.size + 1 + 1 + 1) (by omega) (resC (⟨cd, []⟩ : ResV))
          have hbz := below_setRow (g := w.heap.size + 1 + 1 + 1) (below_setRow (g := w.heap.size + 1 + 1) hb2.drew (by omega) (baseC BZ)) (by omega) (resC (⟨cd, []⟩ : ResV))
          refine wp_region_plan (fun W => Has W w.heap.size 33 (baseC BZ) ∧ Has W gr 28 (resC (⟨cd, []⟩ : ResV))) (Plan.of [(0, true), (1, true), (2, false), (3, false)] .done) (by kernel_rfl) (by kernel_rfl) (by kernel_rfl) (by kernel_rfl) ⟨hB2.drew, hC2.drew⟩ ?_
          refine plan_take _ _ rfl (yields_load_has (by rfl) 33 _ rfl w.heap.size rfl 33 (baseC BZ) _ Try.underlying33 rfl (base_size _) (fun _ h => h.1)) ?_
          try simp only [Act.put, List.setIfInBounds_toArray, List.set_cons_zero, List.set_cons_succ]
          refine plan_take _ _ rfl (yields_load_has (by rfl) 28 _ rfl gr rfl 28 (resC (⟨cd, []⟩ : ResV)) _ Try.underlying28 rfl (res_size _) (fun _ h => h.2)) ?_
          try simp only [Act.put, List.setIfInBounds_toArray, List.set_cons_zero, List.set_cons_succ]
          refine plan_store_has _ rfl (by rfl) 33 _ _ rfl (w.heap.size + 1 + 1) rfl (baseC BZ) rfl 33 (baseC base0) (base_size _) rfl (base_one _) hQ2.drew ⟨hBy, hSy⟩ ?_
          try simp only [Act.put, List.setIfInBounds_toArray, List.set_cons_zero, List.set_cons_succ]
          refine plan_store_has _ rfl (by rfl) 28 _ _ rfl (w.heap.size + 1 + 1 + 1) rfl (resC (⟨cd, []⟩ : ResV)) rfl 28 (resC res0) (res_size _) rfl (res_one _) hRy ⟨hBz, hSz⟩ ?_
          try simp only [Act.put, List.setIfInBounds_toArray, List.set_cons_zero, List.set_cons_succ]
          refine plan_done ?_
          go_wp2
          exact ret_has_two rfl (w.heap.size + 1 + 1) (w.heap.size + 1 + 1 + 1) rfl rfl 33 28 (baseC BZ) (resC (⟨cd, []⟩ : ResV)) _ _ Try.underlying33 rfl (base_size _) Try.underlying28 rfl (res_size _) hQz hRz rfl ⟨by rw [hc.out], hbz⟩
      · refine plan_alloc_has _ rfl (by rfl) 102 rfl (objC obj0) own_zero (hbA.alloc hbA.size _) ?_
        try simp only [Act.put, List.setIfInBounds_toArray, List.set_cons_zero, List.set_cons_succ]
        have hM := Has.new w3.drew 102 (objC obj0)
        have hbB : Below w3.heap.size w3 (w3.drew.alloc (.cells (objC obj0) 102)) := hbA.alloc hbA.size _
        have hgm : w3.heap.size ≤ w3.drew.heap.size := hbA.size
        generalize w3.drew.alloc (.cells (objC obj0) 102) = w4 at *
        generalize w3.drew.heap.size = gm at *
        refine plan_run _ rfl (fun K hK => ?_)
        go_simp
        refine (hof _).mono ?_
        rintro e w5 ⟨rfl, hq⟩
        have hbC : Below w3.heap.size w3 w5 := hbB.trans (hq.mono hbB.size)
        refine hK.out _ _ hbC ?_
        clear hK K
        replace hM := hM.later hq
        clear hq
        refine plan_run _ rfl (fun K hK => ?_)
        go_simp
        refine (hchange _).mono ?_
        rintro e w6 ⟨rfl, hq⟩
        have hbD : Below w3.heap.size w3 w6 := hbC.trans (hq.mono hbC.size)
        refine hK.out _ _ hbD ?_
        clear hK K
        replace hM := hM.later hq
        clear hq
        iterate 3
          first
            | (refine plan_pass _ rfl (by rfl) ?_)
            | (refine plan_take _ _ rfl (.inl ⟨by rfl, fun W hS => by clear hS; go_simp; try with_reducible rfl⟩) ?_)
          try simp only [Act.put, List.setIfInBounds_toArray, List.set_cons_zero, List.set_cons_succ]
        have hbW := below_setRow hbD hgm (objC X)
        refine plan_store_has _ rfl (by rfl) 102 _ _ rfl gm rfl (objC X) rfl 102 (objC obj0) (own_size _) rfl (obj_one _) hM hbW ?_
        try simp only [Act.put, List.setIfInBounds_toArray, List.set_cons_zero, List.set_cons_succ]
        have hMz := hM.row (objC X)
        generalize w6.setRow gm (objC X) = w8 at *
        iterate 1
          first
            | (refine plan_pass _ rfl (by rfl) ?_)
            | (refine plan_take _ _ rfl (.inl ⟨by rfl, fun W hS => by clear hS; go_simp; try with_reducible rfl⟩) ?_)
          try simp only [Act.put, List.setIfInBounds_toArray, List.set_cons_zero, List.set_cons_succ]
        refine plan_done ?_
        clear hM
        replace hB := hB.later hbW
        replace hO := hO.later hbW
        replace hQ := hQ.later hbW
        replace hR := hR.later hbW
        have hbw8 := hbw.trans (hbW.mono hbw.size)
        have hN8 := Has.new w8 28 (resC res0)
        have hbr := below_setRow ((Below.refl w8.heap.size w8).alloc (Nat.le_refl _) (.cells (resC res0) 28)) (Nat.le_refl _) (resC ⟨cd, []⟩)
        have hC := (Has.new w8 28 (resC res0)).row (resC ⟨cd, []⟩)
        obtain ⟨w9, hw9⟩ : ∃ W, (w8.alloc (.cells (resC res0) 28)).setRow w8.heap.size (resC ⟨cd, []⟩) = W := ⟨_, rfl⟩
        rw [hw9] at hbr hC
        replace hB := hB.later hbr
        replace hO := hO.later hbr
        replace hQ := hQ.later hbr
        replace hR := hR.later hbr
        replace hMz := hMz.later hbr
        replace hbw8 := hbw8.trans (hbr.mono hbw8.size)
        have hgr : w.heap.size + 1 + 1 + 1 < w8.heap.size := Nat.lt_of_lt_of_le hlt3 hbW.size
        obtain ⟨gr, hgre⟩ : ∃ g, g = w8.heap.size := ⟨_, rfl⟩
        rw [← hgre] at hC hgr hw9 hN8
        have o3 := (hO.cell 3).trans (show (opC o)[3]? = some (.int .u8 (o.obj : Int)) from rfl)
        have hB1 : Has (w9.setCells w.heap.size (i * 5) (objC X).toList) w.heap.size 33 (baseC (b.setObj ⟨i, hob⟩ X)) := hB.setObj ⟨i, hob⟩ X
        have hO1 := hO.cells_other (k := w.heap.size) (by omega) (objC X).toList (i * 5)
        have hQ1 := hQ.cells_other (k := w.heap.size) (by omega) (objC X).toList (i * 5)
        have hR1 := hR.cells_other (k := w.heap.size) (by omega) (objC X).toList (i * 5)
        have hC1 := hC.cells_other (k := w.heap.size) (by omega) (objC X).toList (i * 5)
        have hb1 := below_setCells hbw8 (Nat.le_refl w.heap.size) (objC X).toList (i * 5)
        have ht1 : Hid (w9.there w.heap.size (i * 5) (objC X).size) := hB.there (i * 5) 5 (show i * 5 + 5 ≤ 39 by omega)
        have p0 := (hO1.cell 0).trans (show (opC o)[0]? = some (.int .u8 (o.client : Int)) from rfl)
        have p1 := (hO1.cell 1).trans (show (opC o)[1]? = some (.int .u32 (o.seq : Int)) from rfl)
        rw [hie.out] at o3
        rw [hke.out] at p0
        replace p0 : _ = some (Value.int .u8 ((k : Int) + 1)) := p0
        have hB2 : Has ((w9.setCells w.heap.size (i * 5) (objC X).toList).setCells w.heap.size (30 + k * 3) (lastC ⟨o.seq, ⟨cd, []⟩⟩).toList) w.heap.size 33 (baseC ((b.setObj ⟨i, hob⟩ X).setLast ⟨k, hk3⟩ ⟨o.seq, ⟨cd, []⟩⟩)) := hB1.setLast ⟨k, hk3⟩ ⟨o.seq, ⟨cd, []⟩⟩
        have hQ2 := hQ1.cells_other (k := w.heap.size) (by omega) (lastC ⟨o.seq, ⟨cd, []⟩⟩).toList (30 + k * 3)
        have hR2 := hR1.cells_other (k := w.heap.size) (by omega) (lastC ⟨o.seq, ⟨cd, []⟩⟩).toList (30 + k * 3)
        have hC2 := hC1.cells_other (k := w.heap.size) (by omega) (lastC ⟨o.seq, ⟨cd, []⟩⟩).toList (30 + k * 3)
        have hb2 := below_setCells hb1 (Nat.le_refl w.heap.size) (lastC ⟨o.seq, ⟨cd, []⟩⟩).toList (30 + k * 3)
        have ht2 : Hid ((w9.setCells w.heap.size (i * 5) (objC X).toList).there w.heap.size (30 + k * 3) (lastC ⟨o.seq, ⟨cd, []⟩⟩).size) := hB1.there (30 + k * 3) 3 (show 30 + k * 3 + 3 ≤ 39 by omega)
        rw [hBZ.out] at hB2
        clear hB hO hQ hR hbw8 hbr
        go_wp2_with (first
          | (refine wpList_build_one (by rfl) 28 0 _ rfl (.int .u8 (cd : Int)) rfl (resC ⟨cd, []⟩) (lres_code cd) ?_)
          | (refine wpList_alloc_has (by rfl) 28 rfl (resC res0) res_zero ?_; rw [← hgre])
          | (refine wpList_store_to (by rfl) 28 _ _ rfl gr rfl (resC ⟨cd, []⟩) rfl 28 (resC res0) (res_size _) rfl (res_one _) ?hg w9 ?hW ?_; (case hg => exact hN8); (case hW => exact hw9); clear hw9 hN8 hgre)
          | (refine wpList_load_has (by rfl) 102 _ rfl gm rfl 102 (objC X) _ Try.underlying102 rfl (own_size X) ?hg ?_; (case hg => exact hMz))
          | (refine wpList_store_mid' (by rfl) 25 _ _ rfl w.heap.size (i * 5) (objC X) rfl rfl ?hg (obj_size X) (obj_one X) ?_; (case hg => exact ht1.out); generalize w9.setCells w.heap.size (i * 5) (objC X).toList = w10 at *)
          | (refine wpList_load_has (by rfl) 28 _ rfl gr rfl 28 (resC ⟨cd, []⟩) _ Try.underlying28 rfl (res_size _) ?hg ?_; (case hg => exact hC1))
          | (refine wpList_build_two (by rfl) 30 0 1 _ _ rfl (.int .u32 (o.seq : Int)) (.agg (resC ⟨cd, []⟩)) rfl rfl (lastC ⟨o.seq, ⟨cd, []⟩⟩) (llast_built o.seq cd) ?_)
          | (refine wpList_store_mid' (by rfl) 30 _ _ rfl w.heap.size (30 + k * 3) (lastC ⟨o.seq, ⟨cd, []⟩⟩) rfl rfl ?hg (last_size _) (last_one _) ?_; (case hg => exact ht2.out); generalize w10.setCells w.heap.size (30 + k * 3) (lastC ⟨o.seq, ⟨cd, []⟩⟩).toList = w11 at *))
        have hQz := (hQ2.drew.row (baseC BZ)).row_other (k := w.heap.size + 1 + 1 + 1) (by omega) (resC (⟨cd, []⟩ : ResV))
        have hRy := hR2.drew.row_other (k := w.heap.size + 1 + 1) (by omega) (baseC BZ)
        have hRz := hRy.row (resC (⟨cd, []⟩ : ResV))
        have hBy := hB2.drew.row_other (k := w.heap.size + 1 + 1) (by omega) (baseC BZ)
        have hSy := hC2.drew.row_other (k := w.heap.size + 1 + 1) (by omega) (baseC BZ)
        have hBz := hBy.row_other (k := w.heap.size + 1 + 1 + 1) (by omega) (resC (⟨cd, []⟩ : ResV))
        have hSz := hSy.row_other (k := w.heap.size + 1 + 1 + 1) (by omega) (resC (⟨cd, []⟩ : ResV))
        have hbz := below_setRow (g := w.heap.size + 1 + 1 + 1) (below_setRow (g := w.heap.size + 1 + 1) hb2.drew (by omega) (baseC BZ)) (by omega) (resC (⟨cd, []⟩ : ResV))
        refine wp_region_plan (fun W => Has W w.heap.size 33 (baseC BZ) ∧ Has W gr 28 (resC (⟨cd, []⟩ : ResV))) (Plan.of [(0, true), (1, true), (2, false), (3, false)] .done) (by kernel_rfl) (by kernel_rfl) (by kernel_rfl) (by kernel_rfl) ⟨hB2.drew, hC2.drew⟩ ?_
        refine plan_take _ _ rfl (yields_load_has (by rfl) 33 _ rfl w.heap.size rfl 33 (baseC BZ) _ Try.underlying33 rfl (base_size _) (fun _ h => h.1)) ?_
        try simp only [Act.put, List.setIfInBounds_toArray, List.set_cons_zero, List.set_cons_succ]
        refine plan_take _ _ rfl (yields_load_has (by rfl) 28 _ rfl gr rfl 28 (resC (⟨cd, []⟩ : ResV)) _ Try.underlying28 rfl (res_size _) (fun _ h => h.2)) ?_
        try simp only [Act.put, List.setIfInBounds_toArray, List.set_cons_zero, List.set_cons_succ]
        refine plan_store_has _ rfl (by rfl) 33 _ _ rfl (w.heap.size + 1 + 1) rfl (baseC BZ) rfl 33 (baseC base0) (base_size _) rfl (base_one _) hQ2.drew ⟨hBy, hSy⟩ ?_
        try simp only [Act.put, List.setIfInBounds_toArray, List.set_cons_zero, List.set_cons_succ]
        refine plan_store_has _ rfl (by rfl) 28 _ _ rfl (w.heap.size + 1 + 1 + 1) rfl (resC (⟨cd, []⟩ : ResV)) rfl 28 (resC res0) (res_size _) rfl (res_one _) hRy ⟨hBz, hSz⟩ ?_
        try simp only [Act.put, List.setIfInBounds_toArray, List.set_cons_zero, List.set_cons_succ]
        refine plan_done ?_
        go_wp2
        exact ret_has_two rfl (w.heap.size + 1 + 1) (w.heap.size + 1 + 1 + 1) rfl rfl 33 28 (baseC BZ) (resC (⟨cd, []⟩ : ResV)) _ _ Try.underlying33 rfl (base_size _) Try.underlying28 rfl (res_size _) hQz hRz rfl ⟨by rw [hc.out], hbz⟩
end Go.Proofs.Ytphlfepgaghhhaa
