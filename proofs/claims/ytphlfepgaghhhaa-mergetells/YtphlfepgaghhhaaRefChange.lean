/- The contract of the document's change. -/
import Derived.Test.YtphlfepgaghhhaaRefSeen
import Derived.Test.YtphlfepgaghhhaaPlan
namespace Go.Proofs.Ytphlfepgaghhhaa
set_option linter.unusedSimpArgs false
set_option linter.unusedVariables false
set_option maxRecDepth 100000
open Go.RowKit

set_option maxHeartbeats 4000000 in
theorem refchange_any (x : ObjV) (o : OpV) (w : World) (hx : x.data.length ≤ 1000) (ho : OpOk o) (hl : o.data.length ≤ 16) (hk1 : 1 ≤ o.kind) (hk4 : o.kind ≤ 4) :
    Calls Try.prog 71 #[.agg (objC x), .agg (opC o)] w fun e w' => e = .returned (.tuple #[.agg (objC (changeM x o).1), .int .u8 ((changeM x o).2 : Nat)]) ∧ Below w.heap.size w w' := by
  have hX : Has (((w.alloc (.cells (objC x) 25)).alloc (.cells (opC o) 35)).alloc (.cells (objC obj0) 25)) w.heap.size 25 (objC x) := ((Has.new _ _ _).alloc _).alloc _
  have hO : Has (((w.alloc (.cells (objC x) 25)).alloc (.cells (opC o) 35)).alloc (.cells (objC obj0) 25)) (w.heap.size + 1) 35 (opC o) := by
    have := (Has.new (w.alloc (.cells (objC x) 25)) 35 (opC o)).alloc (.cells (objC obj0) 25)
    simpa using this
  have hR : Has (((w.alloc (.cells (objC x) 25)).alloc (.cells (opC o) 35)).alloc (.cells (objC obj0) 25)) (w.heap.size + 1 + 1) 25 (objC obj0) := by
    have := Has.new ((w.alloc (.cells (objC x) 25)).alloc (.cells (opC o) 35)) 25 (objC obj0)
    simpa using this
  have hbw : Below w.heap.size w (((w.alloc (.cells (objC x) 25)).alloc (.cells (opC o) 35)).alloc (.cells (objC obj0) 25)) := (((Below.refl _ _).alloc (Nat.le_refl _) _).alloc (by simp) _).alloc (by simp; omega) _
  have q2 := (hO.cell 2).trans (show (opC o)[2]? = some (.int .u8 (o.kind : Int)) from rfl)
  have q4 := (hO.cell 4).trans (show (opC o)[4]? = some (.int .u8 (o.pos : Int)) from rfl)
  have q5 := (hO.cell 5).trans (show (opC o)[5]? = some (.string (mkS o.data)) from rfl)
  have x0 := (hX.cell 0).trans (show (objC x)[0]? = some (.bool x.there) from rfl)
  have x1 := (hX.cell 1).trans (show (objC x)[1]? = some (.string (mkS x.data)) from rfl)
  have hp := ho.pos
  have hpI : (o.pos : Int) < 256 := by omega
  have hs1 := mkS_size o.data
  have hs2 := mkS_size x.data
  by_cases k1 : o.kind = 1
  · rw [k1] at q2
    have hlI : (o.data.length : Int) ≤ 16 := by omega
    by_cases hlong : 16 < o.pos + o.data.length
    · have hc : Hid (changeM x o = (x, 2)) := by show _ = _; unfold changeM; rw [if_pos k1, if_pos hlong]
      have hlongI : (16 : Int) < (o.pos : Int) + (o.data.length : Int) := by omega
      clear k1 hlong
      generalize o.data.length = n at *
      generalize o.pos = p at *
      go_enter Try.func71, Try.ntmps71
      go_wp2_with (first
        | (refine wpList_alloc_has (by rfl) 25 rfl (objC obj0) obj_zero ?_; generalize ((w.alloc (.cells (objC x) 25)).alloc (.cells (opC o) 35)).alloc (.cells (objC obj0) 25) = w1 at *)
        | (refine wpList_load_has (by rfl) 25 _ rfl w.heap.size rfl 25 (objC x) _ Try.underlying25 rfl (obj_size x) hX ?_)
        | (refine wpList_store_has (by rfl) 25 _ _ rfl (w.heap.size + 1 + 1) rfl (objC x) rfl 25 (objC obj0) (obj_size _) rfl (obj_one _) hR ?_))
      exact ret_has_tmp rfl (w.heap.size + 1 + 1) rfl 25 (objC x) _ Try.underlying25 rfl (obj_size _) (hR.row _) rfl ⟨by rw [hc.out]; rfl, below_setRow hbw (by omega) _⟩
    · have hlongI : (o.pos : Int) + (o.data.length : Int) ≤ 16 := by omega
      have hc0 : changeM x o = (⟨true, writeS x.data o.pos o.data, x.a0, x.a1, x.a2⟩, 0) := by unfold changeM; rw [if_pos k1, if_neg hlong]
      obtain ⟨s, hse⟩ : ∃ s, s = o.data := ⟨_, rfl⟩
      rw [← hse] at q5 hs1 hl hlI hlong hlongI hc0
      replace hse : Hid (s = o.data) := hse
      clear k1
      by_cases hsh : x.data.length < o.pos
      · have hshI : (x.data.length : Int) < (o.pos : Int) := by omega
        have hno := fun W => noughts_any (o.pos - x.data.length) W (by omega)
        rw [show ((o.pos - x.data.length : Nat) : Int) = (o.pos : Int) - (x.data.length : Int) by omega] at hno
        obtain ⟨Z, hZ⟩ : ∃ Z, Z = List.replicate (o.pos - x.data.length) (0 : UInt8) := ⟨_, rfl⟩
        rw [← hZ] at hno
        obtain ⟨D, hD⟩ : ∃ D, D = x.data ++ Z := ⟨_, rfl⟩
        have hDl : D.length = o.pos := by rw [hD, List.length_append, hZ, List.length_replicate]; omega
        obtain ⟨R, hR0⟩ : ∃ R : List UInt8, R = [] := ⟨_, rfl⟩
        obtain ⟨T1, hT⟩ : ∃ T, T = D.take o.pos := ⟨_, rfl⟩
        have e0 := fun (W : World) => addS (P := Try.prog) W x.data Z (by rw [hZ, List.length_replicate]; omega)
        have e1 := fun (W : World) => headS (P := Try.prog) W 9 Try.underlying9 D o.pos (by omega)
        have e2 := fun (W : World) => addS (P := Try.prog) W T1 s (by rw [hT, List.length_take]; omega)
        have e3 := fun (W : World) => addS (P := Try.prog) W (T1 ++ s) R (by rw [List.length_append, hT, List.length_take, hR0]; simp; omega)
        obtain ⟨T2, hT2⟩ : ∃ T, T = T1 ++ s := ⟨_, rfl⟩
        obtain ⟨U, hU⟩ : ∃ U, U = T1 ++ s ++ R := ⟨_, rfl⟩
        rw [← hU] at e3
        rw [← hT2] at e2 e3
        rw [← hD] at e0
        rw [← hT] at e1
        have hsz := mkS_size D
        have hc : Hid (changeM x o = (⟨true, U, x.a0, x.a1, x.a2⟩, 0)) := by
          show _ = _
          rw [hc0]
          rw [hU, writeS_short hsh, hT, hD, hZ, hR0]
        rw [hDl] at hsz
        have hR' : Hid ((.string (ByteArray.mk #[]) : Value) = .string (mkS R)) := by show _ = _; rw [hR0]; rfl
        have h3 : (o.pos : Int) ≤ (o.pos : Int) + (s.length : Int) := by omega
        clear hc0 hZ hD hDl hT hsh hlong hR0 hT2 hU
        generalize s.length = n at *
        go_enter Try.func71, Try.ntmps71
        go_wp2_with (first
          | (refine wpList_alloc_has (by rfl) 25 rfl (objC obj0) obj_zero ?_; generalize ((w.alloc (.cells (objC x) 25)).alloc (.cells (opC o) 35)).alloc (.cells (objC obj0) 25) = w1 at *)
          | (refine wpList_load_has (by rfl) 25 _ rfl w.heap.size rfl 25 (objC x) _ Try.underlying25 rfl (obj_size x) hX ?_)
          | (refine wpList_store_has (by rfl) 25 _ _ rfl (w.heap.size + 1 + 1) rfl (objC x) rfl 25 (objC obj0) (obj_size _) rfl (obj_one _) hR ?_))
        refine (hno _).mono ?_
        rintro e w1' ⟨rfl, rfl⟩
        have hzv : strV Z = .string (mkS Z) := rfl
        rw [hzv]
        clear hno
        go_wp2
        rw [hR'.out]
        have hbd := hbw.drew
        refine wp_region_plan (fun W => W.cell? ⟨w.heap.size + 1, 5, none⟩ = some (.string (mkS s))) (Plan.of [(0, true), (1, true), (2, true), (3, true), (4, true), (5, true), (6, true), (7, true), (8, true), (9, false), (10, true), (11, false)] .done) (by kernel_rfl) (by kernel_rfl) (by kernel_rfl) (by kernel_rfl) q5 ?_
        iterate 2
          first
            | (refine plan_pass _ rfl (by rfl) ?_)
            | (refine plan_take _ _ rfl (.inl ⟨by rfl, fun W hS => by clear hS; go_simp; try with_reducible rfl⟩) ?_)
          try simp only [Act.put, List.setIfInBounds_toArray, List.set_cons_zero, List.set_cons_succ]
        refine plan_take _ (.string (mkS T1)) rfl (.inl ⟨by rfl, fun W hS => by clear hS; go_simp; try with_reducible rfl⟩) ?_
        try simp only [Act.put, List.setIfInBounds_toArray, List.set_cons_zero, List.set_cons_succ]
        iterate 1
          first
            | (refine plan_pass _ rfl (by rfl) ?_)
            | (refine plan_take _ _ rfl (.inl ⟨by rfl, fun W hS => by clear hS; go_simp; try with_reducible rfl⟩) ?_)
          try simp only [Act.put, List.setIfInBounds_toArray, List.set_cons_zero, List.set_cons_succ]
        iterate 1
          first
            | (refine plan_pass _ rfl (by rfl) ?_)
            | (refine plan_take _ _ rfl (.inl ⟨by rfl, fun W hS => by have z1 := hS; go_simp; try with_reducible rfl⟩) ?_)
          try simp only [Act.put, List.setIfInBounds_toArray, List.set_cons_zero, List.set_cons_succ]
        refine plan_take _ (.string (mkS T2)) rfl (.inl ⟨by rfl, fun W hS => by clear hS; go_simp; try with_reducible rfl⟩) ?_
        try simp only [Act.put, List.setIfInBounds_toArray, List.set_cons_zero, List.set_cons_succ]
        iterate 1
          first
            | (refine plan_pass _ rfl (by rfl) ?_)
            | (refine plan_take _ _ rfl (.inl ⟨by rfl, fun W hS => by clear hS; go_simp; try with_reducible rfl⟩) ?_)
          try simp only [Act.put, List.setIfInBounds_toArray, List.set_cons_zero, List.set_cons_succ]
        refine plan_take _ (.string (mkS U)) rfl (.inl ⟨by rfl, fun W hS => by clear hS; go_simp; try with_reducible rfl⟩) ?_
        try simp only [Act.put, List.setIfInBounds_toArray, List.set_cons_zero, List.set_cons_succ]
        iterate 1
          first
            | (refine plan_pass _ rfl (by rfl) ?_)
            | (refine plan_take _ _ rfl (.inl ⟨by rfl, fun W hS => by clear hS; go_simp; try with_reducible rfl⟩) ?_)
          try simp only [Act.put, List.setIfInBounds_toArray, List.set_cons_zero, List.set_cons_succ]
        have f0 := hX.drew.free 0
        have x0d : w1'.drew.cell? ⟨w.heap.size, 0, none⟩ = some (.bool x.there) := x0
        refine plan_run _ rfl (fun K hK => ?_)
        go_simp
        have hX1 := hX.drew.set 0 (.bool true)
        have q5' : (w1'.drew.setCell ⟨w.heap.size, 0, none⟩ (.bool true)).cell? ⟨w.heap.size + 1, 5, none⟩ = some (.string (mkS s)) := ((hO.drew.set_other (a := ⟨w.heap.size, 0, none⟩) (show w.heap.size + 1 ≠ w.heap.size by omega) (.bool true)).cell 5).trans (by rw [hse.out]; rfl)
        have hR1 := hR.drew.set_other (a := ⟨w.heap.size, 0, none⟩) (show w.heap.size + 1 + 1 ≠ w.heap.size by omega) (.bool true)
        have hb1 := hbd.setCell (show w.heap.size ≤ (⟨w.heap.size, 0, none⟩ : Addr).block from Nat.le_refl _) (.bool true)
        have hO1 := hO.drew.set_other (a := ⟨w.heap.size, 0, none⟩) (show w.heap.size + 1 ≠ w.heap.size by omega) (.bool true)
        refine hK.out _ (w1'.drew.setCell ⟨w.heap.size, 0, none⟩ (.bool true)) q5' ?_
        clear hK K
        generalize w1'.drew.setCell ⟨w.heap.size, 0, none⟩ (.bool true) = w4 at *
        iterate 1
          first
            | (refine plan_pass _ rfl (by rfl) ?_)
            | (refine plan_take _ _ rfl (.inl ⟨by rfl, fun W hS => by clear hS; go_simp; try with_reducible rfl⟩) ?_)
          try simp only [Act.put, List.setIfInBounds_toArray, List.set_cons_zero, List.set_cons_succ]
        have f1 := hX1.free 1
        have x1d : w4.cell? ⟨w.heap.size, 1, none⟩ = some (.string (mkS x.data)) := (hX1.cell 1).trans rfl
        refine plan_run _ rfl (fun K hK => ?_)
        go_simp
        have hXz : Has (w4.setCell ⟨w.heap.size, 1, none⟩ (.string (mkS U))) w.heap.size 25 (objC ⟨true, U, x.a0, x.a1, x.a2⟩) := hX1.set 1 _
        have q5z : (w4.setCell ⟨w.heap.size, 1, none⟩ (.string (mkS U))).cell? ⟨w.heap.size + 1, 5, none⟩ = some (.string (mkS s)) := ((hO1.set_other (a := ⟨w.heap.size, 1, none⟩) (show w.heap.size + 1 ≠ w.heap.size by omega) (.string (mkS U))).cell 5).trans (by rw [hse.out]; rfl)
        have hRz := hR1.set_other (a := ⟨w.heap.size, 1, none⟩) (show w.heap.size + 1 + 1 ≠ w.heap.size by omega) (.string (mkS U))
        have hbz := hb1.setCell (show w.heap.size ≤ (⟨w.heap.size, 1, none⟩ : Addr).block from Nat.le_refl _) (.string (mkS U))
        refine hK.out _ (w4.setCell ⟨w.heap.size, 1, none⟩ (.string (mkS U))) q5z ?_
        clear hK K
        generalize w4.setCell ⟨w.heap.size, 1, none⟩ (.string (mkS U)) = w6 at *
        refine plan_done ?_
        go_wp2_with (first
          | (refine wpList_load_has (by rfl) 25 _ rfl w.heap.size rfl 25 (objC (⟨true, U, x.a0, x.a1, x.a2⟩ : ObjV)) _ Try.underlying25 rfl (obj_size (⟨true, U, x.a0, x.a1, x.a2⟩ : ObjV)) hXz ?_)
          | (refine wpList_store_has (by rfl) 25 _ _ rfl (w.heap.size + 1 + 1) rfl (objC (⟨true, U, x.a0, x.a1, x.a2⟩ : ObjV)) rfl 25 (objC obj0) (obj_size _) rfl (obj_one _) hRz ?_))
        exact ret_has_tmp rfl (w.heap.size + 1 + 1) rfl 25 (objC (⟨true, U, x.a0, x.a1, x.a2⟩ : ObjV)) _ Try.underlying25 rfl (obj_size _) (hRz.row _) rfl ⟨by rw [hc.out]; rfl, below_setRow hbz (by omega) _⟩
      · have hshI : (o.pos : Int) ≤ (x.data.length : Int) := by omega
        obtain ⟨T1, hT⟩ : ∃ T, T = x.data.take o.pos := ⟨_, rfl⟩
        have hTl : T1.length = o.pos := by rw [hT, List.length_take]; omega
        have e1 := fun (W : World) => headS (P := Try.prog) W 9 Try.underlying9 x.data o.pos (by omega)
        have e2 := fun (W : World) => addS (P := Try.prog) W T1 s (by omega)
        rw [← hT] at e1
        by_cases hre : o.pos + s.length < x.data.length
        · have hreI : (o.pos : Int) + (s.length : Int) < (x.data.length : Int) := by omega
          obtain ⟨R, hR0⟩ : ∃ R, R = x.data.drop (o.pos + s.length) := ⟨_, rfl⟩
          have e4 := fun (W : World) => tailS (P := Try.prog) W 9 Try.underlying9 x.data ((o.pos : Int) + (s.length : Int)) (o.pos + s.length) (by omega) (by omega)
          rw [← hR0] at e4
          have e3 := fun (W : World) => addS (P := Try.prog) W (T1 ++ s) R (by rw [List.length_append, hTl, hR0, List.length_drop]; omega)
          obtain ⟨T2, hT2⟩ : ∃ T, T = T1 ++ s := ⟨_, rfl⟩
          obtain ⟨U, hU⟩ : ∃ U, U = T1 ++ s ++ R := ⟨_, rfl⟩
          rw [← hU] at e3
          rw [← hT2] at e2 e3
          have hc : Hid (changeM x o = (⟨true, U, x.a0, x.a1, x.a2⟩, 0)) := by
            show _ = _
            rw [hU, hc0, writeS_long (by omega), hT, hR0]
          clear hc0 hT hTl hsh hlong hR0 hre hT2 hU
          generalize s.length = n at *
          go_enter Try.func71, Try.ntmps71
          go_wp2_with (first
            | (refine wpList_alloc_has (by rfl) 25 rfl (objC obj0) obj_zero ?_; generalize ((w.alloc (.cells (objC x) 25)).alloc (.cells (opC o) 35)).alloc (.cells (objC obj0) 25) = w1 at *)
            | (refine wpList_load_has (by rfl) 25 _ rfl w.heap.size rfl 25 (objC x) _ Try.underlying25 rfl (obj_size x) hX ?_)
            | (refine wpList_store_has (by rfl) 25 _ _ rfl (w.heap.size + 1 + 1) rfl (objC x) rfl 25 (objC obj0) (obj_size _) rfl (obj_one _) hR ?_))
          have hbd := hbw.drew
          refine wp_region_plan (fun W => W.cell? ⟨w.heap.size + 1, 5, none⟩ = some (.string (mkS s))) (Plan.of [(0, true), (1, true), (2, true), (3, true), (4, true), (5, true), (6, true), (7, true), (8, true), (9, false), (10, true), (11, false)] .done) (by kernel_rfl) (by kernel_rfl) (by kernel_rfl) (by kernel_rfl) q5 ?_
          iterate 2
            first
              | (refine plan_pass _ rfl (by rfl) ?_)
              | (refine plan_take _ _ rfl (.inl ⟨by rfl, fun W hS => by clear hS; go_simp; try with_reducible rfl⟩) ?_)
            try simp only [Act.put, List.setIfInBounds_toArray, List.set_cons_zero, List.set_cons_succ]
          refine plan_take _ (.string (mkS T1)) rfl (.inl ⟨by rfl, fun W hS => by clear hS; go_simp; try with_reducible rfl⟩) ?_
          try simp only [Act.put, List.setIfInBounds_toArray, List.set_cons_zero, List.set_cons_succ]
          iterate 1
            first
              | (refine plan_pass _ rfl (by rfl) ?_)
              | (refine plan_take _ _ rfl (.inl ⟨by rfl, fun W hS => by clear hS; go_simp; try with_reducible rfl⟩) ?_)
            try simp only [Act.put, List.setIfInBounds_toArray, List.set_cons_zero, List.set_cons_succ]
          iterate 1
            first
              | (refine plan_pass _ rfl (by rfl) ?_)
              | (refine plan_take _ _ rfl (.inl ⟨by rfl, fun W hS => by have z1 := hS; go_simp; try with_reducible rfl⟩) ?_)
            try simp only [Act.put, List.setIfInBounds_toArray, List.set_cons_zero, List.set_cons_succ]
          refine plan_take _ (.string (mkS T2)) rfl (.inl ⟨by rfl, fun W hS => by clear hS; go_simp; try with_reducible rfl⟩) ?_
          try simp only [Act.put, List.setIfInBounds_toArray, List.set_cons_zero, List.set_cons_succ]
          iterate 1
            first
              | (refine plan_pass _ rfl (by rfl) ?_)
              | (refine plan_take _ _ rfl (.inl ⟨by rfl, fun W hS => by clear hS; go_simp; try with_reducible rfl⟩) ?_)
            try simp only [Act.put, List.setIfInBounds_toArray, List.set_cons_zero, List.set_cons_succ]
          refine plan_take _ (.string (mkS U)) rfl (.inl ⟨by rfl, fun W hS => by clear hS; go_simp; try with_reducible rfl⟩) ?_
          try simp only [Act.put, List.setIfInBounds_toArray, List.set_cons_zero, List.set_cons_succ]
          iterate 1
            first
              | (refine plan_pass _ rfl (by rfl) ?_)
              | (refine plan_take _ _ rfl (.inl ⟨by rfl, fun W hS => by clear hS; go_simp; try with_reducible rfl⟩) ?_)
            try simp only [Act.put, List.setIfInBounds_toArray, List.set_cons_zero, List.set_cons_succ]
          have f0 := hX.drew.free 0
          have x0d : w1.drew.cell? ⟨w.heap.size, 0, none⟩ = some (.bool x.there) := x0
          refine plan_run _ rfl (fun K hK => ?_)
          go_simp
          have hX1 := hX.drew.set 0 (.bool true)
          have q5' : (w1.drew.setCell ⟨w.heap.size, 0, none⟩ (.bool true)).cell? ⟨w.heap.size + 1, 5, none⟩ = some (.string (mkS s)) := ((hO.drew.set_other (a := ⟨w.heap.size, 0, none⟩) (show w.heap.size + 1 ≠ w.heap.size by omega) (.bool true)).cell 5).trans (by rw [hse.out]; rfl)
          have hR1 := hR.drew.set_other (a := ⟨w.heap.size, 0, none⟩) (show w.heap.size + 1 + 1 ≠ w.heap.size by omega) (.bool true)
          have hb1 := hbd.setCell (show w.heap.size ≤ (⟨w.heap.size, 0, none⟩ : Addr).block from Nat.le_refl _) (.bool true)
          have hO1 := hO.drew.set_other (a := ⟨w.heap.size, 0, none⟩) (show w.heap.size + 1 ≠ w.heap.size by omega) (.bool true)
          refine hK.out _ (w1.drew.setCell ⟨w.heap.size, 0, none⟩ (.bool true)) q5' ?_
          clear hK K
          generalize w1.drew.setCell ⟨w.heap.size, 0, none⟩ (.bool true) = w4 at *
          iterate 1
            first
              | (refine plan_pass _ rfl (by rfl) ?_)
              | (refine plan_take _ _ rfl (.inl ⟨by rfl, fun W hS => by clear hS; go_simp; try with_reducible rfl⟩) ?_)
            try simp only [Act.put, List.setIfInBounds_toArray, List.set_cons_zero, List.set_cons_succ]
          have f1 := hX1.free 1
          have x1d : w4.cell? ⟨w.heap.size, 1, none⟩ = some (.string (mkS x.data)) := (hX1.cell 1).trans rfl
          refine plan_run _ rfl (fun K hK => ?_)
          go_simp
          have hXz : Has (w4.setCell ⟨w.heap.size, 1, none⟩ (.string (mkS U))) w.heap.size 25 (objC ⟨true, U, x.a0, x.a1, x.a2⟩) := hX1.set 1 _
          have q5z : (w4.setCell ⟨w.heap.size, 1, none⟩ (.string (mkS U))).cell? ⟨w.heap.size + 1, 5, none⟩ = some (.string (mkS s)) := ((hO1.set_other (a := ⟨w.heap.size, 1, none⟩) (show w.heap.size + 1 ≠ w.heap.size by omega) (.string (mkS U))).cell 5).trans (by rw [hse.out]; rfl)
          have hRz := hR1.set_other (a := ⟨w.heap.size, 1, none⟩) (show w.heap.size + 1 + 1 ≠ w.heap.size by omega) (.string (mkS U))
          have hbz := hb1.setCell (show w.heap.size ≤ (⟨w.heap.size, 1, none⟩ : Addr).block from Nat.le_refl _) (.string (mkS U))
          refine hK.out _ (w4.setCell ⟨w.heap.size, 1, none⟩ (.string (mkS U))) q5z ?_
          clear hK K
          generalize w4.setCell ⟨w.heap.size, 1, none⟩ (.string (mkS U)) = w6 at *
          refine plan_done ?_
          go_wp2_with (first
            | (refine wpList_load_has (by rfl) 25 _ rfl w.heap.size rfl 25 (objC (⟨true, U, x.a0, x.a1, x.a2⟩ : ObjV)) _ Try.underlying25 rfl (obj_size (⟨true, U, x.a0, x.a1, x.a2⟩ : ObjV)) hXz ?_)
            | (refine wpList_store_has (by rfl) 25 _ _ rfl (w.heap.size + 1 + 1) rfl (objC (⟨true, U, x.a0, x.a1, x.a2⟩ : ObjV)) rfl 25 (objC obj0) (obj_size _) rfl (obj_one _) hRz ?_))
          exact ret_has_tmp rfl (w.heap.size + 1 + 1) rfl 25 (objC (⟨true, U, x.a0, x.a1, x.a2⟩ : ObjV)) _ Try.underlying25 rfl (obj_size _) (hRz.row _) rfl ⟨by rw [hc.out]; rfl, below_setRow hbz (by omega) _⟩
        · have hreI : (x.data.length : Int) ≤ (o.pos : Int) + (s.length : Int) := by omega
          obtain ⟨R, hR0⟩ : ∃ R : List UInt8, R = [] := ⟨_, rfl⟩
          have e3 := fun (W : World) => addS (P := Try.prog) W (T1 ++ s) R (by rw [List.length_append, hTl, hR0]; simp; omega)
          obtain ⟨T2, hT2⟩ : ∃ T, T = T1 ++ s := ⟨_, rfl⟩
          obtain ⟨U, hU⟩ : ∃ U, U = T1 ++ s ++ R := ⟨_, rfl⟩
          rw [← hU] at e3
          rw [← hT2] at e2 e3
          have hc : Hid (changeM x o = (⟨true, U, x.a0, x.a1, x.a2⟩, 0)) := by
            show _ = _
            rw [hU, hc0, writeS_long (by omega), hT, hR0, List.drop_of_length_le (by omega)]
          have hR' : Hid ((.string (ByteArray.mk #[]) : Value) = .string (mkS R)) := by show _ = _; rw [hR0]; rfl
          clear hc0 hT hTl hsh hlong hR0 hre hT2 hU
          generalize s.length = n at *
          go_enter Try.func71, Try.ntmps71
          go_wp2_with (first
            | (refine wpList_alloc_has (by rfl) 25 rfl (objC obj0) obj_zero ?_; generalize ((w.alloc (.cells (objC x) 25)).alloc (.cells (opC o) 35)).alloc (.cells (objC obj0) 25) = w1 at *)
            | (refine wpList_load_has (by rfl) 25 _ rfl w.heap.size rfl 25 (objC x) _ Try.underlying25 rfl (obj_size x) hX ?_)
            | (refine wpList_store_has (by rfl) 25 _ _ rfl (w.heap.size + 1 + 1) rfl (objC x) rfl 25 (objC obj0) (obj_size _) rfl (obj_one _) hR ?_))
          rw [hR'.out]
          have hbd := hbw.drew
          refine wp_region_plan (fun W => W.cell? ⟨w.heap.size + 1, 5, none⟩ = some (.string (mkS s))) (Plan.of [(0, true), (1, true), (2, true), (3, true), (4, true), (5, true), (6, true), (7, true), (8, true), (9, false), (10, true), (11, false)] .done) (by kernel_rfl) (by kernel_rfl) (by kernel_rfl) (by kernel_rfl) q5 ?_
          iterate 2
            first
              | (refine plan_pass _ rfl (by rfl) ?_)
              | (refine plan_take _ _ rfl (.inl ⟨by rfl, fun W hS => by clear hS; go_simp; try with_reducible rfl⟩) ?_)
            try simp only [Act.put, List.setIfInBounds_toArray, List.set_cons_zero, List.set_cons_succ]
          refine plan_take _ (.string (mkS T1)) rfl (.inl ⟨by rfl, fun W hS => by clear hS; go_simp; try with_reducible rfl⟩) ?_
          try simp only [Act.put, List.setIfInBounds_toArray, List.set_cons_zero, List.set_cons_succ]
          iterate 1
            first
              | (refine plan_pass _ rfl (by rfl) ?_)
              | (refine plan_take _ _ rfl (.inl ⟨by rfl, fun W hS => by clear hS; go_simp; try with_reducible rfl⟩) ?_)
            try simp only [Act.put, List.setIfInBounds_toArray, List.set_cons_zero, List.set_cons_succ]
          iterate 1
            first
              | (refine plan_pass _ rfl (by rfl) ?_)
              | (refine plan_take _ _ rfl (.inl ⟨by rfl, fun W hS => by have z1 := hS; go_simp; try with_reducible rfl⟩) ?_)
            try simp only [Act.put, List.setIfInBounds_toArray, List.set_cons_zero, List.set_cons_succ]
          refine plan_take _ (.string (mkS T2)) rfl (.inl ⟨by rfl, fun W hS => by clear hS; go_simp; try with_reducible rfl⟩) ?_
          try simp only [Act.put, List.setIfInBounds_toArray, List.set_cons_zero, List.set_cons_succ]
          iterate 1
            first
              | (refine plan_pass _ rfl (by rfl) ?_)
              | (refine plan_take _ _ rfl (.inl ⟨by rfl, fun W hS => by clear hS; go_simp; try with_reducible rfl⟩) ?_)
            try simp only [Act.put, List.setIfInBounds_toArray, List.set_cons_zero, List.set_cons_succ]
          refine plan_take _ (.string (mkS U)) rfl (.inl ⟨by rfl, fun W hS => by clear hS; go_simp; try with_reducible rfl⟩) ?_
          try simp only [Act.put, List.setIfInBounds_toArray, List.set_cons_zero, List.set_cons_succ]
          iterate 1
            first
              | (refine plan_pass _ rfl (by rfl) ?_)
              | (refine plan_take _ _ rfl (.inl ⟨by rfl, fun W hS => by clear hS; go_simp; try with_reducible rfl⟩) ?_)
            try simp only [Act.put, List.setIfInBounds_toArray, List.set_cons_zero, List.set_cons_succ]
          have f0 := hX.drew.free 0
          have x0d : w1.drew.cell? ⟨w.heap.size, 0, none⟩ = some (.bool x.there) := x0
          refine plan_run _ rfl (fun K hK => ?_)
          go_simp
          have hX1 := hX.drew.set 0 (.bool true)
          have q5' : (w1.drew.setCell ⟨w.heap.size, 0, none⟩ (.bool true)).cell? ⟨w.heap.size + 1, 5, none⟩ = some (.string (mkS s)) := ((hO.drew.set_other (a := ⟨w.heap.size, 0, none⟩) (show w.heap.size + 1 ≠ w.heap.size by omega) (.bool true)).cell 5).trans (by rw [hse.out]; rfl)
          have hR1 := hR.drew.set_other (a := ⟨w.heap.size, 0, none⟩) (show w.heap.size + 1 + 1 ≠ w.heap.size by omega) (.bool true)
          have hb1 := hbd.setCell (show w.heap.size ≤ (⟨w.heap.size, 0, none⟩ : Addr).block from Nat.le_refl _) (.bool true)
          have hO1 := hO.drew.set_other (a := ⟨w.heap.size, 0, none⟩) (show w.heap.size + 1 ≠ w.heap.size by omega) (.bool true)
          refine hK.out _ (w1.drew.setCell ⟨w.heap.size, 0, none⟩ (.bool true)) q5' ?_
          clear hK K
          generalize w1.drew.setCell ⟨w.heap.size, 0, none⟩ (.bool true) = w4 at *
          iterate 1
            first
              | (refine plan_pass _ rfl (by rfl) ?_)
              | (refine plan_take _ _ rfl (.inl ⟨by rfl, fun W hS => by clear hS; go_simp; try with_reducible rfl⟩) ?_)
            try simp only [Act.put, List.setIfInBounds_toArray, List.set_cons_zero, List.set_cons_succ]
          have f1 := hX1.free 1
          have x1d : w4.cell? ⟨w.heap.size, 1, none⟩ = some (.string (mkS x.data)) := (hX1.cell 1).trans rfl
          refine plan_run _ rfl (fun K hK => ?_)
          go_simp
          have hXz : Has (w4.setCell ⟨w.heap.size, 1, none⟩ (.string (mkS U))) w.heap.size 25 (objC ⟨true, U, x.a0, x.a1, x.a2⟩) := hX1.set 1 _
          have q5z : (w4.setCell ⟨w.heap.size, 1, none⟩ (.string (mkS U))).cell? ⟨w.heap.size + 1, 5, none⟩ = some (.string (mkS s)) := ((hO1.set_other (a := ⟨w.heap.size, 1, none⟩) (show w.heap.size + 1 ≠ w.heap.size by omega) (.string (mkS U))).cell 5).trans (by rw [hse.out]; rfl)
          have hRz := hR1.set_other (a := ⟨w.heap.size, 1, none⟩) (show w.heap.size + 1 + 1 ≠ w.heap.size by omega) (.string (mkS U))
          have hbz := hb1.setCell (show w.heap.size ≤ (⟨w.heap.size, 1, none⟩ : Addr).block from Nat.le_refl _) (.string (mkS U))
          refine hK.out _ (w4.setCell ⟨w.heap.size, 1, none⟩ (.string (mkS U))) q5z ?_
          clear hK K
          generalize w4.setCell ⟨w.heap.size, 1, none⟩ (.string (mkS U)) = w6 at *
          refine plan_done ?_
          go_wp2_with (first
            | (refine wpList_load_has (by rfl) 25 _ rfl w.heap.size rfl 25 (objC (⟨true, U, x.a0, x.a1, x.a2⟩ : ObjV)) _ Try.underlying25 rfl (obj_size (⟨true, U, x.a0, x.a1, x.a2⟩ : ObjV)) hXz ?_)
            | (refine wpList_store_has (by rfl) 25 _ _ rfl (w.heap.size + 1 + 1) rfl (objC (⟨true, U, x.a0, x.a1, x.a2⟩ : ObjV)) rfl 25 (objC obj0) (obj_size _) rfl (obj_one _) hRz ?_))
          exact ret_has_tmp rfl (w.heap.size + 1 + 1) rfl 25 (objC (⟨true, U, x.a0, x.a1, x.a2⟩ : ObjV)) _ Try.underlying25 rfl (obj_size _) (hRz.row _) rfl ⟨by rw [hc.out]; rfl, below_setRow hbz (by omega) _⟩
  · by_cases k2 : o.kind = 2
    · rw [k2] at q2
      cases hth : x.there with
      | false =>
        rw [hth] at x0
        have hc : Hid (changeM x o = (x, 1)) := by show _ = _; unfold changeM; rw [if_neg k1, if_pos k2, if_pos hth]
        clear k1 k2
        go_enter Try.func71, Try.ntmps71
        go_wp2_with (first
          | (refine wpList_alloc_has (by rfl) 25 rfl (objC obj0) obj_zero ?_; generalize ((w.alloc (.cells (objC x) 25)).alloc (.cells (opC o) 35)).alloc (.cells (objC obj0) 25) = w1 at *)
          | (refine wpList_load_has (by rfl) 25 _ rfl w.heap.size rfl 25 (objC x) _ Try.underlying25 rfl (obj_size x) hX ?_)
          | (refine wpList_store_has (by rfl) 25 _ _ rfl (w.heap.size + 1 + 1) rfl (objC x) rfl 25 (objC obj0) (obj_size _) rfl (obj_one _) hR ?_))
        exact ret_has_tmp rfl (w.heap.size + 1 + 1) rfl 25 (objC x) _ Try.underlying25 rfl (obj_size _) (hR.row _) rfl ⟨by rw [hc.out]; rfl, below_setRow hbw (by omega) _⟩
      | true =>
        rw [hth] at x0
        by_cases hlong : 16 < o.pos
        · have hc : Hid (changeM x o = (x, 2)) := by show _ = _; unfold changeM; rw [if_neg k1, if_pos k2, if_neg (by rw [hth]; simp), if_pos hlong]
          have hlongI : (16 : Int) < (o.pos : Int) := by omega
          clear k1 k2 hlong
          go_enter Try.func71, Try.ntmps71
          go_wp2_with (first
            | (refine wpList_alloc_has (by rfl) 25 rfl (objC obj0) obj_zero ?_; generalize ((w.alloc (.cells (objC x) 25)).alloc (.cells (opC o) 35)).alloc (.cells (objC obj0) 25) = w1 at *)
            | (refine wpList_load_has (by rfl) 25 _ rfl w.heap.size rfl 25 (objC x) _ Try.underlying25 rfl (obj_size x) hX ?_)
            | (refine wpList_store_has (by rfl) 25 _ _ rfl (w.heap.size + 1 + 1) rfl (objC x) rfl 25 (objC obj0) (obj_size _) rfl (obj_one _) hR ?_))
          exact ret_has_tmp rfl (w.heap.size + 1 + 1) rfl 25 (objC x) _ Try.underlying25 rfl (obj_size _) (hR.row _) rfl ⟨by rw [hc.out]; rfl, below_setRow hbw (by omega) _⟩
        · have hlongI : (o.pos : Int) ≤ 16 := by omega
          have hc0 : changeM x o = (⟨x.there, fitS o.pos x.data, x.a0, x.a1, x.a2⟩, 0) := by unfold changeM; rw [if_neg k1, if_pos k2, if_neg (by rw [hth]; simp), if_neg hlong]
          by_cases hsh : x.data.length < o.pos
          · have hshI : (x.data.length : Int) < (o.pos : Int) := by omega
            have hno := fun W => noughts_any (o.pos - x.data.length) W (by omega)
            rw [show ((o.pos - x.data.length : Nat) : Int) = (o.pos : Int) - (x.data.length : Int) by omega] at hno
            obtain ⟨Z, hZ⟩ : ∃ Z, Z = List.replicate (o.pos - x.data.length) (0 : UInt8) := ⟨_, rfl⟩
            rw [← hZ] at hno
            obtain ⟨D, hD⟩ : ∃ D, D = x.data ++ Z := ⟨_, rfl⟩
            have hDl : D.length = o.pos := by rw [hD, List.length_append, hZ, List.length_replicate]; omega
            obtain ⟨T1, hT⟩ : ∃ T, T = D.take o.pos := ⟨_, rfl⟩
            have e0 := fun (W : World) => addS (P := Try.prog) W x.data Z (by rw [hZ, List.length_replicate]; omega)
            have e1 := fun (W : World) => headS (P := Try.prog) W 9 Try.underlying9 D o.pos (by omega)
            rw [← hD] at e0
            rw [← hT] at e1
            have hc : Hid (changeM x o = (⟨x.there, T1, x.a0, x.a1, x.a2⟩, 0)) := by
              show _ = _
              rw [hc0, fitS_short hsh, hT, hD, hZ]
            clear hc0 hZ hD hDl hT hsh hlong k1 k2 hth
            have hwr : IntKind.i64.wrap ((o.pos : Int) - (x.data.length : Int)) = (o.pos : Int) - (x.data.length : Int) := by
              simp [IntKind.wrap, IntKind.bits, IntKind.signed]
              omega
            go_enter Try.func71, Try.ntmps71
            go_wp2_with (first
              | (refine wpList_alloc_has (by rfl) 25 rfl (objC obj0) obj_zero ?_; generalize ((w.alloc (.cells (objC x) 25)).alloc (.cells (opC o) 35)).alloc (.cells (objC obj0) 25) = w1 at *)
              | (refine wpList_load_has (by rfl) 25 _ rfl w.heap.size rfl 25 (objC x) _ Try.underlying25 rfl (obj_size x) hX ?_)
              | (refine wpList_store_has (by rfl) 25 _ _ rfl (w.heap.size + 1 + 1) rfl (objC x) rfl 25 (objC obj0) (obj_size _) rfl (obj_one _) hR ?_))
            refine wp_region_plan (fun _ => True) (Plan.of [(0, true), (2, true), (3, true)] (.either 1 (Plan.of [(4, false), (5, false), (6, true), (7, false), (8, true), (9, true), (10, false)] .done) 4 (.either 1 (Plan.of [(5, false), (6, true), (7, false), (8, true), (9, true), (10, false)] .done) 5 (.take 6 (.either 1 (Plan.of [(7, false), (8, true), (9, true), (10, false)] .done) 7 (Plan.of [(1, false), (8, true), (9, true), (10, false)] .done)))))) (by kernel_rfl) (by kernel_rfl) (by kernel_rfl) (by kernel_rfl) trivial ?_
            iterate 3
              first
                | (refine plan_pass _ rfl (by rfl) ?_)
                | (refine plan_take _ _ rfl (.inl ⟨by rfl, fun W hS => by clear hS; go_simp; try with_reducible rfl⟩) ?_)
              try simp only [Act.put, List.setIfInBounds_toArray, List.set_cons_zero, List.set_cons_succ]
            have x1d : w1.drew.cell? ⟨w.heap.size, 1, none⟩ = some (.string (mkS x.data)) := x1
            refine plan_either ?_ ?_
            · refine plan_run _ rfl (fun K hK => ?_)
              go_simp
              refine hK.out _ w1.drew trivial ?_
              clear hK K
              refine plan_run _ rfl (fun K hK => ?_)
              go_simp
              refine hK.out _ w1.drew trivial ?_
              clear hK K
              refine plan_run _ rfl (fun K hK => ?_)
              go_simp
              refine hK.out _ w1.drew trivial ?_
              clear hK K
              refine plan_take _ (.int .i64 ((o.pos : Int) - (x.data.length : Int))) rfl (.inl ⟨by rfl, fun W hS => by clear hS; go_simp; try with_reducible rfl⟩) ?_
              try simp only [Act.put, List.setIfInBounds_toArray, List.set_cons_zero, List.set_cons_succ]
              refine plan_run _ rfl (fun K hK => ?_)
              go_simp
              refine (hno _).mono ?_
              rintro e w1' ⟨rfl, rfl⟩
              have hzv : strV Z = .string (mkS Z) := rfl
              rw [hzv]
              refine hK.out _ w1.drew trivial ?_
              clear hK K
              refine plan_take _ (.string (mkS D)) rfl (.inl ⟨by rfl, fun W hS => by clear hS; go_simp; try with_reducible rfl⟩) ?_
              try simp only [Act.put, List.setIfInBounds_toArray, List.set_cons_zero, List.set_cons_succ]
              iterate 1
                first
                  | (refine plan_pass _ rfl (by rfl) ?_)
                  | (refine plan_take _ _ rfl (.inl ⟨by rfl, fun W hS => by clear hS; go_simp; try with_reducible rfl⟩) ?_)
                try simp only [Act.put, List.setIfInBounds_toArray, List.set_cons_zero, List.set_cons_succ]
              have f1 := hX.drew.free 1
              refine plan_run _ rfl (fun K hK => ?_)
              go_simp
              refine hK.out _ (w1.drew.setCell ⟨w.heap.size, 1, none⟩ (.string (mkS D))) trivial ?_
              clear hK K
              have hX2 := hX.drew.set 1 (.string (mkS D))
              have hR2 := hR.drew.set_other (a := ⟨w.heap.size, 1, none⟩) (show w.heap.size + 1 + 1 ≠ w.heap.size by omega) (.string (mkS D))
              have hb2 := hbw.drew.setCell (show w.heap.size ≤ (⟨w.heap.size, 1, none⟩ : Addr).block from Nat.le_refl _) (.string (mkS D))
              generalize w1.drew.setCell ⟨w.heap.size, 1, none⟩ (.string (mkS D)) = w5 at *
              refine plan_done ?_
              have f2 := hX2.free 1
              have x2 : w5.cell? ⟨w.heap.size, 1, none⟩ = some (.string (mkS D)) := (hX2.cell 1).trans rfl
              have hXz : Has _ w.heap.size 25 (objC ⟨x.there, T1, x.a0, x.a1, x.a2⟩) := hX2.set 1 (.string (mkS T1))
              have hRz := hR2.set_other (a := ⟨w.heap.size, 1, none⟩) (show w.heap.size + 1 + 1 ≠ w.heap.size by omega) (.string (mkS T1))
              have hbz := hb2.setCell (show w.heap.size ≤ (⟨w.heap.size, 1, none⟩ : Addr).block from Nat.le_refl _) (.string (mkS T1))
              go_wp2_with (first
                | (refine wpList_load_has (by rfl) 25 _ rfl w.heap.size rfl 25 (objC (⟨x.there, T1, x.a0, x.a1, x.a2⟩ : ObjV)) _ Try.underlying25 rfl (obj_size (⟨x.there, T1, x.a0, x.a1, x.a2⟩ : ObjV)) hXz ?_)
                | (refine wpList_store_has (by rfl) 25 _ _ rfl (w.heap.size + 1 + 1) rfl (objC (⟨x.there, T1, x.a0, x.a1, x.a2⟩ : ObjV)) rfl 25 (objC obj0) (obj_size _) rfl (obj_one _) hRz ?_))
              exact ret_has_tmp rfl (w.heap.size + 1 + 1) rfl 25 (objC (⟨x.there, T1, x.a0, x.a1, x.a2⟩ : ObjV)) _ Try.underlying25 rfl (obj_size _) (hRz.row _) rfl ⟨by rw [hc.out]; rfl, below_setRow hbz (by omega) _⟩
            · refine plan_run _ rfl (fun K hK => ?_)
              go_simp
              refine hK.out _ w1.drew trivial ?_
              clear hK K
              refine plan_either ?_ ?_
              · refine plan_run _ rfl (fun K hK => ?_)
                go_simp
                refine hK.out _ w1.drew trivial ?_
                clear hK K
                refine plan_run _ rfl (fun K hK => ?_)
                go_simp
                refine hK.out _ w1.drew trivial ?_
                clear hK K
                refine plan_take _ (.int .i64 ((o.pos : Int) - (x.data.length : Int))) rfl (.inl ⟨by rfl, fun W hS => by clear hS; go_simp; try with_reducible rfl⟩) ?_
                try simp only [Act.put, List.setIfInBounds_toArray, List.set_cons_zero, List.set_cons_succ]
                refine plan_run _ rfl (fun K hK => ?_)
                go_simp
                refine (hno _).mono ?_
                rintro e w1' ⟨rfl, rfl⟩
                have hzv : strV Z = .string (mkS Z) := rfl
                rw [hzv]
                refine hK.out _ w1.drew trivial ?_
                clear hK K
                refine plan_take _ (.string (mkS D)) rfl (.inl ⟨by rfl, fun W hS => by clear hS; go_simp; try with_reducible rfl⟩) ?_
                try simp only [Act.put, List.setIfInBounds_toArray, List.set_cons_zero, List.set_cons_succ]
                iterate 1
                  first
                    | (refine plan_pass _ rfl (by rfl) ?_)
                    | (refine plan_take _ _ rfl (.inl ⟨by rfl, fun W hS => by clear hS; go_simp; try with_reducible rfl⟩) ?_)
                  try simp only [Act.put, List.setIfInBounds_toArray, List.set_cons_zero, List.set_cons_succ]
                have f1 := hX.drew.free 1
                refine plan_run _ rfl (fun K hK => ?_)
                go_simp
                refine hK.out _ (w1.drew.setCell ⟨w.heap.size, 1, none⟩ (.string (mkS D))) trivial ?_
                clear hK K
                have hX2 := hX.drew.set 1 (.string (mkS D))
                have hR2 := hR.drew.set_other (a := ⟨w.heap.size, 1, none⟩) (show w.heap.size + 1 + 1 ≠ w.heap.size by omega) (.string (mkS D))
                have hb2 := hbw.drew.setCell (show w.heap.size ≤ (⟨w.heap.size, 1, none⟩ : Addr).block from Nat.le_refl _) (.string (mkS D))
                generalize w1.drew.setCell ⟨w.heap.size, 1, none⟩ (.string (mkS D)) = w5 at *
                refine plan_done ?_
                have f2 := hX2.free 1
                have x2 : w5.cell? ⟨w.heap.size, 1, none⟩ = some (.string (mkS D)) := (hX2.cell 1).trans rfl
                have hXz : Has _ w.heap.size 25 (objC ⟨x.there, T1, x.a0, x.a1, x.a2⟩) := hX2.set 1 (.string (mkS T1))
                have hRz := hR2.set_other (a := ⟨w.heap.size, 1, none⟩) (show w.heap.size + 1 + 1 ≠ w.heap.size by omega) (.string (mkS T1))
                have hbz := hb2.setCell (show w.heap.size ≤ (⟨w.heap.size, 1, none⟩ : Addr).block from Nat.le_refl _) (.string (mkS T1))
                go_wp2_with (first
                  | (refine wpList_load_has (by rfl) 25 _ rfl w.heap.size rfl 25 (objC (⟨x.there, T1, x.a0, x.a1, x.a2⟩ : ObjV)) _ Try.underlying25 rfl (obj_size (⟨x.there, T1, x.a0, x.a1, x.a2⟩ : ObjV)) hXz ?_)
                  | (refine wpList_store_has (by rfl) 25 _ _ rfl (w.heap.size + 1 + 1) rfl (objC (⟨x.there, T1, x.a0, x.a1, x.a2⟩ : ObjV)) rfl 25 (objC obj0) (obj_size _) rfl (obj_one _) hRz ?_))
                exact ret_has_tmp rfl (w.heap.size + 1 + 1) rfl 25 (objC (⟨x.there, T1, x.a0, x.a1, x.a2⟩ : ObjV)) _ Try.underlying25 rfl (obj_size _) (hRz.row _) rfl ⟨by rw [hc.out]; rfl, below_setRow hbz (by omega) _⟩
              · refine plan_run _ rfl (fun K hK => ?_)
                go_simp
                refine hK.out _ w1.drew trivial ?_
                clear hK K
                refine plan_take _ (.int .i64 ((o.pos : Int) - (x.data.length : Int))) rfl (.inl ⟨by rfl, fun W hS => by clear hS; go_simp; try with_reducible rfl⟩) ?_
                try simp only [Act.put, List.setIfInBounds_toArray, List.set_cons_zero, List.set_cons_succ]
                refine plan_either ?_ ?_
                · refine plan_run _ rfl (fun K hK => ?_)
                  go_simp
                  refine hK.out _ w1.drew trivial ?_
                  clear hK K
                  refine plan_run _ rfl (fun K hK => ?_)
                  go_simp
                  refine (hno _).mono ?_
                  rintro e w1' ⟨rfl, rfl⟩
                  have hzv : strV Z = .string (mkS Z) := rfl
                  rw [hzv]
                  refine hK.out _ w1.drew trivial ?_
                  clear hK K
                  refine plan_take _ (.string (mkS D)) rfl (.inl ⟨by rfl, fun W hS => by clear hS; go_simp; try with_reducible rfl⟩) ?_
                  try simp only [Act.put, List.setIfInBounds_toArray, List.set_cons_zero, List.set_cons_succ]
                  iterate 1
                    first
                      | (refine plan_pass _ rfl (by rfl) ?_)
                      | (refine plan_take _ _ rfl (.inl ⟨by rfl, fun W hS => by clear hS; go_simp; try with_reducible rfl⟩) ?_)
                    try simp only [Act.put, List.setIfInBounds_toArray, List.set_cons_zero, List.set_cons_succ]
                  have f1 := hX.drew.free 1
                  refine plan_run _ rfl (fun K hK => ?_)
                  go_simp
                  refine hK.out _ (w1.drew.setCell ⟨w.heap.size, 1, none⟩ (.string (mkS D))) trivial ?_
                  clear hK K
                  have hX2 := hX.drew.set 1 (.string (mkS D))
                  have hR2 := hR.drew.set_other (a := ⟨w.heap.size, 1, none⟩) (show w.heap.size + 1 + 1 ≠ w.heap.size by omega) (.string (mkS D))
                  have hb2 := hbw.drew.setCell (show w.heap.size ≤ (⟨w.heap.size, 1, none⟩ : Addr).block from Nat.le_refl _) (.string (mkS D))
                  generalize w1.drew.setCell ⟨w.heap.size, 1, none⟩ (.string (mkS D)) = w5 at *
                  refine plan_done ?_
                  have f2 := hX2.free 1
                  have x2 : w5.cell? ⟨w.heap.size, 1, none⟩ = some (.string (mkS D)) := (hX2.cell 1).trans rfl
                  have hXz : Has _ w.heap.size 25 (objC ⟨x.there, T1, x.a0, x.a1, x.a2⟩) := hX2.set 1 (.string (mkS T1))
                  have hRz := hR2.set_other (a := ⟨w.heap.size, 1, none⟩) (show w.heap.size + 1 + 1 ≠ w.heap.size by omega) (.string (mkS T1))
                  have hbz := hb2.setCell (show w.heap.size ≤ (⟨w.heap.size, 1, none⟩ : Addr).block from Nat.le_refl _) (.string (mkS T1))
                  go_wp2_with (first
                    | (refine wpList_load_has (by rfl) 25 _ rfl w.heap.size rfl 25 (objC (⟨x.there, T1, x.a0, x.a1, x.a2⟩ : ObjV)) _ Try.underlying25 rfl (obj_size (⟨x.there, T1, x.a0, x.a1, x.a2⟩ : ObjV)) hXz ?_)
                    | (refine wpList_store_has (by rfl) 25 _ _ rfl (w.heap.size + 1 + 1) rfl (objC (⟨x.there, T1, x.a0, x.a1, x.a2⟩ : ObjV)) rfl 25 (objC obj0) (obj_size _) rfl (obj_one _) hRz ?_))
                  exact ret_has_tmp rfl (w.heap.size + 1 + 1) rfl 25 (objC (⟨x.there, T1, x.a0, x.a1, x.a2⟩ : ObjV)) _ Try.underlying25 rfl (obj_size _) (hRz.row _) rfl ⟨by rw [hc.out]; rfl, below_setRow hbz (by omega) _⟩
                · refine plan_run _ rfl (fun K hK => ?_)
                  go_simp
                  refine (hno _).mono ?_
                  rintro e w1' ⟨rfl, rfl⟩
                  have hzv : strV Z = .string (mkS Z) := rfl
                  rw [hzv]
                  refine hK.out _ w1.drew trivial ?_
                  clear hK K
                  refine plan_run _ rfl (fun K hK => ?_)
                  go_simp
                  refine hK.out _ w1.drew trivial ?_
                  clear hK K
                  refine plan_take _ (.string (mkS D)) rfl (.inl ⟨by rfl, fun W hS => by clear hS; go_simp; try with_reducible rfl⟩) ?_
                  try simp only [Act.put, List.setIfInBounds_toArray, List.set_cons_zero, List.set_cons_succ]
                  iterate 1
                    first
                      | (refine plan_pass _ rfl (by rfl) ?_)
                      | (refine plan_take _ _ rfl (.inl ⟨by rfl, fun W hS => by clear hS; go_simp; try with_reducible rfl⟩) ?_)
                    try simp only [Act.put, List.setIfInBounds_toArray, List.set_cons_zero, List.set_cons_succ]
                  have f1 := hX.drew.free 1
                  refine plan_run _ rfl (fun K hK => ?_)
                  go_simp
                  refine hK.out _ (w1.drew.setCell ⟨w.heap.size, 1, none⟩ (.string (mkS D))) trivial ?_
                  clear hK K
                  have hX2 := hX.drew.set 1 (.string (mkS D))
                  have hR2 := hR.drew.set_other (a := ⟨w.heap.size, 1, none⟩) (show w.heap.size + 1 + 1 ≠ w.heap.size by omega) (.string (mkS D))
                  have hb2 := hbw.drew.setCell (show w.heap.size ≤ (⟨w.heap.size, 1, none⟩ : Addr).block from Nat.le_refl _) (.string (mkS D))
                  generalize w1.drew.setCell ⟨w.heap.size, 1, none⟩ (.string (mkS D)) = w5 at *
                  refine plan_done ?_
                  have f2 := hX2.free 1
                  have x2 : w5.cell? ⟨w.heap.size, 1, none⟩ = some (.string (mkS D)) := (hX2.cell 1).trans rfl
                  have hXz : Has _ w.heap.size 25 (objC ⟨x.there, T1, x.a0, x.a1, x.a2⟩) := hX2.set 1 (.string (mkS T1))
                  have hRz := hR2.set_other (a := ⟨w.heap.size, 1, none⟩) (show w.heap.size + 1 + 1 ≠ w.heap.size by omega) (.string (mkS T1))
                  have hbz := hb2.setCell (show w.heap.size ≤ (⟨w.heap.size, 1, none⟩ : Addr).block from Nat.le_refl _) (.string (mkS T1))
                  go_wp2_with (first
                    | (refine wpList_load_has (by rfl) 25 _ rfl w.heap.size rfl 25 (objC (⟨x.there, T1, x.a0, x.a1, x.a2⟩ : ObjV)) _ Try.underlying25 rfl (obj_size (⟨x.there, T1, x.a0, x.a1, x.a2⟩ : ObjV)) hXz ?_)
                    | (refine wpList_store_has (by rfl) 25 _ _ rfl (w.heap.size + 1 + 1) rfl (objC (⟨x.there, T1, x.a0, x.a1, x.a2⟩ : ObjV)) rfl 25 (objC obj0) (obj_size _) rfl (obj_one _) hRz ?_))
                  exact ret_has_tmp rfl (w.heap.size + 1 + 1) rfl 25 (objC (⟨x.there, T1, x.a0, x.a1, x.a2⟩ : ObjV)) _ Try.underlying25 rfl (obj_size _) (hRz.row _) rfl ⟨by rw [hc.out]; rfl, below_setRow hbz (by omega) _⟩
          · have hshI : (o.pos : Int) ≤ (x.data.length : Int) := by omega
            obtain ⟨T1, hT⟩ : ∃ T, T = x.data.take o.pos := ⟨_, rfl⟩
            have e1 := fun (W : World) => headS (P := Try.prog) W 9 Try.underlying9 x.data o.pos (by omega)
            rw [← hT] at e1
            have hc : Hid (changeM x o = (⟨x.there, T1, x.a0, x.a1, x.a2⟩, 0)) := by
              show _ = _
              rw [hc0, fitS_long (by omega), hT]
            have f1 := hX.free 1
            have hXz : Has _ w.heap.size 25 (objC ⟨x.there, T1, x.a0, x.a1, x.a2⟩) := hX.set 1 (.string (mkS T1))
            have hRz := hR.set_other (a := ⟨w.heap.size, 1, none⟩) (show w.heap.size + 1 + 1 ≠ w.heap.size by omega) (.string (mkS T1))
            have hbz := hbw.setCell (show w.heap.size ≤ (⟨w.heap.size, 1, none⟩ : Addr).block from Nat.le_refl _) (.string (mkS T1))
            clear hc0 hT hsh hlong k1 k2 hth
            go_enter Try.func71, Try.ntmps71
            go_wp2_with (first
              | (refine wpList_alloc_has (by rfl) 25 rfl (objC obj0) obj_zero ?_; generalize ((w.alloc (.cells (objC x) 25)).alloc (.cells (opC o) 35)).alloc (.cells (objC obj0) 25) = w1 at *)
              | (refine wpList_load_has (by rfl) 25 _ rfl w.heap.size rfl 25 (objC (⟨x.there, T1, x.a0, x.a1, x.a2⟩ : ObjV)) _ Try.underlying25 rfl (obj_size (⟨x.there, T1, x.a0, x.a1, x.a2⟩ : ObjV)) hXz ?_)
              | (refine wpList_store_has (by rfl) 25 _ _ rfl (w.heap.size + 1 + 1) rfl (objC (⟨x.there, T1, x.a0, x.a1, x.a2⟩ : ObjV)) rfl 25 (objC obj0) (obj_size _) rfl (obj_one _) hRz ?_))
            exact ret_has_tmp rfl (w.heap.size + 1 + 1) rfl 25 (objC (⟨x.there, T1, x.a0, x.a1, x.a2⟩ : ObjV)) _ Try.underlying25 rfl (obj_size _) (hRz.row _) rfl ⟨by rw [hc.out]; rfl, below_setRow hbz (by omega) _⟩
    · by_cases k3 : o.kind = 3
      · rw [k3] at q2
        by_cases hlong : 3 ≤ o.pos
        · have hc : Hid (changeM x o = (x, 3)) := by show _ = _; unfold changeM; rw [if_neg k1, if_neg k2, if_pos k3, if_pos hlong]
          have hlongI : (3 : Int) ≤ (o.pos : Int) := by omega
          clear k1 k2 k3 hlong
          go_enter Try.func71, Try.ntmps71
          go_wp2_with (first
            | (refine wpList_alloc_has (by rfl) 25 rfl (objC obj0) obj_zero ?_; generalize ((w.alloc (.cells (objC x) 25)).alloc (.cells (opC o) 35)).alloc (.cells (objC obj0) 25) = w1 at *)
            | (refine wpList_load_has (by rfl) 25 _ rfl w.heap.size rfl 25 (objC x) _ Try.underlying25 rfl (obj_size x) hX ?_)
            | (refine wpList_store_has (by rfl) 25 _ _ rfl (w.heap.size + 1 + 1) rfl (objC x) rfl 25 (objC obj0) (obj_size _) rfl (obj_one _) hR ?_))
          exact ret_has_tmp rfl (w.heap.size + 1 + 1) rfl 25 (objC x) _ Try.underlying25 rfl (obj_size _) (hR.row _) rfl ⟨by rw [hc.out]; rfl, below_setRow hbw (by omega) _⟩
        · have hlongI : (o.pos : Int) < 3 := by omega
          cases hth : x.there with
          | false =>
            rw [hth] at x0
            have hc : Hid (changeM x o = (x, 1)) := by show _ = _; unfold changeM; rw [if_neg k1, if_neg k2, if_pos k3, if_neg hlong, if_pos hth]
            clear k1 k2 k3 hlong
            go_enter Try.func71, Try.ntmps71
            go_wp2_with (first
              | (refine wpList_alloc_has (by rfl) 25 rfl (objC obj0) obj_zero ?_; generalize ((w.alloc (.cells (objC x) 25)).alloc (.cells (opC o) 35)).alloc (.cells (objC obj0) 25) = w1 at *)
              | (refine wpList_load_has (by rfl) 25 _ rfl w.heap.size rfl 25 (objC x) _ Try.underlying25 rfl (obj_size x) hX ?_)
              | (refine wpList_store_has (by rfl) 25 _ _ rfl (w.heap.size + 1 + 1) rfl (objC x) rfl 25 (objC obj0) (obj_size _) rfl (obj_one _) hR ?_))
            exact ret_has_tmp rfl (w.heap.size + 1 + 1) rfl 25 (objC x) _ Try.underlying25 rfl (obj_size _) (hR.row _) rfl ⟨by rw [hc.out]; rfl, below_setRow hbw (by omega) _⟩
          | true =>
            rw [hth] at x0
            have hc0 : changeM x o = (x.setAttr o.pos o.data, 0) := by unfold changeM; rw [if_neg k1, if_neg k2, if_pos k3, if_neg hlong, if_neg (by rw [hth]; simp)]
            rcases (show o.pos = 0 ∨ o.pos = 1 ∨ o.pos = 2 by omega) with h | h | h
            · have hc : Hid (changeM x o = ({ x with a0 := o.data }, 0)) := by show _ = _; rw [hc0]; unfold ObjV.setAttr; rw [if_pos h]
              rw [h] at q4
              clear k1 k2 k3 hlong hc0 h hlongI hpI hth
              have f2 := hX.free 2
              have x2 := (hX.cell 2).trans (show (objC x)[2]? = some (.string (mkS x.a0)) from rfl)
              have hXz := hX.set 2 (.string (mkS o.data))
              have hXz : Has _ w.heap.size 25 (objC { x with a0 := o.data }) := hXz
              have hRz := hR.set_other (a := ⟨w.heap.size, 2, none⟩) (show w.heap.size + 1 + 1 ≠ w.heap.size by omega) (.string (mkS o.data))
              have hbz := hbw.setCell (show w.heap.size ≤ (⟨w.heap.size, 2, none⟩ : Addr).block from Nat.le_refl _) (.string (mkS o.data))
              go_enter Try.func71, Try.ntmps71
              go_wp2_with (first
                | (refine wpList_alloc_has (by rfl) 25 rfl (objC obj0) obj_zero ?_; generalize ((w.alloc (.cells (objC x) 25)).alloc (.cells (opC o) 35)).alloc (.cells (objC obj0) 25) = w1 at *)
                | (refine wpList_load_has (by rfl) 25 _ rfl w.heap.size rfl 25 (objC ({ x with a0 := o.data })) _ Try.underlying25 rfl (obj_size ({ x with a0 := o.data })) hXz ?_)
                | (refine wpList_store_has (by rfl) 25 _ _ rfl (w.heap.size + 1 + 1) rfl (objC ({ x with a0 := o.data })) rfl 25 (objC obj0) (obj_size _) rfl (obj_one _) hRz ?_))
              exact ret_has_tmp rfl (w.heap.size + 1 + 1) rfl 25 (objC ({ x with a0 := o.data })) _ Try.underlying25 rfl (obj_size _) (hRz.row _) rfl ⟨by rw [hc.out]; rfl, below_setRow hbz (by omega) _⟩
            · have hc : Hid (changeM x o = ({ x with a1 := o.data }, 0)) := by show _ = _; rw [hc0]; unfold ObjV.setAttr; rw [if_neg (by omega), if_pos h]
              rw [h] at q4
              clear k1 k2 k3 hlong hc0 h hlongI hpI hth
              have f2 := hX.free 3
              have x2 := (hX.cell 3).trans (show (objC x)[3]? = some (.string (mkS x.a1)) from rfl)
              have hXz := hX.set 3 (.string (mkS o.data))
              have hXz : Has _ w.heap.size 25 (objC { x with a1 := o.data }) := hXz
              have hRz := hR.set_other (a := ⟨w.heap.size, 3, none⟩) (show w.heap.size + 1 + 1 ≠ w.heap.size by omega) (.string (mkS o.data))
              have hbz := hbw.setCell (show w.heap.size ≤ (⟨w.heap.size, 3, none⟩ : Addr).block from Nat.le_refl _) (.string (mkS o.data))
              go_enter Try.func71, Try.ntmps71
              go_wp2_with (first
                | (refine wpList_alloc_has (by rfl) 25 rfl (objC obj0) obj_zero ?_; generalize ((w.alloc (.cells (objC x) 25)).alloc (.cells (opC o) 35)).alloc (.cells (objC obj0) 25) = w1 at *)
                | (refine wpList_load_has (by rfl) 25 _ rfl w.heap.size rfl 25 (objC ({ x with a1 := o.data })) _ Try.underlying25 rfl (obj_size ({ x with a1 := o.data })) hXz ?_)
                | (refine wpList_store_has (by rfl) 25 _ _ rfl (w.heap.size + 1 + 1) rfl (objC ({ x with a1 := o.data })) rfl 25 (objC obj0) (obj_size _) rfl (obj_one _) hRz ?_))
              exact ret_has_tmp rfl (w.heap.size + 1 + 1) rfl 25 (objC ({ x with a1 := o.data })) _ Try.underlying25 rfl (obj_size _) (hRz.row _) rfl ⟨by rw [hc.out]; rfl, below_setRow hbz (by omega) _⟩
            · have hc : Hid (changeM x o = ({ x with a2 := o.data }, 0)) := by show _ = _; rw [hc0]; unfold ObjV.setAttr; rw [if_neg (by omega), if_neg (by omega)]
              rw [h] at q4
              clear k1 k2 k3 hlong hc0 h hlongI hpI hth
              have f2 := hX.free 4
              have x2 := (hX.cell 4).trans (show (objC x)[4]? = some (.string (mkS x.a2)) from rfl)
              have hXz := hX.set 4 (.string (mkS o.data))
              have hXz : Has _ w.heap.size 25 (objC { x with a2 := o.data }) := hXz
              have hRz := hR.set_other (a := ⟨w.heap.size, 4, none⟩) (show w.heap.size + 1 + 1 ≠ w.heap.size by omega) (.string (mkS o.data))
              have hbz := hbw.setCell (show w.heap.size ≤ (⟨w.heap.size, 4, none⟩ : Addr).block from Nat.le_refl _) (.string (mkS o.data))
              go_enter Try.func71, Try.ntmps71
              go_wp2_with (first
                | (refine wpList_alloc_has (by rfl) 25 rfl (objC obj0) obj_zero ?_; generalize ((w.alloc (.cells (objC x) 25)).alloc (.cells (opC o) 35)).alloc (.cells (objC obj0) 25) = w1 at *)
                | (refine wpList_load_has (by rfl) 25 _ rfl w.heap.size rfl 25 (objC ({ x with a2 := o.data })) _ Try.underlying25 rfl (obj_size ({ x with a2 := o.data })) hXz ?_)
                | (refine wpList_store_has (by rfl) 25 _ _ rfl (w.heap.size + 1 + 1) rfl (objC ({ x with a2 := o.data })) rfl 25 (objC obj0) (obj_size _) rfl (obj_one _) hRz ?_))
              exact ret_has_tmp rfl (w.heap.size + 1 + 1) rfl 25 (objC ({ x with a2 := o.data })) _ Try.underlying25 rfl (obj_size _) (hRz.row _) rfl ⟨by rw [hc.out]; rfl, below_setRow hbz (by omega) _⟩
      · have k4 : o.kind = 4 := by omega
        rw [k4] at q2
        cases hth : x.there with
        | false =>
          rw [hth] at x0
          have hc : Hid (changeM x o = (x, 1)) := by show _ = _; unfold changeM; rw [if_neg k1, if_neg k2, if_neg k3, if_pos hth]
          clear k1 k2 k3 k4
          go_enter Try.func71, Try.ntmps71
          go_wp2_with (first
            | (refine wpList_alloc_has (by rfl) 25 rfl (objC obj0) obj_zero ?_; generalize ((w.alloc (.cells (objC x) 25)).alloc (.cells (opC o) 35)).alloc (.cells (objC obj0) 25) = w1 at *)
            | (refine wpList_load_has (by rfl) 25 _ rfl w.heap.size rfl 25 (objC x) _ Try.underlying25 rfl (obj_size x) hX ?_)
            | (refine wpList_store_has (by rfl) 25 _ _ rfl (w.heap.size + 1 + 1) rfl (objC x) rfl 25 (objC obj0) (obj_size _) rfl (obj_one _) hR ?_))
          exact ret_has_tmp rfl (w.heap.size + 1 + 1) rfl 25 (objC x) _ Try.underlying25 rfl (obj_size _) (hR.row _) rfl ⟨by rw [hc.out]; rfl, below_setRow hbw (by omega) _⟩
        | true =>
          rw [hth] at x0
          have hc : Hid (changeM x o = (obj0, 0)) := by show _ = _; unfold changeM; rw [if_neg k1, if_neg k2, if_neg k3, if_neg (by rw [hth]; simp)]
          have hXz := hX.row (objC obj0)
          have hRz := hR.row_other (k := w.heap.size) (show w.heap.size + 1 + 1 ≠ w.heap.size by omega) (objC obj0)
          have hbz := below_setRow hbw (Nat.le_refl _) (objC obj0)
          clear k1 k2 k3 k4
          go_enter Try.func71, Try.ntmps71
          go_wp2_with (first
            | (refine wpList_alloc_has (by rfl) 25 rfl (objC obj0) obj_zero ?_; generalize ((w.alloc (.cells (objC x) 25)).alloc (.cells (opC o) 35)).alloc (.cells (objC obj0) 25) = w1 at *)
            | (refine wpList_build_has (by rfl) 25 #[] rfl (objC obj0) (by simpa using obj_built) ?_)
            | (refine wpList_store_has (by rfl) 25 _ _ rfl w.heap.size rfl (objC obj0) rfl 25 (objC x) (obj_size _) rfl (obj_one _) hX ?_; generalize w1.setRow w.heap.size (objC obj0) = w2 at *)
            | (refine wpList_load_has (by rfl) 25 _ rfl w.heap.size rfl 25 (objC obj0) _ Try.underlying25 rfl (obj_size _) hXz ?_)
            | (refine wpList_store_has (by rfl) 25 _ _ rfl (w.heap.size + 1 + 1) rfl (objC obj0) rfl 25 (objC obj0) (obj_size _) rfl (obj_one _) hRz ?_))
          exact ret_has_tmp rfl (w.heap.size + 1 + 1) rfl 25 (objC obj0) _ Try.underlying25 rfl (obj_size _) (hRz.row _) rfl ⟨by rw [hc.out]; rfl, below_setRow hbz (by omega) _⟩
end Go.Proofs.Ytphlfepgaghhhaa
