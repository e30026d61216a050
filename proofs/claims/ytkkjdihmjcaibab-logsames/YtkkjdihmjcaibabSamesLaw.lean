/- LogSames, walked. -/
import Derived.Test.YtkkjdihmjcaibabLogApp
namespace Go.Proofs.Ytkkjdihmjcaibab
set_option linter.unusedSimpArgs false
set_option linter.unusedVariables false
set_option maxRecDepth 100000
open Go.RowKit

set_option maxHeartbeats 4000000 in
theorem sames_walk (ao : Option Addr) (c a : Nat) (l : List OpV) (o : OpV) (w : World) (h : Sl w ao c 6 (opR l)) (hl : ∀ x ∈ l, OpOk x) (ho : OpOk o) (ha : a < 256) :
    Calls Try.prog 4 #[.slice ao l.length c, .int .u8 (a : Int), .agg (opC o)] w fun e w' => e = .returned (.bool true) ∧ Below w.heap.size w w' := by
  obtain ⟨i0, hi, hz0, hz1, hz2⟩ := ent_info40
  have hle := h.op_le
  have hcap := h.cap
  obtain ⟨w0, hw0, hO, hb0⟩ := one_var w 25 (opC o)
  go_enter Try.func4, Try.ntmps4
  go_wp2_with fail
  refine (known_any _).mono ?_
  rintro e w1 ⟨rfl, hq⟩
  have hb := hb0.trans (hq.mono hb0.size)
  replace hO := hO.later hq
  clear hq hw0 hb0
  by_cases hlong : 20 < l.length
  · have hI : (20 : Int) < (l.length : Int) := by omega
    clear hlong
    go_wp2_with fail
    go_ret
    exact ⟨rfl, hb⟩
  have hI : ¬ ((20 : Int) < (l.length : Int)) := by omega
  have hl60 : l.length ≤ 60 := by omega
  have hlB : l.length ≤ 20 := by omega
  clear hlong
  go_wp2_with fail
  refine (row_any ao c 2 l _ (h.later hb) hl hl60 (by omega)).mono ?_
  rintro e w2 ⟨ro, rc, bo, bc, rfl, hS8, _, _, _, hq⟩
  have hro : ∀ d, ro = some d → 0 < (entR (stOf (2 % 60 + 1) (l.filter writesM)).log).length → d.block < w2.heap.size := fun d hd hn => by subst hd; exact hS8.block_lt hn (by decide)
  replace hO := hO.later hq
  replace hb := hb.trans (hq.mono hb.size)
  clear hq
  have hogs := hO.lt
  obtain ⟨w3, hw3, hX, hq⟩ := new_var w2 42 (stC st0 none 0) (stC (stOf (2 % 60 + 1) (l.filter writesM)) ro rc)
  replace hS8 := hS8.later hq
  replace hO := hO.later hq
  replace hb := hb.trans (hq.mono hb.size)
  have hlt3 := hX.lt
  clear hq
  go_wp2_with (first
    | (refine wpList_alloc_has (by rfl) 42 rfl (stC st0 none 0) st_zero ?_)
    | (refine wpList_store_to (by rfl) 42 _ _ rfl w2.heap.size rfl (stC (stOf (2 % 60 + 1) (l.filter writesM)) ro rc) rfl 42 (stC st0 none 0) (st_size _ _ _) (st_same _ _ _ _ _ _) (st_one _ _ _) ?hg w3 ?hW ?_; (case hg => exact Has.new _ _ _); (case hW => exact hw3); clear hw3))
  refine (row_any ao c 2 l _ (h.later hb) hl hl60 (by omega)).mono ?_
  rintro e w4 ⟨yo, yc, bo2, bc2, rfl, hT8, htn, _, _, hq⟩
  replace hX := hX.later hq
  replace hS8 := hS8.later hq
  replace hO := hO.later hq
  replace hb := hb.trans (hq.mono hb.size)
  clear hq
  have hgs4 := hX.lt
  have hto : ∀ d, yo = some d → 0 < (entR (stOf (2 % 60 + 1) (l.filter writesM)).log).length → d.block < w4.heap.size := fun d hd hn => by subst hd; exact hT8.block_lt hn (by decide)
  obtain ⟨wt, hwt, hT, hq⟩ := new_var w4 42 (stC st0 none 0) (stC (stOf (2 % 60 + 1) (l.filter writesM)) yo yc)
  replace hX := hX.later hq
  replace hS8 := hS8.later hq
  replace hT8 := hT8.later hq
  replace hO := hO.later hq
  replace hb := hb.trans (hq.mono hb.size)
  clear hq
  have hRS := rowState (q := 2 % 60 + 1) (D := l.filter writesM) (by omega) (filter_writes l) (filter_ok hl) (Nat.le_trans (filter_len l) hl60)
  have hSo := hRS.ok
  have hSl : Hid _ := hRS.len
  have hst0 : Hid ((stOf (2 % 60 + 1) (l.filter writesM)).started = 0) := rfl
  have hlen6 : (stOf (2 % 60 + 1) (l.filter writesM)).log.length ≤ 6 := by have := hSl.out; omega
  have htn6 : Hid ((stOf (2 % 60 + 1) (l.filter writesM)).tail.n ≤ 100) := by have := hRS.tail; have := filter_len l; show _ ≤ _; omega
  clear hRS hSl
  generalize stOf (2 % 60 + 1) (l.filter writesM) = S at *
  go_wp2_with (first
    | (refine wpList_alloc_has (by rfl) 42 rfl (stC st0 none 0) st_zero ?_)
    | (refine wpList_store_to (by rfl) 42 _ _ rfl w4.heap.size rfl (stC S yo yc) rfl 42 (stC st0 none 0) (st_size _ _ _) (st_same _ _ _ _ _ _) (st_one _ _ _) ?hg wt ?hW ?_; (case hg => exact Has.new _ _ _); (case hW => exact hwt); clear hwt)
    | (refine wpList_load_has (by rfl) 42 _ rfl (w2.heap.size) rfl 42 (stC S ro rc) _ Try.underlying42 rfl (st_size _ _ _) ?hg ?_; (case hg => exact hX))
    | (refine wpList_load_has (by rfl) 42 _ rfl (w4.heap.size) rfl 42 (stC S yo yc) _ Try.underlying42 rfl (st_size _ _ _) ?hg ?_; (case hg => exact hT)))
  refine (same_any S S ro yo rc yc _ hSo hSo hS8 hT8).mono ?_
  rintro e wu ⟨rfl, hq⟩
  rw [same_self]
  replace hX := hX.later hq
  replace hS8 := hS8.later hq
  replace hT := hT.later hq
  replace hT8 := hT8.later hq
  replace hO := hO.later hq
  replace hb := hb.trans (hq.mono hb.size)
  clear hq
  generalize w2.heap.size = gs at *
  generalize w4.heap.size = gt at *
  clear wt
  obtain ⟨wt, hwt2⟩ : ∃ W, W = wu := ⟨_, rfl⟩
  subst hwt2
  have hdt : 0 < (entR S.log).length → ∀ d, yo = some d → d.block ≠ gt := fun hn d hd => by have := hto d hd hn; omega
  have hds : 0 < (entR S.log).length → ∀ d, ro = some d → d.block ≠ gt := fun hn d hd => by have := hro d hd hn; omega
  have hgg : gs ≠ gt := by omega
  obtain ⟨r, hr⟩ : ∃ r, a % 5 = r := ⟨_, rfl⟩
  have hr5 : r = 0 ∨ r = 1 ∨ r = 2 ∨ r = 3 ∨ r = 4 := by omega
  replace hr : Hid _ := hr
  rcases hr5 with rfl | rfl | rfl | rfl | rfl
  · obtain ⟨n1, hn1⟩ : ∃ n1, S.started + 1 = n1 := ⟨_, rfl⟩
    have s0 := hT.st_started
    have f0 := hT.free 0
    have hZ := hT.set 0 (.int .u32 (n1 : Int))
    rw [st_set0] at hZ
    have hZ8 := hT8.cell_far (a := ⟨gt, 0, none⟩) hdt (.int .u32 (n1 : Int))
    have hX6 := hX.set_other (a := ⟨gt, 0, none⟩) (show gs ≠ gt by omega) (.int .u32 (n1 : Int))
    have hS6 := hS8.cell_far (a := ⟨gt, 0, none⟩) hds (.int .u32 (n1 : Int))
    have hb6 := hb.setCell (show w.heap.size ≤ (⟨gt, 0, none⟩ : Addr).block from by show w.heap.size ≤ gt; omega) (.int .u32 (n1 : Int))
    obtain ⟨w6, hw6⟩ : ∃ W, wt.setCell ⟨gt, 0, none⟩ (.int .u32 (n1 : Int)) = W := ⟨_, rfl⟩
    rw [hw6] at hZ hZ8 hX6 hS6 hb6
    have hn1b : n1 < 4294967296 := by have := hst0.out; omega
    have hne : S ≠ ⟨n1, S.base, S.tail, S.log⟩ := fun e => by have : S.started = n1 := congrArg StV.started e; omega
    have hZo : StOk ⟨n1, S.base, S.tail, S.log⟩ := ⟨hn1b, hSo.base, hSo.tail, hSo.log, hSo.len⟩
    replace hn1 : Hid _ := hn1
    have hZ8 : Sl w6 yo yc 8 (entR (⟨n1, S.base, S.tail, S.log⟩ : StV).log) := hZ8
    generalize (⟨n1, S.base, S.tail, S.log⟩ : StV) = Z at *
    replace hX := hX6
    replace hS8 := hS6
    replace hb := hb6
    clear hX6 hS6 hb6
    go_wp2_with (first
      | (refine wpList_val (.int .u8 0) (by rfl) (run_rem_u8 _ _ _ _ rfl a 5 0 rfl rfl ha (by decide) hr.out) ?_)
      | (refine wpList_val (.int .u32 (n1 : Int)) (by rfl) (run_add_u32 _ _ _ _ rfl S.started 1 n1 rfl rfl hn1.out hn1b) ?_)
      | (refine wpList_load_has (by rfl) 42 _ rfl (gs) rfl 42 (stC S ro rc) _ Try.underlying42 rfl (st_size _ _ _) ?hg ?_; (case hg => exact hX))
      | (refine wpList_load_has (by rfl) 42 _ rfl (gt) rfl 42 (stC Z yo yc) _ Try.underlying42 rfl (st_size _ _ _) ?hg ?_; (case hg => exact hZ)))
    have hdn : same tSt S Z = false := same_not hne
    have hdn2 : same tSt Z S = false := same_not (fun e => hne e.symm)
    replace hdn : Hid _ := hdn
    replace hdn2 : Hid _ := hdn2
    refine (same_any S Z ro (yo) rc (yc) _ hSo hZo hS8 hZ8).mono ?_
    rintro e wa ⟨rfl, hq⟩
    rw [hdn.out]
    replace hX := hX.later hq
    replace hZ := hZ.later hq
    replace hS8 := hS8.later hq
    replace hZ8 := hZ8.later hq
    replace hb := hb.trans (hq.mono hb.size)
    clear hq
    go_wp2_with (first
      | (refine wpList_load_has (by rfl) 42 _ rfl (gs) rfl 42 (stC S ro rc) _ Try.underlying42 rfl (st_size _ _ _) ?hg ?_; (case hg => exact hX))
      | (refine wpList_load_has (by rfl) 42 _ rfl (gt) rfl 42 (stC Z (yo) (yc)) _ Try.underlying42 rfl (st_size _ _ _) ?hg ?_; (case hg => exact hZ)))
    refine (same_any Z S (yo) ro (yc) rc _ hZo hSo hZ8 hS8).mono ?_
    rintro e wb ⟨rfl, hq⟩
    rw [hdn2.out]
    replace hb := hb.trans (hq.mono hb.size)
    clear hq
    go_wp2_with fail
    go_ret
    exact ⟨rfl, hb⟩
  · obtain ⟨nb, hnb⟩ : ∃ nb, (!(S.base.obj 3).there) = nb := ⟨_, rfl⟩
    have s0 := (hT.cell 16).trans (st_get16 S yo yc)
    have f0 := hT.free 16
    have hZ := hT.set 16 (.bool nb)
    rw [st_set16] at hZ
    have hZ8 := hT8.cell_far (a := ⟨gt, 16, none⟩) hdt (.bool nb)
    have hX6 := hX.set_other (a := ⟨gt, 16, none⟩) (show gs ≠ gt by omega) (.bool nb)
    have hS6 := hS8.cell_far (a := ⟨gt, 16, none⟩) hds (.bool nb)
    have hb6 := hb.setCell (show w.heap.size ≤ (⟨gt, 16, none⟩ : Addr).block from by show w.heap.size ≤ gt; omega) (.bool nb)
    obtain ⟨w6, hw6⟩ : ∃ W, wt.setCell ⟨gt, 16, none⟩ (.bool nb) = W := ⟨_, rfl⟩
    rw [hw6] at hZ hZ8 hX6 hS6 hb6
    have hne : S ≠ ⟨S.started, S.base.setObj 3 ⟨nb, (S.base.obj 3).data, (S.base.obj 3).a0, (S.base.obj 3).a1, (S.base.obj 3).a2⟩, S.tail, S.log⟩ := fun e => by
      have : (S.base.obj 3).there = nb := congrArg (fun z : StV => (z.base.obj 3).there) e
      rw [← hnb] at this
      cases h3 : (S.base.obj 3).there <;> rw [h3] at this <;> cases this
    have hBin := hSo.base
    have hx3 : ∀ i, ObjIn ((S.base.setObj 3 ⟨nb, (S.base.obj 3).data, (S.base.obj 3).a0, (S.base.obj 3).a1, (S.base.obj 3).a2⟩).obj i) := fun i => by
      show ObjIn (if i = 3 then _ else S.base.obj i)
      split
      · exact ⟨hBin.data 3, hBin.a0 3, hBin.a1 3, hBin.a2 3⟩
      · exact hBin.obj i
    have hZo : StOk ⟨S.started, S.base.setObj 3 ⟨nb, (S.base.obj 3).data, (S.base.obj 3).a0, (S.base.obj 3).a1, (S.base.obj 3).a2⟩, S.tail, S.log⟩ := ⟨hSo.started, ⟨hBin.seq, hBin.code, hBin.rdata, fun i => (hx3 i).data, fun i => (hx3 i).a0, fun i => (hx3 i).a1, fun i => (hx3 i).a2⟩, hSo.tail, hSo.log, hSo.len⟩
    clear hx3
    have hZ8 : Sl w6 yo yc 8 (entR (⟨S.started, S.base.setObj 3 ⟨nb, (S.base.obj 3).data, (S.base.obj 3).a0, (S.base.obj 3).a1, (S.base.obj 3).a2⟩, S.tail, S.log⟩ : StV).log) := hZ8
    generalize (⟨S.started, S.base.setObj 3 ⟨nb, (S.base.obj 3).data, (S.base.obj 3).a0, (S.base.obj 3).a1, (S.base.obj 3).a2⟩, S.tail, S.log⟩ : StV) = Z at *
    replace hX := hX6
    replace hS8 := hS6
    replace hb := hb6
    clear hX6 hS6 hb6
    go_wp2_with (first
      | (refine wpList_val (.int .u8 1) (by rfl) (run_rem_u8 _ _ _ _ rfl a 5 1 rfl rfl ha (by decide) hr.out) ?_)
      | (refine wpList_load_has (by rfl) 42 _ rfl (gs) rfl 42 (stC S ro rc) _ Try.underlying42 rfl (st_size _ _ _) ?hg ?_; (case hg => exact hX))
      | (refine wpList_load_has (by rfl) 42 _ rfl (gt) rfl 42 (stC Z yo yc) _ Try.underlying42 rfl (st_size _ _ _) ?hg ?_; (case hg => exact hZ)))
    have hdn : same tSt S Z = false := same_not hne
    have hdn2 : same tSt Z S = false := same_not (fun e => hne e.symm)
    replace hdn : Hid _ := hdn
    replace hdn2 : Hid _ := hdn2
    refine (same_any S Z ro (yo) rc (yc) _ hSo hZo hS8 hZ8).mono ?_
    rintro e wa ⟨rfl, hq⟩
    rw [hdn.out]
    replace hX := hX.later hq
    replace hZ := hZ.later hq
    replace hS8 := hS8.later hq
    replace hZ8 := hZ8.later hq
    replace hb := hb.trans (hq.mono hb.size)
    clear hq
    go_wp2_with (first
      | (refine wpList_load_has (by rfl) 42 _ rfl (gs) rfl 42 (stC S ro rc) _ Try.underlying42 rfl (st_size _ _ _) ?hg ?_; (case hg => exact hX))
      | (refine wpList_load_has (by rfl) 42 _ rfl (gt) rfl 42 (stC Z (yo) (yc)) _ Try.underlying42 rfl (st_size _ _ _) ?hg ?_; (case hg => exact hZ)))
    refine (same_any Z S (yo) ro (yc) rc _ hZo hSo hZ8 hS8).mono ?_
    rintro e wb ⟨rfl, hq⟩
    rw [hdn2.out]
    replace hb := hb.trans (hq.mono hb.size)
    clear hq
    go_wp2_with fail
    go_ret
    exact ⟨rfl, hb⟩
  · obtain ⟨n1, hn1⟩ : ∃ n1, S.tail.n + 1 = n1 := ⟨_, rfl⟩
    have s0 := hT.st_tail_n
    have f0 := hT.free 41
    have hZ := hT.set 41 (.int .u32 (n1 : Int))
    rw [st_set41] at hZ
    have hZ8 := hT8.cell_far (a := ⟨gt, 41, none⟩) hdt (.int .u32 (n1 : Int))
    have hX6 := hX.set_other (a := ⟨gt, 41, none⟩) (show gs ≠ gt by omega) (.int .u32 (n1 : Int))
    have hS6 := hS8.cell_far (a := ⟨gt, 41, none⟩) hds (.int .u32 (n1 : Int))
    have hb6 := hb.setCell (show w.heap.size ≤ (⟨gt, 41, none⟩ : Addr).block from by show w.heap.size ≤ gt; omega) (.int .u32 (n1 : Int))
    obtain ⟨w6, hw6⟩ : ∃ W, wt.setCell ⟨gt, 41, none⟩ (.int .u32 (n1 : Int)) = W := ⟨_, rfl⟩
    rw [hw6] at hZ hZ8 hX6 hS6 hb6
    have hn1b : n1 < 4294967296 := by have := htn6.out; omega
    have hne : S ≠ ⟨S.started, S.base, ⟨S.tail.since, n1, S.tail.op⟩, S.log⟩ := fun e => by have : S.tail.n = n1 := congrArg (fun z : StV => z.tail.n) e; omega
    have hZo : StOk ⟨S.started, S.base, ⟨S.tail.since, n1, S.tail.op⟩, S.log⟩ := ⟨hSo.started, hSo.base, ⟨hSo.tail.since, hn1b, hSo.tail.op⟩, hSo.log, hSo.len⟩
    replace hn1 : Hid _ := hn1
    have hZ8 : Sl w6 yo yc 8 (entR (⟨S.started, S.base, ⟨S.tail.since, n1, S.tail.op⟩, S.log⟩ : StV).log) := hZ8
    generalize (⟨S.started, S.base, ⟨S.tail.since, n1, S.tail.op⟩, S.log⟩ : StV) = Z at *
    replace hX := hX6
    replace hS8 := hS6
    replace hb := hb6
    clear hX6 hS6 hb6
    go_wp2_with (first
      | (refine wpList_val (.int .u8 2) (by rfl) (run_rem_u8 _ _ _ _ rfl a 5 2 rfl rfl ha (by decide) hr.out) ?_)
      | (refine wpList_val (.int .u32 (n1 : Int)) (by rfl) (run_add_u32 _ _ _ _ rfl S.tail.n 1 n1 rfl rfl hn1.out hn1b) ?_)
      | (refine wpList_load_has (by rfl) 42 _ rfl (gs) rfl 42 (stC S ro rc) _ Try.underlying42 rfl (st_size _ _ _) ?hg ?_; (case hg => exact hX))
      | (refine wpList_load_has (by rfl) 42 _ rfl (gt) rfl 42 (stC Z yo yc) _ Try.underlying42 rfl (st_size _ _ _) ?hg ?_; (case hg => exact hZ)))
    have hdn : same tSt S Z = false := same_not hne
    have hdn2 : same tSt Z S = false := same_not (fun e => hne e.symm)
    replace hdn : Hid _ := hdn
    replace hdn2 : Hid _ := hdn2
    refine (same_any S Z ro (yo) rc (yc) _ hSo hZo hS8 hZ8).mono ?_
    rintro e wa ⟨rfl, hq⟩
    rw [hdn.out]
    replace hX := hX.later hq
    replace hZ := hZ.later hq
    replace hS8 := hS8.later hq
    replace hZ8 := hZ8.later hq
    replace hb := hb.trans (hq.mono hb.size)
    clear hq
    go_wp2_with (first
      | (refine wpList_load_has (by rfl) 42 _ rfl (gs) rfl 42 (stC S ro rc) _ Try.underlying42 rfl (st_size _ _ _) ?hg ?_; (case hg => exact hX))
      | (refine wpList_load_has (by rfl) 42 _ rfl (gt) rfl 42 (stC Z (yo) (yc)) _ Try.underlying42 rfl (st_size _ _ _) ?hg ?_; (case hg => exact hZ)))
    refine (same_any Z S (yo) ro (yc) rc _ hZo hSo hZ8 hS8).mono ?_
    rintro e wb ⟨rfl, hq⟩
    rw [hdn2.out]
    replace hb := hb.trans (hq.mono hb.size)
    clear hq
    go_wp2_with fail
    go_ret
    exact ⟨rfl, hb⟩
  · obtain ⟨n1, hn1⟩ : ∃ n1, ((S.base.last 1).seq + 1) % 4294967296 = n1 := ⟨_, rfl⟩
    have s0 := (hT.cell 34).trans (st_get34 S yo yc)
    have f0 := hT.free 34
    have hZ := hT.set 34 (.int .u32 (n1 : Int))
    rw [st_set34] at hZ
    have hZ8 := hT8.cell_far (a := ⟨gt, 34, none⟩) hdt (.int .u32 (n1 : Int))
    have hX6 := hX.set_other (a := ⟨gt, 34, none⟩) (show gs ≠ gt by omega) (.int .u32 (n1 : Int))
    have hS6 := hS8.cell_far (a := ⟨gt, 34, none⟩) hds (.int .u32 (n1 : Int))
    have hb6 := hb.setCell (show w.heap.size ≤ (⟨gt, 34, none⟩ : Addr).block from by show w.heap.size ≤ gt; omega) (.int .u32 (n1 : Int))
    obtain ⟨w6, hw6⟩ : ∃ W, wt.setCell ⟨gt, 34, none⟩ (.int .u32 (n1 : Int)) = W := ⟨_, rfl⟩
    rw [hw6] at hZ hZ8 hX6 hS6 hb6
    have hsq := hSo.base.seq 1
    have hn1b : n1 < 4294967296 := by omega
    have hne : S ≠ ⟨S.started, S.base.setLast 1 ⟨n1, (S.base.last 1).r⟩, S.tail, S.log⟩ := fun e => by have : (S.base.last 1).seq = n1 := congrArg (fun z : StV => (z.base.last 1).seq) e; omega
    have hBin := hSo.base
    have hx3 : ∀ i, LastIn ((S.base.setLast 1 ⟨n1, (S.base.last 1).r⟩).last i) := fun i => by
      show LastIn (if i = 1 then _ else S.base.last i)
      split
      · exact ⟨hn1b, hBin.code 1, hBin.rdata 1⟩
      · exact hBin.last i
    have hZo : StOk ⟨S.started, S.base.setLast 1 ⟨n1, (S.base.last 1).r⟩, S.tail, S.log⟩ := ⟨hSo.started, ⟨fun i => (hx3 i).seq, fun i => (hx3 i).code, fun i => (hx3 i).rdata, hBin.data, hBin.a0, hBin.a1, hBin.a2⟩, hSo.tail, hSo.log, hSo.len⟩
    clear hx3
    replace hn1 : Hid _ := hn1
    have hZ8 : Sl w6 yo yc 8 (entR (⟨S.started, S.base.setLast 1 ⟨n1, (S.base.last 1).r⟩, S.tail, S.log⟩ : StV).log) := hZ8
    generalize (⟨S.started, S.base.setLast 1 ⟨n1, (S.base.last 1).r⟩, S.tail, S.log⟩ : StV) = Z at *
    replace hX := hX6
    replace hS8 := hS6
    replace hb := hb6
    clear hX6 hS6 hb6
    go_wp2_with (first
      | (refine wpList_val (.int .u8 3) (by rfl) (run_rem_u8 _ _ _ _ rfl a 5 3 rfl rfl ha (by decide) hr.out) ?_)
      | (refine wpList_val (.int .u32 (n1 : Int)) (by rfl) (run_add_u32w _ _ _ _ rfl (S.base.last 1).seq 1 n1 rfl rfl hn1.out) ?_)
      | (refine wpList_load_has (by rfl) 42 _ rfl (gs) rfl 42 (stC S ro rc) _ Try.underlying42 rfl (st_size _ _ _) ?hg ?_; (case hg => exact hX))
      | (refine wpList_load_has (by rfl) 42 _ rfl (gt) rfl 42 (stC Z yo yc) _ Try.underlying42 rfl (st_size _ _ _) ?hg ?_; (case hg => exact hZ)))
    have hdn : same tSt S Z = false := same_not hne
    have hdn2 : same tSt Z S = false := same_not (fun e => hne e.symm)
    replace hdn : Hid _ := hdn
    replace hdn2 : Hid _ := hdn2
    refine (same_any S Z ro (yo) rc (yc) _ hSo hZo hS8 hZ8).mono ?_
    rintro e wa ⟨rfl, hq⟩
    rw [hdn.out]
    replace hX := hX.later hq
    replace hZ := hZ.later hq
    replace hS8 := hS8.later hq
    replace hZ8 := hZ8.later hq
    replace hb := hb.trans (hq.mono hb.size)
    clear hq
    go_wp2_with (first
      | (refine wpList_load_has (by rfl) 42 _ rfl (gs) rfl 42 (stC S ro rc) _ Try.underlying42 rfl (st_size _ _ _) ?hg ?_; (case hg => exact hX))
      | (refine wpList_load_has (by rfl) 42 _ rfl (gt) rfl 42 (stC Z (yo) (yc)) _ Try.underlying42 rfl (st_size _ _ _) ?hg ?_; (case hg => exact hZ)))
    refine (same_any Z S (yo) ro (yc) rc _ hZo hSo hZ8 hS8).mono ?_
    rintro e wb ⟨rfl, hq⟩
    rw [hdn2.out]
    replace hb := hb.trans (hq.mono hb.size)
    clear hq
    go_wp2_with fail
    go_ret
    exact ⟨rfl, hb⟩
  · have hbA : Below wt.heap.size wt wt.drew := (Below.refl _ _).drew
    have hgtl := hT.lt
    go_wp2_with (first
      | (refine wpList_val (.int .u8 4) (by rfl) (run_rem_u8 _ _ _ _ rfl a 5 4 rfl rfl ha (by decide) hr.out) ?_))
    refine wp_region_plan (fun W => Has W w.heap.size 25 (opC o)) (Plan.of [(0, true), (3, true), (4, true)] (.either 1 (.either 2 (Plan.of [(5, false), (6, false), (7, true), (8, false)] .done) 5 (Plan.of [(2, false), (6, false), (7, true), (8, false)] .done)) 5 (Plan.of [(1, false), (2, false), (6, false), (7, true), (8, false)] .done))) (by kernel_rfl) (by kernel_rfl) (by kernel_rfl) (by kernel_rfl) hO.drew ?_
    iterate 1
      first
        | (refine plan_pass _ rfl (by rfl) ?_)
        | (refine plan_take _ _ rfl (.inl ⟨by rfl, fun W hS => by clear hS; go_simp; try with_reducible rfl⟩) ?_)
      try simp only [Act.put, List.setIfInBounds_toArray, List.set_cons_zero, List.set_cons_succ]
    refine plan_take _ _ rfl (yields_load_has (by rfl) 25 _ rfl w.heap.size rfl 25 (opC o) _ Try.underlying25 rfl (op_size _) (fun W hW => hW)) ?_
    try simp only [Act.put, List.setIfInBounds_toArray, List.set_cons_zero, List.set_cons_succ]
    refine plan_take _ _ rfl (yields_build_two (by rfl) 39 1 2 _ _ rfl (.int .u32 1) (.agg (opC o)) rfl rfl (entC ⟨0, 1, o⟩) (e1_built o)) ?_
    try simp only [Act.put, List.setIfInBounds_toArray, List.set_cons_zero, List.set_cons_succ]
    refine plan_either ?_ ?_
    · have c48 := (hT.later hbA).st_log
      refine plan_run _ rfl (fun K hK => ?_)
      go_simp
      refine hK.out _ _ (hO.later hbA) ?_
      clear hK K c48
      try simp only [Act.put, List.setIfInBounds_toArray, List.set_cons_zero, List.set_cons_succ]
      refine plan_either ?_ ?_
      · obtain ⟨v1, wA, hr1, hown1, hgr1, hat1⟩ := run_append_log wt.drew 40 wt.heap.size (.slice none 0 0) [] S.log (own_nil _ _) yo yc (hT8.later hbA) (by simp; omega) hbA.size
        have hqq : Below wt.drew.heap.size wt.drew wA := (Below.refl _ _).grown hgr1 (Nat.le_refl _) (fun k hk => by cases hk)
        have hbB : Below wt.heap.size wt wA := hbA.trans (hqq.mono hbA.size)
        rw [List.nil_append] at hown1
        refine plan_append_run _ rfl (by rfl) _ _ _ _ rfl (.slice none 0 0) (.slice yo S.log.length yc) rfl rfl v1 wA hr1 (hO.later hbB) ?_
        try simp only [Act.put, List.setIfInBounds_toArray, List.set_cons_zero, List.set_cons_succ]
        obtain ⟨wB, hw5e, hS1, hq5⟩ := one_ent wA ⟨0, 1, o⟩
        have hbC : Below wt.heap.size wt wB := hbB.trans (hq5.mono hbB.size)
        refine plan_slice_one _ rfl (by rfl) 40 _ rfl (.agg (entC ⟨0, 1, o⟩)) rfl (.slice (some ⟨wA.heap.size, 0, none⟩) 1 1) wB (hw5e ▸ slice_one_ent ⟨0, 1, o⟩ _) (hO.later hbC) ?_
        try simp only [Act.put, List.setIfInBounds_toArray, List.set_cons_zero, List.set_cons_succ]
        replace hown1 := own_below hown1 hq5
        obtain ⟨v2, wC, hr2, hown2, hgr2, hat2⟩ := run_append_log wB 40 wt.heap.size v1 S.log [⟨0, 1, o⟩] hown1 _ 1 hS1 (by simp; omega) hbC.size
        have hbD : Below wt.heap.size wt wC := hbC.grown hgr2 (hbC.size) (fun k hk => (hown1.lt k hk).1)
        refine plan_append_run _ rfl (by rfl) _ _ _ _ rfl v1 _ rfl rfl v2 wC hr2 (hO.later hbD) ?_
        try simp only [Act.put, List.setIfInBounds_toArray, List.set_cons_zero, List.set_cons_succ]
        have hlen2 : (S.log ++ [(⟨0, 1, o⟩ : EntV)]).length = S.log.length + 1 := by rw [List.length_append]; rfl
        obtain ⟨_, g2, cap2, hv2, hg2, hg2l, hZ0⟩ := ents_own hown2 (by rw [hlen2]; omega)
        rw [hlen2] at hv2
        subst hv2
        have hTz := hT.later hbD
        have c48 := hTz.st_log
        have f48 := hTz.free 48
        have hZ := hTz.setLog (S.log ++ [⟨0, 1, o⟩]) (some ⟨g2, 0, none⟩) cap2
        rw [hlen2] at hZ
        have hltz := hT.lt
        have hZ8 := hZ0.cell_other (a := ⟨gt, 48, none⟩) (fun d hd => by obtain rfl := Option.some.inj hd; show g2 ≠ gt; omega) (.slice (some ⟨g2, 0, none⟩) (S.log.length + 1) cap2)
        have hX6 := (hX.later hbD).set_other (a := ⟨gt, 48, none⟩) (show gs ≠ gt by omega) (.slice (some ⟨g2, 0, none⟩) (S.log.length + 1) cap2)
        have hS6 := (hS8.later hbD).cell_far (a := ⟨gt, 48, none⟩) hds (.slice (some ⟨g2, 0, none⟩) (S.log.length + 1) cap2)
        have hO6 := (hO.later hbD).set_other (a := ⟨gt, 48, none⟩) (show w.heap.size ≠ gt by omega) (.slice (some ⟨g2, 0, none⟩) (S.log.length + 1) cap2)
        have hb6 := (hb.trans (hbD.mono hb.size)).setCell (show w.heap.size ≤ (⟨gt, 48, none⟩ : Addr).block from by show w.heap.size ≤ gt; omega) (.slice (some ⟨g2, 0, none⟩) (S.log.length + 1) cap2)
        iterate 1
          first
            | (refine plan_pass _ rfl (by rfl) ?_)
            | (refine plan_take _ _ rfl (.inl ⟨by rfl, fun W hS => by clear hS; go_simp; try with_reducible rfl⟩) ?_)
          try simp only [Act.put, List.setIfInBounds_toArray, List.set_cons_zero, List.set_cons_succ]
        refine plan_run _ rfl (fun K hK => ?_)
        go_simp
        refine hK.out _ (wC.setCell ⟨gt, 48, none⟩ (.slice (some ⟨g2, 0, none⟩) (S.log.length + 1) cap2)) hO6 ?_
        clear hK K
        try simp only [Act.put, List.setIfInBounds_toArray, List.set_cons_zero, List.set_cons_succ]
        refine plan_done ?_
        generalize wC.setCell ⟨gt, 48, none⟩ (.slice (some ⟨g2, 0, none⟩) (S.log.length + 1) cap2) = w6 at *
        have hne : S ≠ withLog S (S.log ++ [⟨0, 1, o⟩]) := fun e => by
          have : S.log.length = (S.log ++ [(⟨0, 1, o⟩ : EntV)]).length := congrArg (fun z : StV => z.log.length) e
          omega
        have hZo : StOk (withLog S (S.log ++ [⟨0, 1, o⟩])) := ⟨hSo.started, hSo.base, hSo.tail, (fun x hx => by
          rcases List.mem_append.1 hx with hx | hx
          · exact hSo.log x hx
          · rw [List.mem_singleton.1 hx]; exact ⟨by show 0 < _; decide, by show 1 < _; decide, ho⟩), by show (S.log ++ [_]).length ≤ 1000; rw [hlen2]; omega⟩
        have hZ8 : Sl w6 (some ⟨g2, 0, none⟩) cap2 8 (entR (withLog S (S.log ++ [⟨0, 1, o⟩])).log) := hZ8
        generalize withLog S (S.log ++ [⟨0, 1, o⟩]) = Z at *
        replace hX := hX6
        replace hS8 := hS6
        replace hb := hb6
        clear hX6 hS6 hb6 hO6 c48 f48 hlen2 hown1 hown2
        go_wp2_with (first
          | (refine wpList_load_has (by rfl) 42 _ rfl (gs) rfl 42 (stC S ro rc) _ Try.underlying42 rfl (st_size _ _ _) ?hg ?_; (case hg => exact hX))
          | (refine wpList_load_has (by rfl) 42 _ rfl (gt) rfl 42 (stC Z (some ⟨g2, 0, none⟩) cap2) _ Try.underlying42 rfl (st_size _ _ _) ?hg ?_; (case hg => exact hZ)))
        have hdn : same tSt S Z = false := same_not hne
        have hdn2 : same tSt Z S = false := same_not (fun e => hne e.symm)
        replace hdn : Hid _ := hdn
        replace hdn2 : Hid _ := hdn2
        refine (same_any S Z ro (some ⟨g2, 0, none⟩) rc (cap2) _ hSo hZo hS8 hZ8).mono ?_
        rintro e wa ⟨rfl, hq⟩
        rw [hdn.out]
        replace hX := hX.later hq
        replace hZ := hZ.later hq
        replace hS8 := hS8.later hq
        replace hZ8 := hZ8.later hq
        replace hb := hb.trans (hq.mono hb.size)
        clear hq
        go_wp2_with (first
          | (refine wpList_load_has (by rfl) 42 _ rfl (gs) rfl 42 (stC S ro rc) _ Try.underlying42 rfl (st_size _ _ _) ?hg ?_; (case hg => exact hX))
          | (refine wpList_load_has (by rfl) 42 _ rfl (gt) rfl 42 (stC Z (some ⟨g2, 0, none⟩) (cap2)) _ Try.underlying42 rfl (st_size _ _ _) ?hg ?_; (case hg => exact hZ)))
        refine (same_any Z S (some ⟨g2, 0, none⟩) ro (cap2) rc _ hZo hSo hZ8 hS8).mono ?_
        rintro e wb ⟨rfl, hq⟩
        rw [hdn2.out]
        replace hb := hb.trans (hq.mono hb.size)
        clear hq
        go_wp2_with fail
        go_ret
        exact ⟨rfl, hb⟩
      · obtain ⟨wA, hw5e, hS1, hq5⟩ := one_ent wt.drew ⟨0, 1, o⟩
        have hbB : Below wt.heap.size wt wA := hbA.trans (hq5.mono hbA.size)
        refine plan_slice_one _ rfl (by rfl) 40 _ rfl (.agg (entC ⟨0, 1, o⟩)) rfl (.slice (some ⟨wt.drew.heap.size, 0, none⟩) 1 1) wA (hw5e ▸ slice_one_ent ⟨0, 1, o⟩ _) (hO.later hbB) ?_
        try simp only [Act.put, List.setIfInBounds_toArray, List.set_cons_zero, List.set_cons_succ]
        obtain ⟨v1, wB, hr1, hown1, hgr1, hat1⟩ := run_append_log wA 40 wt.heap.size (.slice none 0 0) [] S.log (own_nil _ _) yo yc (hT8.later hbB) (by simp; omega) hbB.size
        have hqq : Below wA.heap.size wA wB := (Below.refl _ _).grown hgr1 (Nat.le_refl _) (fun k hk => by cases hk)
        have hbC : Below wt.heap.size wt wB := hbB.trans (hqq.mono hbB.size)
        rw [List.nil_append] at hown1
        refine plan_append_run _ rfl (by rfl) _ _ _ _ rfl (.slice none 0 0) (.slice yo S.log.length yc) rfl rfl v1 wB hr1 (hO.later hbC) ?_
        try simp only [Act.put, List.setIfInBounds_toArray, List.set_cons_zero, List.set_cons_succ]
        replace hS1 := hS1.later hqq
        obtain ⟨v2, wC, hr2, hown2, hgr2, hat2⟩ := run_append_log wB 40 wt.heap.size v1 S.log [⟨0, 1, o⟩] hown1 _ 1 hS1 (by simp; omega) hbC.size
        have hbD : Below wt.heap.size wt wC := hbC.grown hgr2 (hbC.size) (fun k hk => (hown1.lt k hk).1)
        refine plan_append_run _ rfl (by rfl) _ _ _ _ rfl v1 _ rfl rfl v2 wC hr2 (hO.later hbD) ?_
        try simp only [Act.put, List.setIfInBounds_toArray, List.set_cons_zero, List.set_cons_succ]
        have hlen2 : (S.log ++ [(⟨0, 1, o⟩ : EntV)]).length = S.log.length + 1 := by rw [List.length_append]; rfl
        obtain ⟨_, g2, cap2, hv2, hg2, hg2l, hZ0⟩ := ents_own hown2 (by rw [hlen2]; omega)
        rw [hlen2] at hv2
        subst hv2
        have hTz := hT.later hbD
        have c48 := hTz.st_log
        have f48 := hTz.free 48
        have hZ := hTz.setLog (S.log ++ [⟨0, 1, o⟩]) (some ⟨g2, 0, none⟩) cap2
        rw [hlen2] at hZ
        have hltz := hT.lt
        have hZ8 := hZ0.cell_other (a := ⟨gt, 48, none⟩) (fun d hd => by obtain rfl := Option.some.inj hd; show g2 ≠ gt; omega) (.slice (some ⟨g2, 0, none⟩) (S.log.length + 1) cap2)
        have hX6 := (hX.later hbD).set_other (a := ⟨gt, 48, none⟩) (show gs ≠ gt by omega) (.slice (some ⟨g2, 0, none⟩) (S.log.length + 1) cap2)
        have hS6 := (hS8.later hbD).cell_far (a := ⟨gt, 48, none⟩) hds (.slice (some ⟨g2, 0, none⟩) (S.log.length + 1) cap2)
        have hO6 := (hO.later hbD).set_other (a := ⟨gt, 48, none⟩) (show w.heap.size ≠ gt by omega) (.slice (some ⟨g2, 0, none⟩) (S.log.length + 1) cap2)
        have hb6 := (hb.trans (hbD.mono hb.size)).setCell (show w.heap.size ≤ (⟨gt, 48, none⟩ : Addr).block from by show w.heap.size ≤ gt; omega) (.slice (some ⟨g2, 0, none⟩) (S.log.length + 1) cap2)
        iterate 1
          first
            | (refine plan_pass _ rfl (by rfl) ?_)
            | (refine plan_take _ _ rfl (.inl ⟨by rfl, fun W hS => by clear hS; go_simp; try with_reducible rfl⟩) ?_)
          try simp only [Act.put, List.setIfInBounds_toArray, List.set_cons_zero, List.set_cons_succ]
        refine plan_run _ rfl (fun K hK => ?_)
        go_simp
        refine hK.out _ (wC.setCell ⟨gt, 48, none⟩ (.slice (some ⟨g2, 0, none⟩) (S.log.length + 1) cap2)) hO6 ?_
        clear hK K
        try simp only [Act.put, List.setIfInBounds_toArray, List.set_cons_zero, List.set_cons_succ]
        refine plan_done ?_
        generalize wC.setCell ⟨gt, 48, none⟩ (.slice (some ⟨g2, 0, none⟩) (S.log.length + 1) cap2) = w6 at *
        have hne : S ≠ withLog S (S.log ++ [⟨0, 1, o⟩]) := fun e => by
          have : S.log.length = (S.log ++ [(⟨0, 1, o⟩ : EntV)]).length := congrArg (fun z : StV => z.log.length) e
          omega
        have hZo : StOk (withLog S (S.log ++ [⟨0, 1, o⟩])) := ⟨hSo.started, hSo.base, hSo.tail, (fun x hx => by
          rcases List.mem_append.1 hx with hx | hx
          · exact hSo.log x hx
          · rw [List.mem_singleton.1 hx]; exact ⟨by show 0 < _; decide, by show 1 < _; decide, ho⟩), by show (S.log ++ [_]).length ≤ 1000; rw [hlen2]; omega⟩
        have hZ8 : Sl w6 (some ⟨g2, 0, none⟩) cap2 8 (entR (withLog S (S.log ++ [⟨0, 1, o⟩])).log) := hZ8
        generalize withLog S (S.log ++ [⟨0, 1, o⟩]) = Z at *
        replace hX := hX6
        replace hS8 := hS6
        replace hb := hb6
        clear hX6 hS6 hb6 hO6 c48 f48 hlen2 hown1 hown2
        go_wp2_with (first
          | (refine wpList_load_has (by rfl) 42 _ rfl (gs) rfl 42 (stC S ro rc) _ Try.underlying42 rfl (st_size _ _ _) ?hg ?_; (case hg => exact hX))
          | (refine wpList_load_has (by rfl) 42 _ rfl (gt) rfl 42 (stC Z (some ⟨g2, 0, none⟩) cap2) _ Try.underlying42 rfl (st_size _ _ _) ?hg ?_; (case hg => exact hZ)))
        have hdn : same tSt S Z = false := same_not hne
        have hdn2 : same tSt Z S = false := same_not (fun e => hne e.symm)
        replace hdn : Hid _ := hdn
        replace hdn2 : Hid _ := hdn2
        refine (same_any S Z ro (some ⟨g2, 0, none⟩) rc (cap2) _ hSo hZo hS8 hZ8).mono ?_
        rintro e wa ⟨rfl, hq⟩
        rw [hdn.out]
        replace hX := hX.later hq
        replace hZ := hZ.later hq
        replace hS8 := hS8.later hq
        replace hZ8 := hZ8.later hq
        replace hb := hb.trans (hq.mono hb.size)
        clear hq
        go_wp2_with (first
          | (refine wpList_load_has (by rfl) 42 _ rfl (gs) rfl 42 (stC S ro rc) _ Try.underlying42 rfl (st_size _ _ _) ?hg ?_; (case hg => exact hX))
          | (refine wpList_load_has (by rfl) 42 _ rfl (gt) rfl 42 (stC Z (some ⟨g2, 0, none⟩) (cap2)) _ Try.underlying42 rfl (st_size _ _ _) ?hg ?_; (case hg => exact hZ)))
        refine (same_any Z S (some ⟨g2, 0, none⟩) ro (cap2) rc _ hZo hSo hZ8 hS8).mono ?_
        rintro e wb ⟨rfl, hq⟩
        rw [hdn2.out]
        replace hb := hb.trans (hq.mono hb.size)
        clear hq
        go_wp2_with fail
        go_ret
        exact ⟨rfl, hb⟩
    · obtain ⟨wA, hw5e, hS1, hq5⟩ := one_ent wt.drew ⟨0, 1, o⟩
      have hbB : Below wt.heap.size wt wA := hbA.trans (hq5.mono hbA.size)
      refine plan_slice_one _ rfl (by rfl) 40 _ rfl (.agg (entC ⟨0, 1, o⟩)) rfl (.slice (some ⟨wt.drew.heap.size, 0, none⟩) 1 1) wA (hw5e ▸ slice_one_ent ⟨0, 1, o⟩ _) (hO.later hbB) ?_
      try simp only [Act.put, List.setIfInBounds_toArray, List.set_cons_zero, List.set_cons_succ]
      have c48 := (hT.later hbB).st_log
      refine plan_run _ rfl (fun K hK => ?_)
      go_simp
      refine hK.out _ _ (hO.later hbB) ?_
      clear hK K c48
      try simp only [Act.put, List.setIfInBounds_toArray, List.set_cons_zero, List.set_cons_succ]
      obtain ⟨v1, wB, hr1, hown1, hgr1, hat1⟩ := run_append_log wA 40 wt.heap.size (.slice none 0 0) [] S.log (own_nil _ _) yo yc (hT8.later hbB) (by simp; omega) hbB.size
      have hqq : Below wA.heap.size wA wB := (Below.refl _ _).grown hgr1 (Nat.le_refl _) (fun k hk => by cases hk)
      have hbC : Below wt.heap.size wt wB := hbB.trans (hqq.mono hbB.size)
      rw [List.nil_append] at hown1
      refine plan_append_run _ rfl (by rfl) _ _ _ _ rfl (.slice none 0 0) (.slice yo S.log.length yc) rfl rfl v1 wB hr1 (hO.later hbC) ?_
      try simp only [Act.put, List.setIfInBounds_toArray, List.set_cons_zero, List.set_cons_succ]
      replace hS1 := hS1.later hqq
      obtain ⟨v2, wC, hr2, hown2, hgr2, hat2⟩ := run_append_log wB 40 wt.heap.size v1 S.log [⟨0, 1, o⟩] hown1 _ 1 hS1 (by simp; omega) hbC.size
      have hbD : Below wt.heap.size wt wC := hbC.grown hgr2 (hbC.size) (fun k hk => (hown1.lt k hk).1)
      refine plan_append_run _ rfl (by rfl) _ _ _ _ rfl v1 _ rfl rfl v2 wC hr2 (hO.later hbD) ?_
      try simp only [Act.put, List.setIfInBounds_toArray, List.set_cons_zero, List.set_cons_succ]
      have hlen2 : (S.log ++ [(⟨0, 1, o⟩ : EntV)]).length = S.log.length + 1 := by rw [List.length_append]; rfl
      obtain ⟨_, g2, cap2, hv2, hg2, hg2l, hZ0⟩ := ents_own hown2 (by rw [hlen2]; omega)
      rw [hlen2] at hv2
      subst hv2
      have hTz := hT.later hbD
      have c48 := hTz.st_log
      have f48 := hTz.free 48
      have hZ := hTz.setLog (S.log ++ [⟨0, 1, o⟩]) (some ⟨g2, 0, none⟩) cap2
      rw [hlen2] at hZ
      have hltz := hT.lt
      have hZ8 := hZ0.cell_other (a := ⟨gt, 48, none⟩) (fun d hd => by obtain rfl := Option.some.inj hd; show g2 ≠ gt; omega) (.slice (some ⟨g2, 0, none⟩) (S.log.length + 1) cap2)
      have hX6 := (hX.later hbD).set_other (a := ⟨gt, 48, none⟩) (show gs ≠ gt by omega) (.slice (some ⟨g2, 0, none⟩) (S.log.length + 1) cap2)
      have hS6 := (hS8.later hbD).cell_far (a := ⟨gt, 48, none⟩) hds (.slice (some ⟨g2, 0, none⟩) (S.log.length + 1) cap2)
      have hO6 := (hO.later hbD).set_other (a := ⟨gt, 48, none⟩) (show w.heap.size ≠ gt by omega) (.slice (some ⟨g2, 0, none⟩) (S.log.length + 1) cap2)
      have hb6 := (hb.trans (hbD.mono hb.size)).setCell (show w.heap.size ≤ (⟨gt, 48, none⟩ : Addr).block from by show w.heap.size ≤ gt; omega) (.slice (some ⟨g2, 0, none⟩) (S.log.length + 1) cap2)
      iterate 1
        first
          | (refine plan_pass _ rfl (by rfl) ?_)
          | (refine plan_take _ _ rfl (.inl ⟨by rfl, fun W hS => by clear hS; go_simp; try with_reducible rfl⟩) ?_)
        try simp only [Act.put, List.setIfInBounds_toArray, List.set_cons_zero, List.set_cons_succ]
      refine plan_run _ rfl (fun K hK => ?_)
      go_simp
      refine hK.out _ (wC.setCell ⟨gt, 48, none⟩ (.slice (some ⟨g2, 0, none⟩) (S.log.length + 1) cap2)) hO6 ?_
      clear hK K
      try simp only [Act.put, List.setIfInBounds_toArray, List.set_cons_zero, List.set_cons_succ]
      refine plan_done ?_
      generalize wC.setCell ⟨gt, 48, none⟩ (.slice (some ⟨g2, 0, none⟩) (S.log.length + 1) cap2) = w6 at *
      have hne : S ≠ withLog S (S.log ++ [⟨0, 1, o⟩]) := fun e => by
        have : S.log.length = (S.log ++ [(⟨0, 1, o⟩ : EntV)]).length := congrArg (fun z : StV => z.log.length) e
        omega
      have hZo : StOk (withLog S (S.log ++ [⟨0, 1, o⟩])) := ⟨hSo.started, hSo.base, hSo.tail, (fun x hx => by
        rcases List.mem_append.1 hx with hx | hx
        · exact hSo.log x hx
        · rw [List.mem_singleton.1 hx]; exact ⟨by show 0 < _; decide, by show 1 < _; decide, ho⟩), by show (S.log ++ [_]).length ≤ 1000; rw [hlen2]; omega⟩
      have hZ8 : Sl w6 (some ⟨g2, 0, none⟩) cap2 8 (entR (withLog S (S.log ++ [⟨0, 1, o⟩])).log) := hZ8
      generalize withLog S (S.log ++ [⟨0, 1, o⟩]) = Z at *
      replace hX := hX6
      replace hS8 := hS6
      replace hb := hb6
      clear hX6 hS6 hb6 hO6 c48 f48 hlen2 hown1 hown2
      go_wp2_with (first
        | (refine wpList_load_has (by rfl) 42 _ rfl (gs) rfl 42 (stC S ro rc) _ Try.underlying42 rfl (st_size _ _ _) ?hg ?_; (case hg => exact hX))
        | (refine wpList_load_has (by rfl) 42 _ rfl (gt) rfl 42 (stC Z (some ⟨g2, 0, none⟩) cap2) _ Try.underlying42 rfl (st_size _ _ _) ?hg ?_; (case hg => exact hZ)))
      have hdn : same tSt S Z = false := same_not hne
      have hdn2 : same tSt Z S = false := same_not (fun e => hne e.symm)
      replace hdn : Hid _ := hdn
      replace hdn2 : Hid _ := hdn2
      refine (same_any S Z ro (some ⟨g2, 0, none⟩) rc (cap2) _ hSo hZo hS8 hZ8).mono ?_
      rintro e wa ⟨rfl, hq⟩
      rw [hdn.out]
      replace hX := hX.later hq
      replace hZ := hZ.later hq
      replace hS8 := hS8.later hq
      replace hZ8 := hZ8.later hq
      replace hb := hb.trans (hq.mono hb.size)
      clear hq
      go_wp2_with (first
        | (refine wpList_load_has (by rfl) 42 _ rfl (gs) rfl 42 (stC S ro rc) _ Try.underlying42 rfl (st_size _ _ _) ?hg ?_; (case hg => exact hX))
        | (refine wpList_load_has (by rfl) 42 _ rfl (gt) rfl 42 (stC Z (some ⟨g2, 0, none⟩) (cap2)) _ Try.underlying42 rfl (st_size _ _ _) ?hg ?_; (case hg => exact hZ)))
      refine (same_any Z S (some ⟨g2, 0, none⟩) ro (cap2) rc _ hZo hSo hZ8 hS8).mono ?_
      rintro e wb ⟨rfl, hq⟩
      rw [hdn2.out]
      replace hb := hb.trans (hq.mono hb.size)
      clear hq
      go_wp2_with fail
      go_ret
      exact ⟨rfl, hb⟩
end Go.Proofs.Ytkkjdihmjcaibab
