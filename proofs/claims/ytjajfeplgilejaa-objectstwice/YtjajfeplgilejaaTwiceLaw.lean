/- ObjectsTwice, walked. -/
import Derived.Test.YtjajfeplgilejaaObjSteps
namespace Go.Proofs.Ytjajfeplgilejaa
set_option linter.unusedSimpArgs false
set_option linter.unusedVariables false
set_option maxRecDepth 100000
open Go.RowKit

set_option maxHeartbeats 4000000 in
theorem twice_walk (S : ObjSpec) (ao : Option Addr) (c : Nat) (l : List OpV) (o : OpV) (w : World) (h : Sl w ao c 6 (opR l)) (hl : ∀ x ∈ l, OpOk x) (ho : OpOk o) :
    Calls Try.prog 4 #[.slice ao l.length c, .agg (opC o)] w fun e w' => e = .returned (.bool true) ∧ Below w.heap.size w w' := by
  have hle := h.le
  have hol : (opR l).length = l.length := by unfold opR; rw [List.length_map]
  rw [hol] at hle
  have hcap := h.cap
  have hO := Has.new w 42 (opC o)
  have hb := (Below.refl w.heap.size w).alloc (Nat.le_refl _) (.cells (opC o) 42)
  go_enter Try.func4, Try.ntmps4
  go_wp2_with fail
  refine (oknown_any S _).mono ?_
  rintro e w1 ⟨rfl, hq⟩
  replace hO := hO.later hq
  replace hb := hb.trans (hq.mono hb.size)
  clear hq
  by_cases hlong : 20 < l.length
  · have hI : (20 : Int) < (l.length : Int) := by omega
    clear hlong
    go_wp2_with fail
    go_ret
    exact ⟨rfl, hb⟩
  have hI : ¬ ((20 : Int) < (l.length : Int)) := by omega
  have hI2 : (l.length : Int) ≤ 20 := by omega
  have hdec : decide ((20 : Int) < (l.length : Int)) = false := decide_eq_false hI
  go_wp2_with (first
    | ((try rw [hdec]); refine wpList_load_has (by rfl) 42 _ rfl w.heap.size rfl 42 (opC o) _ Try.underlying42 rfl (op_size _) ?hg ?_; (case hg => exact hO)))
  refine (S.writes o _ ho).mono ?_
  rintro e w2 ⟨rfl, hq⟩
  replace hO := hO.later hq
  replace hb := hb.trans (hq.mono hb.size)
  clear hq
  cases hw : writesM o with
  | false =>
    go_wp2_with fail
    go_ret
    exact ⟨rfl, hb⟩
  | true =>
  go_wp2_with (first
    | (refine wpList_build_has (by rfl) 35 #[] rfl (baseC base0) (by simpa using base_built) ?_))
  refine (S.all base0 ao c l _ base0_ok (h.later hb) hl (by omega)).mono ?_
  rintro e w3 ⟨ro, rc, rfl, _, hq⟩
  replace hO := hO.later hq
  replace hb := hb.trans (hq.mono hb.size)
  clear hq
  have hB0 := all_ok base0_ok l hl
  generalize (allM base0 l).1 = B at *
  obtain ⟨w4, hw4, hB, hq⟩ := base_var w3 B
  replace hO := hO.later hq
  replace hb := hb.trans (hq.mono hb.size)
  clear hq
  go_wp2_with (first
    | (refine wpList_alloc_has (by rfl) 35 rfl (baseC base0) base_zero ?_)
    | (refine wpList_store_to (by rfl) 35 _ _ rfl w3.heap.size rfl (baseC B) rfl 35 (baseC base0) (base_size _) rfl (base_one _) ?hg w4 ?hW ?_; (case hg => exact Has.new _ _ _); (case hW => exact hw4); clear hw4; generalize w3.heap.size = gb at *)
    | (refine wpList_load_has (by rfl) 35 _ rfl (gb) rfl 35 (baseC (B)) _ Try.underlying35 rfl (base_size _) ?hg ?_; (case hg => first | exact hB))
    | (refine wpList_load_has (by rfl) 42 _ rfl (w.heap.size) rfl 42 (opC (o)) _ Try.underlying42 rfl (op_size _) ?hg ?_; (case hg => first | exact hO)))
  refine (S.do' B o _ hB0 ho).mono ?_
  rintro e w5 ⟨rfl, hq⟩
  replace hO := hO.later hq
  replace hb := hb.trans (hq.mono hb.size)
  clear hq hB
  have hC0 := do_ok hB0 ho
  have htw : doM (doM B o).1 o = ((doM B o).1, (doM B o).2) := do_twice (b := B) hw
  have hsd := seen_do (b := B) hw
  generalize (doM B o).2 = r at *
  generalize (doM B o).1 = C at *
  obtain ⟨w6, hw6, hn6, hC, hr, hq⟩ := do_vars w5 C r
  replace hO := hO.later hq
  replace hb := hb.trans (hq.mono hb.size)
  clear hq
  go_wp2_with (first
    | (refine wpList_alloc_has (by rfl) 35 rfl (baseC base0) base_zero ?_)
    | (refine wpList_alloc_has (by rfl) 30 rfl (resC res0) res_zero ?_; rw [alloc_size])
    | (refine wpList_store_has (by rfl) 35 _ _ rfl w5.heap.size rfl (baseC C) rfl 35 (baseC base0) (base_size _) rfl (base_one _) ?hg ?_; (case hg => exact (Has.new _ _ _).alloc _))
    | (refine wpList_store_to (by rfl) 30 _ _ rfl (w5.heap.size + 1) rfl (resC r) rfl 30 (resC res0) (res_size _) rfl (res_one _) ?hg w6 ?hW ?_; (case hg => exact hn6); (case hW => exact hw6))
    | (refine wpList_load_has (by rfl) 35 _ rfl (w5.heap.size) rfl 35 (baseC (C)) _ Try.underlying35 rfl (base_size _) ?hg ?_; (case hg => first | exact hC))
    | (refine wpList_load_has (by rfl) 42 _ rfl (w.heap.size) rfl 42 (opC (o)) _ Try.underlying42 rfl (op_size _) ?hg ?_; (case hg => first | exact hO)))
  refine (S.do' C o _ hC0.1 ho).mono ?_
  rintro e w7 ⟨rfl, hq⟩
  replace hO := hO.later hq
  replace hC := hC.later hq
  replace hr := hr.later hq
  replace hb := hb.trans (hq.mono hb.size)
  clear hq hw6 hn6
  generalize w5.heap.size = gc at *
  rw [htw]
  obtain ⟨w8, hw8, hn8, hD, hs, hq⟩ := do_vars w7 C r
  replace hO := hO.later hq
  replace hC := hC.later hq
  replace hr := hr.later hq
  replace hb := hb.trans (hq.mono hb.size)
  clear hq
  go_wp2_with (first
    | (refine wpList_alloc_has (by rfl) 35 rfl (baseC base0) base_zero ?_)
    | (refine wpList_alloc_has (by rfl) 30 rfl (resC res0) res_zero ?_; rw [alloc_size])
    | (refine wpList_store_has (by rfl) 35 _ _ rfl w7.heap.size rfl (baseC C) rfl 35 (baseC base0) (base_size _) rfl (base_one _) ?hg ?_; (case hg => exact (Has.new _ _ _).alloc _))
    | (refine wpList_store_to (by rfl) 30 _ _ rfl (w7.heap.size + 1) rfl (resC r) rfl 30 (resC res0) (res_size _) rfl (res_one _) ?hg w8 ?hW ?_; (case hg => exact hn8); (case hW => exact hw8))
    | (refine wpList_load_has (by rfl) 35 _ rfl (gc) rfl 35 (baseC (C)) _ Try.underlying35 rfl (base_size _) ?hg ?_; (case hg => first | exact hC))
    | (refine wpList_load_has (by rfl) 42 _ rfl (w.heap.size) rfl 42 (opC (o)) _ Try.underlying42 rfl (op_size _) ?hg ?_; (case hg => first | exact hO)))
  refine (S.seen C o _ hC0.1 ho).mono ?_
  rintro e w9 ⟨rfl, hq⟩
  replace hO := hO.later hq
  replace hC := hC.later hq
  replace hr := hr.later hq
  replace hD := hD.later hq
  replace hs := hs.later hq
  replace hb := hb.trans (hq.mono hb.size)
  clear hq hw8 hn8
  generalize w7.heap.size = gd at *
  rw [hsd]
  obtain ⟨w10, hw10, hp, hq⟩ := res_var w9 r
  replace hO := hO.later hq
  replace hC := hC.later hq
  replace hr := hr.later hq
  replace hD := hD.later hq
  replace hs := hs.later hq
  replace hb := hb.trans (hq.mono hb.size)
  clear hq
  have q1 := (hO.cell 1).trans (show (opC o)[1]? = some (.int .u32 (o.seq : Int)) from rfl)
  have e1 := fun W => neq_base C hC0.1 W
  have e2 := fun W => neq_res r hC0.2.1 hC0.2.2 W
  have hsq := ho.seq
  by_cases hmax : o.seq = 4294967295
  · rw [hmax] at q1
    go_wp2_with (first
      | (refine wpList_alloc_has (by rfl) 30 rfl (resC res0) res_zero ?_)
      | (refine wpList_store_to (by rfl) 30 _ _ rfl w9.heap.size rfl (resC r) rfl 30 (resC res0) (res_size _) rfl (res_one _) ?hg w10 ?hW ?_; (case hg => exact Has.new _ _ _); (case hW => exact hw10); clear hw10; generalize w9.heap.size = gp at *)
      | (refine wpList_load_has (by rfl) 35 _ rfl (gc) rfl 35 (baseC (C)) _ Try.underlying35 rfl (base_size _) ?hg ?_; (case hg => first | exact hC))
      | (refine wpList_load_has (by rfl) 35 _ rfl (gd) rfl 35 (baseC (C)) _ Try.underlying35 rfl (base_size _) ?hg ?_; (case hg => first | exact hD))
      | (refine wpList_load_has (by rfl) 30 _ rfl (gc + 1) rfl 30 (resC (r)) _ Try.underlying30 rfl (res_size _) ?hg ?_; (case hg => first | exact hr))
      | (refine wpList_load_has (by rfl) 30 _ rfl (gd + 1) rfl 30 (resC (r)) _ Try.underlying30 rfl (res_size _) ?hg ?_; (case hg => first | exact hs))
      | (refine wpList_load_has (by rfl) 30 _ rfl (gp) rfl 30 (resC (r)) _ Try.underlying30 rfl (res_size _) ?hg ?_; (case hg => first | exact hp))
      | (refine wpList_bin_agg (by rfl) .neq 35 _ _ _ rfl (baseC C) (baseC C) rfl rfl (.bool false) guard_base ?hg ?_; (case hg => exact e1 _))
      | (refine wpList_bin_agg (by rfl) .neq 30 _ _ _ rfl (resC r) (resC r) rfl rfl (.bool false) guard_res ?hg ?_; (case hg => exact e2 _)))
    go_ret
    exact ⟨rfl, hb⟩
  have hmI : ((o.seq : Int) == 4294967295) = false := by rw [beq_eq_false_iff_ne]; omega
  have hmJ : (o.seq : Int) < 4294967295 := by omega
  have hwr : IntKind.u32.wrap ((o.seq : Int) + 1) = (o.seq : Int) + 1 := by
    simp [IntKind.wrap, IntKind.bits, IntKind.signed]
    omega
  have hgl := hO.lt
  obtain ⟨w11, hw11, hL, hq⟩ := op_var w10 o
  have hO1 := hO.later hq
  have hC1 := hC.later hq
  have hb1 := hb.trans (hq.mono hb.size)
  have hgc := hC.lt
  have q2 := (hO1.cell 1).trans (show (opC o)[1]? = some (.int .u32 (o.seq : Int)) from rfl)
  have q3 := (hL.cell 1).trans (show (opC o)[1]? = some (.int .u32 (o.seq : Int)) from rfl)
  have f3 := hL.free 1
  obtain ⟨w12, hw12⟩ : ∃ W, w11.setCell ⟨w10.heap.size, 1, none⟩ (.int .u32 ((o.seq : Int) + 1)) = W := ⟨_, rfl⟩
  have hL2 : Has w12 w10.heap.size 42 (opC { o with seq := o.seq + 1 }) := hw12 ▸ hL.set 1 _
  have hO2 : Has w12 w.heap.size 42 (opC o) := hw12 ▸ hO1.set_other (a := ⟨w10.heap.size, 1, none⟩) (show w.heap.size ≠ w10.heap.size by omega) _
  have hC2 : Has w12 gc 35 (baseC C) := hw12 ▸ hC1.set_other (a := ⟨w10.heap.size, 1, none⟩) (show gc ≠ w10.heap.size by omega) _
  have hb2 : Below w.heap.size w w12 := hw12 ▸ hb1.setCell (show w.heap.size ≤ (⟨w10.heap.size, 1, none⟩ : Addr).block by show w.heap.size ≤ w10.heap.size; omega) _
  clear hq
  go_wp2_with (first
    | (refine wpList_alloc_has (by rfl) 30 rfl (resC res0) res_zero ?_)
    | (refine wpList_store_to (by rfl) 30 _ _ rfl w9.heap.size rfl (resC r) rfl 30 (resC res0) (res_size _) rfl (res_one _) ?hg w10 ?hW ?_; (case hg => exact Has.new _ _ _); (case hW => exact hw10); clear hw10; generalize w9.heap.size = gp at *)
    | (refine wpList_load_has (by rfl) 35 _ rfl (gc) rfl 35 (baseC (C)) _ Try.underlying35 rfl (base_size _) ?hg ?_; (case hg => first | exact hC | exact hC2))
    | (refine wpList_load_has (by rfl) 35 _ rfl (gd) rfl 35 (baseC (C)) _ Try.underlying35 rfl (base_size _) ?hg ?_; (case hg => first | exact hD))
    | (refine wpList_load_has (by rfl) 30 _ rfl (gc + 1) rfl 30 (resC (r)) _ Try.underlying30 rfl (res_size _) ?hg ?_; (case hg => first | exact hr))
    | (refine wpList_load_has (by rfl) 30 _ rfl (gd + 1) rfl 30 (resC (r)) _ Try.underlying30 rfl (res_size _) ?hg ?_; (case hg => first | exact hs))
    | (refine wpList_load_has (by rfl) 30 _ rfl (gp) rfl 30 (resC (r)) _ Try.underlying30 rfl (res_size _) ?hg ?_; (case hg => first | exact hp))
    | (refine wpList_load_has (by rfl) 42 _ rfl (w.heap.size) rfl 42 (opC (o)) _ Try.underlying42 rfl (op_size _) ?hg ?_; (case hg => first | exact hO))
    | (refine wpList_load_has (by rfl) 42 _ rfl (w10.heap.size) rfl 42 (opC ({ o with seq := o.seq + 1 })) _ Try.underlying42 rfl (op_size _) ?hg ?_; (case hg => first | exact hL2))
    | (refine wpList_bin_agg (by rfl) .neq 35 _ _ _ rfl (baseC C) (baseC C) rfl rfl (.bool false) guard_base ?hg ?_; (case hg => exact e1 _))
    | (refine wpList_bin_agg (by rfl) .neq 30 _ _ _ rfl (resC r) (resC r) rfl rfl (.bool false) guard_res ?hg ?_; (case hg => exact e2 _))
    | (refine wpList_alloc_has (by rfl) 42 rfl (opC op0) zop_zero ?_)
    | (refine wpList_store_to (by rfl) 42 _ _ rfl w10.heap.size rfl (opC o) rfl 42 (opC op0) (op_size _) rfl (op_one _) ?hg w11 ?hW ?_; (case hg => exact Has.new _ _ _); (case hW => exact hw11); clear hw11))
  have hlo : OpOk { o with seq := o.seq + 1 } := ⟨ho.client, by show o.seq + 1 < _; omega, ho.kind, ho.obj, ho.pos, ho.data⟩
  refine (S.do' C { o with seq := o.seq + 1 } _ hC0.1 hlo).mono ?_
  rintro e w13 ⟨rfl, hq⟩
  replace hO2 := hO2.later hq
  replace hb2 := hb2.trans (hq.mono hb2.size)
  clear hq
  have hE0 := (do_ok hC0.1 hlo).1
  have hlt := do_later (c := C) hw
  generalize (doM C { o with seq := o.seq + 1 }).2 = t at *
  generalize (doM C { o with seq := o.seq + 1 }).1 = E at *
  obtain ⟨w14, hw14, hn14, hE, _, hq⟩ := do_vars w13 E t
  replace hO2 := hO2.later hq
  replace hb2 := hb2.trans (hq.mono hb2.size)
  clear hq
  go_wp2_with (first
    | (refine wpList_alloc_has (by rfl) 35 rfl (baseC base0) base_zero ?_)
    | (refine wpList_alloc_has (by rfl) 30 rfl (resC res0) res_zero ?_; rw [alloc_size])
    | (refine wpList_store_has (by rfl) 35 _ _ rfl w13.heap.size rfl (baseC E) rfl 35 (baseC base0) (base_size _) rfl (base_one _) ?hg ?_; (case hg => exact (Has.new _ _ _).alloc _))
    | (refine wpList_store_to (by rfl) 30 _ _ rfl (w13.heap.size + 1) rfl (resC t) rfl 30 (resC res0) (res_size _) rfl (res_one _) ?hg w14 ?hW ?_; (case hg => exact hn14); (case hW => exact hw14))
    | (refine wpList_load_has (by rfl) 35 _ rfl (w13.heap.size) rfl 35 (baseC (E)) _ Try.underlying35 rfl (base_size _) ?hg ?_; (case hg => first | exact hE))
    | (refine wpList_load_has (by rfl) 42 _ rfl (w.heap.size) rfl 42 (opC (o)) _ Try.underlying42 rfl (op_size _) ?hg ?_; (case hg => first | exact hO2)))
  refine (S.do' E o _ hE0 ho).mono ?_
  rintro e w15 ⟨rfl, hq⟩
  rw [hlt]
  replace hE := hE.later hq
  replace hb2 := hb2.trans (hq.mono hb2.size)
  clear hq hw14 hn14
  generalize w13.heap.size = ge at *
  obtain ⟨w16, hw16, hn16, hF, ht, hq⟩ := do_vars w15 E ⟨3, []⟩
  replace hE := hE.later hq
  replace hb2 := hb2.trans (hq.mono hb2.size)
  clear hq
  have t0 : w16.cell? ⟨w15.heap.size + 1, 0, none⟩ = some (.int .u8 3) := (ht.cell 0).trans rfl
  have e3 := fun W => eq_base E hE0 W
  go_wp2_with (first
    | (refine wpList_alloc_has (by rfl) 35 rfl (baseC base0) base_zero ?_)
    | (refine wpList_alloc_has (by rfl) 30 rfl (resC res0) res_zero ?_; rw [alloc_size])
    | (refine wpList_store_has (by rfl) 35 _ _ rfl w15.heap.size rfl (baseC E) rfl 35 (baseC base0) (base_size _) rfl (base_one _) ?hg ?_; (case hg => exact (Has.new _ _ _).alloc _))
    | (refine wpList_store_to (by rfl) 30 _ _ rfl (w15.heap.size + 1) rfl (resC (⟨3, []⟩ : ResV)) rfl 30 (resC res0) (res_size _) rfl (res_one _) ?hg w16 ?hW ?_; (case hg => exact hn16); (case hW => exact hw16))
    | (refine wpList_load_has (by rfl) 35 _ rfl (w15.heap.size) rfl 35 (baseC (E)) _ Try.underlying35 rfl (base_size _) ?hg ?_; (case hg => first | exact hF))
    | (refine wpList_load_has (by rfl) 35 _ rfl (ge) rfl 35 (baseC (E)) _ Try.underlying35 rfl (base_size _) ?hg ?_; (case hg => first | exact hE))
    | (refine wpList_bin_agg (by rfl) .eql 35 _ _ _ rfl (baseC E) (baseC E) rfl rfl (.bool true) guard_base ?hg ?_; (case hg => exact e3 _)))
  go_ret
  exact ⟨rfl, hb2⟩
end Go.Proofs.Ytjajfeplgilejaa
