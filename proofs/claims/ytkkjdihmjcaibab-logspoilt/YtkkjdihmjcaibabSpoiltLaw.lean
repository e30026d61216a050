/- LogSpoilt, walked. -/
import Derived.Test.YtkkjdihmjcaibabSpoiltFacts
import Derived.Test.YtkkjdihmjcaibabOwnConv
namespace Go.Proofs.Ytkkjdihmjcaibab
set_option linter.unusedSimpArgs false
set_option linter.unusedVariables false
set_option maxRecDepth 100000
open Go.RowKit

theorem byte_info : ∃ i, Try.prog.info? 5 = some i ∧ i.zero = some (.int .u8 0) ∧ i.size = 1 ∧ i.bytes = 1 := by
  have h : (Try.prog.info? 5).map (fun i => (i.zero, i.size, i.bytes)) = some (some (.int .u8 0), 1, 1) := by kernel_rfl
  cases hi : Try.prog.info? 5 with
  | none => rw [hi] at h; cases h
  | some i =>
    rw [hi] at h
    simp only [Option.map_some, Option.some.injEq, Prod.mk.injEq] at h
    exact ⟨i, rfl, h.1, h.2.1, h.2.2⟩
theorem made17 : (madeCells #[Value.int .u8 0] 17).toList = byV (List.replicate 17 0) := by kernel_rfl
def x17 : ObjV := ⟨true, List.replicate 17 0, [], [], []⟩
theorem x17_built : Try.prog.built 29 [(0, .bool true), (1, strV (List.replicate 17 0))] = some (objC x17) := by kernel_rfl
theorem grown_setCell (w : World) (a : Addr) (v : Value) : w.grownBy (w.setCell a v) (some a.block) := ⟨rfl, rfl, rfl, by simp, fun k _ hk => Below.heap_setCell w a v k (fun e => hk (by rw [e]))⟩

set_option maxHeartbeats 4000000 in
theorem spoilt_walk (ao : Option Addr) (c a : Nat) (l : List OpV) (o : OpV) (w : World) (h : Sl w ao c 6 (opR l)) (hl : ∀ x ∈ l, OpOk x) (ho : OpOk o) (ha : a < 256) :
    Calls Try.prog 3 #[.slice ao l.length c, .int .u8 (a : Int), .agg (opC o)] w fun e w' => e = .returned (.bool true) ∧ Below w.heap.size w w' := by
  obtain ⟨i0, hi, hz0, hz1, hz2⟩ := ent_info40
  have hle := h.op_le
  have hcap := h.cap
  obtain ⟨w0, hw0, hO, hb0⟩ := one_var w 25 (opC o)
  go_enter Try.func3, Try.ntmps3
  go_wp2_with fail
  refine (known_any _).mono ?_
  rintro e w1 ⟨rfl, hq⟩
  have hb := hb0.trans (hq.mono hb0.size)
  replace hO := hO.later hq
  clear hq hw0 hb0
  by_cases hlong : 20 < l.length
  · have hI : (20 : Int) < (l.length : Int) := by omega
    clear hlong
    go_wp2_with fail
    go_ret
    exact ⟨rfl, hb⟩
  have hI : ¬ ((20 : Int) < (l.length : Int)) := by omega
  have hl60 : l.length ≤ 60 := by omega
  have hlB : l.length ≤ 20 := by omega
  clear hlong
  go_wp2_with fail
  refine (row_any ao c 8 l _ (h.later hb) hl hl60 (by omega)).mono ?_
  rintro e w2 ⟨ro, rc, bo, bc, rfl, hS8, _, hD6, _, hq⟩
  replace hb := hb.trans (hq.mono hb.size)
  replace hO := hO.later hq
  have hogs := hO.lt
  have hDw := filter_writes l
  have hDo := filter_ok hl
  have hD60 : (l.filter writesM).length ≤ 20 := Nat.le_trans (filter_len l) hlB
  have hD60I : ((l.filter writesM).length : Int) ≤ 20 := by omega
  have hRS := rowState (q := 8 % 60 + 1) (D := l.filter writesM) (by omega) hDw hDo (by omega)
  clear hq
  generalize stOf (8 % 60 + 1) (l.filter writesM) = S at *
  have hq60 : 8 % 60 + 1 ≤ 60 := by omega
  have hq0 : 0 < 8 % 60 + 1 := by omega
  generalize 8 % 60 + 1 = q at *
  generalize l.filter writesM = D at *
  have hDc := hD6.op_le
  have hDcap := hD6.cap
  have hSo := hRS.ok
  have hSi : Hid _ := hRS.is'
  have hSf : Hid _ := hRS.fold
  have hSh : Hid _ := hRS.head
  have hSl : Hid _ := hRS.len
  have hSt : Hid _ := hRS.tail
  have hSb : Hid _ := hRS.base
  have hSe : Hid _ := hRS.eq
  clear hRS
  obtain ⟨w3, hw3, hX, hq⟩ := new_var w2 42 (stC st0 none 0) (stC S ro rc)
  replace hS8 := hS8.later hq
  replace hD6 := hD6.later hq
  replace hO := hO.later hq
  replace hb := hb.trans (hq.mono hb.size)
  clear hq
  have heo : EntOk ⟨50, 1, o⟩ := ⟨by show 50 < _; decide, by show 1 < _; decide, ho⟩
  by_cases h2 : D.length < 2
  · have h2I : (D.length : Int) < 2 := by omega
    go_wp2_with (first
      | (refine wpList_alloc_has (by rfl) 42 rfl (stC st0 none 0) st_zero ?_)
      | (refine wpList_store_to (by rfl) 42 _ _ rfl w2.heap.size rfl (stC S ro rc) rfl 42 (stC st0 none 0) (st_size _ _ _) (st_same _ _ _ _ _ _) (st_one _ _ _) ?hg w3 ?hW ?_; (case hg => exact Has.new _ _ _); (case hW => exact hw3); clear hw3; generalize w2.heap.size = gs at *)
      | fail)
    go_ret
    exact ⟨rfl, hb⟩
  have h2I : ¬ (D.length : Int) < 2 := by omega
  have hD2 : 2 ≤ D.length := by omega
  obtain ⟨l0, ol, hlog, hl0, hla⟩ := row_last (q := q) hD2
  rw [← hSe.out] at hlog hla
  have hlp : 0 < S.log.length := by have := hSl.out; omega
  have hl6 : S.log.length ≤ 6 := by have := hSl.out; omega
  replace hlog : Hid _ := hlog
  replace hla : Hid _ := hla
  cases ro with
  | none => have := hS8.nil rfl; have := hS8.ent_le; omega
  | some ad =>
  have hlg := hX.st_log
  have f48 := hX.free 48
  have hsz3 := hX.lt
  have hnews := hS8.cells
  have hll : (entF S.log).length = S.log.length * 8 := entF_len _
  have hb0 : w2.heap.size + 1 ≤ w3.heap.size := hsz3
  go_wp2_with (first
    | (refine wpList_alloc_has (by rfl) 42 rfl (stC st0 none 0) st_zero ?_)
    | (refine wpList_store_to (by rfl) 42 _ _ rfl w2.heap.size rfl (stC S (some ad) rc) rfl 42 (stC st0 none 0) (st_size _ _ _) (st_same _ _ _ _ _ _) (st_one _ _ _) ?hg w3 ?hW ?_; (case hg => exact Has.new _ _ _); (case hW => exact hw3); clear hw3)
    | (at_builtin; refine wpList_append_own_at _ rfl _ _ 40 rfl (w2.heap.size + 1) 39 i0 (.agg (entC ent0)) 8 40 Try.underlying40 hi hz0 hz1 hz2 rfl (by decide) _ 0 [] rfl (World.ownsRow_nil _ _ _ _) ad S.log.length rc (entF S.log) rfl hll hnews (entF_one _) (by unfold maxLen; omega) (by omega) hb0 ?_))
  intro v' w4 hown hgrow _ hat
  have hbg : Below w3.heap.size w3 w4 := (Below.refl w3.heap.size w3).grown hgrow (Nat.le_refl _) (fun k hk => by cases hk)
  obtain ⟨_, g, cap, rfl, hgB, hgl, hZ8⟩ := ents_own hown (by omega)
  replace hX := hX.later hbg
  replace hO := hO.later hbg
  replace hb := hb.trans (hbg.mono hb.size)
  clear hbg hgrow hat hlg f48 hnews hll hS8
  generalize w2.heap.size = gs at *
  have hlg := hX.st_log
  have f48 := hX.free 48
  have hX5 := hX.setLog S.log (some ⟨g, 0, none⟩) cap
  have hXS : withLog S S.log = S := rfl
  rw [hXS] at hX5
  have hgg : g ≠ gs := by omega
  have hO5 := hO.set_other (a := ⟨gs, 48, none⟩) (show w.heap.size ≠ gs by omega) (.slice (some ⟨g, 0, none⟩) S.log.length cap)
  have hZ5 := hZ8.cell_other (a := ⟨gs, 48, none⟩) (fun d hd => by obtain rfl := Option.some.inj hd; exact hgg) (.slice (some ⟨g, 0, none⟩) S.log.length cap)
  have hown5 := hown.kept (row := some gs) (grown_setCell _ ⟨gs, 48, none⟩ (.slice (some ⟨g, 0, none⟩) S.log.length cap)) (.inr (by intro e; exact hgg (Option.some.inj e)))
  have hb5 := hb.setCell (show w.heap.size ≤ (⟨gs, 48, none⟩ : Addr).block from by show w.heap.size ≤ gs; omega) (.slice (some ⟨g, 0, none⟩) S.log.length cap)
  obtain ⟨w5, hw5⟩ : ∃ W, w4.setCell ⟨gs, 48, none⟩ (.slice (some ⟨g, 0, none⟩) S.log.length cap) = W := ⟨_, rfl⟩
  rw [hw5] at hX5 hO5 hZ5 hown5 hb5
  have c48 := hX5.st_log
  obtain ⟨m, hm⟩ : ∃ m, m = l0.length := ⟨_, rfl⟩
  have hl0m : l0.length = m := hm.symm
  have hmn : Hid (S.log.length = m + 1) := by show _ = _; rw [hlog.out, List.length_append, List.length_singleton, hm]
  have hole : OpOk ol := (hSo.log ⟨q, D.length, ol⟩ (by rw [hlog.out]; simp)).op
  have hw5k : writesM ⟨ol.client, ol.seq, 5, ol.obj, ol.pos, ol.data⟩ = false := by
    unfold writesM
    simp
  have hq1 : 0 < q := hq0
  obtain ⟨r, hr⟩ : ∃ r, a % 6 = r := ⟨_, rfl⟩
  have hr6 : r = 0 ∨ r = 1 ∨ r = 2 ∨ r = 3 ∨ r = 4 ∨ r = 5 := by omega
  replace hr : Hid _ := hr
  clear hX hO hZ8 hown hb hm
  rcases hr6 with rfl | rfl | rfl | rfl | rfl | rfl
  · have hmI : (m : Int) < (S.log.length : Int) := by have := hmn.out; omega
    obtain ⟨n1, hn1⟩ : ∃ n1, D.length + 1 = n1 := ⟨_, rfl⟩
    replace hn1 : Hid _ := hn1
    have hgz : g ≠ gs := by omega
    have hcell : w5.cell? ⟨g, m * 8 + 1, none⟩ = some (.int .u32 (D.length : Int)) := (hown5.cellAt (m * 8 + 1) (by have := hmn.out; omega)).trans (by rw [hlog.out, ← hl0m]; exact entF_last l0 _ 1)
    have hfroz := hown5.frozenAt (m * 8 + 1)
    have hst := hown5.stored (m * 8 + 1) (.int .u32 (n1 : Int))
    obtain ⟨w6, hw6⟩ : ∃ W, w5.setCell ⟨g, m * 8 + 1, none⟩ (.int .u32 (n1 : Int)) = W := ⟨_, rfl⟩
    rw [hw6] at hst
    have hX6 := hw6 ▸ hX5.set_other (a := ⟨g, m * 8 + 1, none⟩) (show gs ≠ g from fun e => hgz e.symm) (.int .u32 (n1 : Int))
    have hO6 := hw6 ▸ hO5.set_other (a := ⟨g, m * 8 + 1, none⟩) (show w.heap.size ≠ g by omega) (.int .u32 (n1 : Int))
    have hb6 := hw6 ▸ hb5.setCell (show w.heap.size ≤ (⟨g, m * 8 + 1, none⟩ : Addr).block from by show w.heap.size ≤ g; omega) (.int .u32 (n1 : Int))
    have hown6 : w6.ownsRow (gs + 1) 39 8 (.slice (some ⟨g, 0, none⟩) S.log.length cap) S.log.length (entF (l0 ++ [⟨q, n1, ol⟩])) := by
      have := hst.1
      rw [← hl0m, congrArg entF hlog.out] at this
      rw [entF_set l0 ⟨q, D.length, ol⟩ (⟨q, n1, ol⟩) 1 (.int .u32 (n1 : Int)) rfl] at this
      exact this
    have hn1b : n1 < 1000 := by have := hn1.out; omega
    have hn1n : ¬ n1 = D.length - 1 + 1 := by have := hn1.out; omega
    have hyo' : EntOk ⟨q, n1, ol⟩ := ⟨by show q < _; omega, by show n1 < _; omega, hole⟩
    have hZ : Has w6 gs 42 (stC (withLog S (l0 ++ [(⟨q, n1, ol⟩ : EntV)])) (some ⟨g, 0, none⟩) cap) := by
      rw [stC_log S _ (by rw [List.length_append, List.length_singleton, hl0m]; exact hmn.out.symm)]
      exact hX6
    have hZ8 : Sl w6 (some ⟨g, 0, none⟩) cap 8 (entR (withLog S (l0 ++ [(⟨q, n1, ol⟩ : EntV)])).log) := by
      obtain ⟨_, g', cap', hv, _, _, hs⟩ := ents_own hown6 (by rw [List.length_append]; show 0 < _ + 1; omega)
      injection hv with h1 h2 h3
      rw [← h1, ← h3] at hs
      exact hs
    have hno : isM (withLog S (l0 ++ [(⟨q, n1, ol⟩ : EntV)])) = false := not_last (by rw [hla.out]; exact follows_no (.inr (.inl hn1n)))
    have hZo : StOk (withLog S (l0 ++ [(⟨q, n1, ol⟩ : EntV)])) := ⟨hSo.started, hSo.base, hSo.tail, (fun x hx => by
      rcases List.mem_append.1 hx with hx | hx
      · exact hSo.log x (by rw [hlog.out]; exact List.mem_append.2 (.inl hx))
      · rw [List.mem_singleton.1 hx]; exact hyo'), by show (l0 ++ [(⟨q, n1, ol⟩ : EntV)]).length ≤ 1000; rw [List.length_append, List.length_singleton]; omega⟩
    generalize withLog S (l0 ++ [(⟨q, n1, ol⟩ : EntV)]) = Z at *
    have hO := hO6
    have hb := hb6
    clear hO5 hZ5 hown5 hb5 hO6 hb6 hown6 hst
    go_wp2_with (first
      | (refine wpList_val (.int .u8 0) (by rfl) (run_rem_u8 _ _ _ _ rfl a 6 0 rfl rfl ha (by decide) hr.out) ?_)
      | (refine wpList_val (.int .i64 (m : Int)) (by rfl) (run_sub_i64' _ _ _ _ rfl S.log.length 1 m rfl rfl (by have := hmn.out; omega) (by omega)) ?_)
      | (refine wpList_val (.int .u32 (n1 : Int)) (by rfl) (run_add_u32 _ _ _ _ rfl D.length 1 n1 rfl rfl hn1.out (by have := hn1.out; omega)) ?_)
      | (refine wpList_load_has (by rfl) 42 _ rfl (gs) rfl 42 (stC Z (some ⟨g, 0, none⟩) cap) _ Try.underlying42 rfl (st_size _ _ _) ?hg ?_; (case hg => exact hZ)))
    have hhd : Hid _ := not_head hno
    have had : Hid _ := not_add (e := ⟨50, 1, o⟩) hno
    have hct : Hid _ := not_cut (n := 0) hno
    have hup : Hid _ := not_upto (n := 0) hno
    have hfo : Hid _ := fold_no hno
    have hnoH : Hid _ := hno
    clear hno
    refine (head_any Z (some ⟨g, 0, none⟩) cap _ hZo hZ8).mono ?_
    rintro e wa ⟨rfl, hq⟩
    rw [hhd.out]
    replace hZ := hZ.later hq
    replace hZ8 := hZ8.later hq
    replace hO := hO.later hq
    replace hb := hb.trans (hq.mono hb.size)
    clear hq
    go_wp2_with (first
      | (refine wpList_load_has (by rfl) 42 _ rfl (gs) rfl 42 (stC Z (some ⟨g, 0, none⟩) cap) _ Try.underlying42 rfl (st_size _ _ _) ?hg ?_; (case hg => exact hZ))
      | (refine wpList_val (.int .u32 1) (by rfl) (run_add_u32 _ _ _ _ rfl 0 1 1 rfl rfl rfl (by decide)) ?_)
      | (refine wpList_load_has (by rfl) 25 _ rfl w.heap.size rfl 25 (opC o) _ Try.underlying25 rfl (op_size _) ?hg ?_; (case hg => exact hO))
      | (refine wpList_build_three (by rfl) 39 0 1 2 _ _ _ rfl (.int .u32 50) (.int .u32 1) (.agg (opC o)) rfl rfl rfl (entC ⟨50, 1, o⟩) (ent_built 50 1 _) ?_))
    refine (add_any Z (some ⟨g, 0, none⟩) cap ⟨50, 1, o⟩ _ hZo heo hZ8).mono ?_
    rintro e wb ⟨xo, xc, rfl, hG⟩
    rw [had.out]
    replace hZ := hZ.later hG.below
    replace hZ8 := hZ8.later hG.below
    replace hb := hb.trans (hG.below.mono hb.size)
    clear hG
    obtain ⟨wc, hwc, hT, hq⟩ := new_var wb 42 (stC st0 none 0) (stC st0 xo xc)
    replace hZ := hZ.later hq
    replace hZ8 := hZ8.later hq
    replace hb := hb.trans (hq.mono hb.size)
    clear hq hT
    go_wp2_with (first
      | (refine wpList_alloc_has (by rfl) 42 rfl (stC st0 none 0) st_zero ?_)
      | (refine wpList_store_to (by rfl) 42 _ _ rfl wb.heap.size rfl (stC st0 xo xc) rfl 42 (stC st0 none 0) (st_size _ _ _) (st_same _ _ _ _ _ _) (st_one _ _ _) ?hg wc ?hW ?_; (case hg => exact Has.new _ _ _); (case hW => exact hwc); clear hwc; generalize wb.heap.size = gt at *)
      | (refine wpList_load_has (by rfl) 42 _ rfl (gs) rfl 42 (stC Z (some ⟨g, 0, none⟩) cap) _ Try.underlying42 rfl (st_size _ _ _) ?hg ?_; (case hg => exact hZ)))
    refine (cut_any Z (some ⟨g, 0, none⟩) cap 0 _ hZo hZ8 (by decide)).mono ?_
    rintro e wd ⟨yo, yc, rfl, hG⟩
    rw [hct.out]
    replace hZ := hZ.later hG.below
    replace hZ8 := hZ8.later hG.below
    replace hb := hb.trans (hG.below.mono hb.size)
    clear hG
    obtain ⟨we, hwe, hT, hq⟩ := new_var wd 42 (stC st0 none 0) (stC st0 yo yc)
    replace hZ := hZ.later hq
    replace hZ8 := hZ8.later hq
    replace hb := hb.trans (hq.mono hb.size)
    clear hq hT
    go_wp2_with (first
      | (refine wpList_alloc_has (by rfl) 42 rfl (stC st0 none 0) st_zero ?_)
      | (refine wpList_store_to (by rfl) 42 _ _ rfl wd.heap.size rfl (stC st0 yo yc) rfl 42 (stC st0 none 0) (st_size _ _ _) (st_same _ _ _ _ _ _) (st_one _ _ _) ?hg we ?hW ?_; (case hg => exact Has.new _ _ _); (case hW => exact hwe); clear hwe; generalize wd.heap.size = gu at *)
      | (refine wpList_load_has (by rfl) 42 _ rfl (gs) rfl 42 (stC Z (some ⟨g, 0, none⟩) cap) _ Try.underlying42 rfl (st_size _ _ _) ?hg ?_; (case hg => exact hZ)))
    refine (upto_any Z (some ⟨g, 0, none⟩) cap 0 _ hZo hZ8 (by decide)).mono ?_
    rintro e wf ⟨rfl, hq⟩
    rw [hup.out]
    replace hZ := hZ.later hq
    replace hZ8 := hZ8.later hq
    replace hb := hb.trans (hq.mono hb.size)
    clear hq
    obtain ⟨wg, hwg, hU, hq⟩ := new_var wf 37 (baseC base0) (baseC base0)
    replace hZ := hZ.later hq
    replace hZ8 := hZ8.later hq
    replace hb := hb.trans (hq.mono hb.size)
    clear hq
    have e1 := fun W => eq_base base0 base0_ok W
    go_wp2_with (first
      | (refine wpList_alloc_has (by rfl) 37 rfl (baseC base0) base_zero ?_)
      | (refine wpList_store_to (by rfl) 37 _ _ rfl wf.heap.size rfl (baseC (base0)) rfl 37 (baseC base0) (base_size _) rfl (base_one _) ?hg wg ?hW ?_; (case hg => exact Has.new _ _ _); (case hW => exact hwg); clear hwg; generalize wf.heap.size = gb at *)
      | (refine wpList_load_has (by rfl) 42 _ rfl (gs) rfl 42 (stC Z (some ⟨g, 0, none⟩) cap) _ Try.underlying42 rfl (st_size _ _ _) ?hg ?_; (case hg => exact hZ)))
    refine (is_any Z (some ⟨g, 0, none⟩) cap _ hZo hZ8).mono ?_
    rintro e wh ⟨rfl, hq⟩
    rw [hnoH.out]
    replace hZ := hZ.later hq
    replace hZ8 := hZ8.later hq
    replace hU := hU.later hq
    replace hb := hb.trans (hq.mono hb.size)
    clear hq
    go_wp2_with (first
      | (refine wpList_load_has (by rfl) 37 _ rfl (gb) rfl 37 (baseC (base0)) _ Try.underlying37 rfl (base_size _) ?hg ?_; (case hg => exact hU))
      | (refine wpList_build_has (by rfl) 37 #[] rfl (baseC base0) (by simpa using base_built) ?_)
      | (refine wpList_bin_agg (by rfl) .eql 37 _ _ _ rfl (baseC base0) (baseC base0) rfl rfl (.bool true) guard_base ?hg ?_; (case hg => exact e1 _))
      | (refine wpList_load_has (by rfl) 42 _ rfl (gs) rfl 42 (stC Z (some ⟨g, 0, none⟩) cap) _ Try.underlying42 rfl (st_size _ _ _) ?hg ?_; (case hg => exact hZ)))
    refine (fold_any Z (some ⟨g, 0, none⟩) cap _ hZo hZ8).mono ?_
    rintro e wi ⟨rfl, hq⟩
    rw [hfo.out]
    replace hb := hb.trans (hq.mono hb.size)
    clear hq
    go_wp2_with (first
      | (refine wpList_build_has (by rfl) 37 #[] rfl (baseC base0) (by simpa using base_built) ?_)
      | (refine wpList_bin_agg (by rfl) .eql 37 _ _ _ rfl (baseC base0) (baseC base0) rfl rfl (.bool true) guard_base ?hg ?_; (case hg => exact e1 _)))
    go_ret
    exact ⟨rfl, hb⟩
  · have hmI : (m : Int) < (S.log.length : Int) := by have := hmn.out; omega
    obtain ⟨n1, hn1⟩ : ∃ n1, D.length + 1 = n1 := ⟨_, rfl⟩
    replace hn1 : Hid _ := hn1
    have hgz : g ≠ gs := by omega
    have hcell : w5.cell? ⟨g, m * 8 + 0, none⟩ = some (.int .u32 (q : Int)) := (hown5.cellAt (m * 8 + 0) (by have := hmn.out; omega)).trans (by rw [hlog.out, ← hl0m]; exact entF_last l0 _ 0)
    have hfroz := hown5.frozenAt (m * 8 + 0)
    have hst := hown5.stored (m * 8 + 0) (.int .u32 0)
    obtain ⟨w6, hw6⟩ : ∃ W, w5.setCell ⟨g, m * 8 + 0, none⟩ (.int .u32 0) = W := ⟨_, rfl⟩
    rw [hw6] at hst
    have hX6 := hw6 ▸ hX5.set_other (a := ⟨g, m * 8 + 0, none⟩) (show gs ≠ g from fun e => hgz e.symm) (.int .u32 0)
    have hO6 := hw6 ▸ hO5.set_other (a := ⟨g, m * 8 + 0, none⟩) (show w.heap.size ≠ g by omega) (.int .u32 0)
    have hb6 := hw6 ▸ hb5.setCell (show w.heap.size ≤ (⟨g, m * 8 + 0, none⟩ : Addr).block from by show w.heap.size ≤ g; omega) (.int .u32 0)
    have hown6 : w6.ownsRow (gs + 1) 39 8 (.slice (some ⟨g, 0, none⟩) S.log.length cap) S.log.length (entF (l0 ++ [⟨0, D.length, ol⟩])) := by
      have := hst.1
      rw [← hl0m, congrArg entF hlog.out] at this
      rw [entF_set l0 ⟨q, D.length, ol⟩ (⟨0, D.length, ol⟩) 0 (.int .u32 0) rfl] at this
      exact this
    simp only [Nat.add_zero] at hcell hfroz hw6
    have hqn : ¬ q ≤ 0 := by omega
    have hyo' : EntOk ⟨0, D.length, ol⟩ := ⟨by show 0 < _; decide, by show D.length < _; omega, hole⟩
    have hZ : Has w6 gs 42 (stC (withLog S (l0 ++ [(⟨0, D.length, ol⟩ : EntV)])) (some ⟨g, 0, none⟩) cap) := by
      rw [stC_log S _ (by rw [List.length_append, List.length_singleton, hl0m]; exact hmn.out.symm)]
      exact hX6
    have hZ8 : Sl w6 (some ⟨g, 0, none⟩) cap 8 (entR (withLog S (l0 ++ [(⟨0, D.length, ol⟩ : EntV)])).log) := by
      obtain ⟨_, g', cap', hv, _, _, hs⟩ := ents_own hown6 (by rw [List.length_append]; show 0 < _ + 1; omega)
      injection hv with h1 h2 h3
      rw [← h1, ← h3] at hs
      exact hs
    have hno : isM (withLog S (l0 ++ [(⟨0, D.length, ol⟩ : EntV)])) = false := not_last (by rw [hla.out]; exact follows_no (.inr (.inr (.inl hqn))))
    have hZo : StOk (withLog S (l0 ++ [(⟨0, D.length, ol⟩ : EntV)])) := ⟨hSo.started, hSo.base, hSo.tail, (fun x hx => by
      rcases List.mem_append.1 hx with hx | hx
      · exact hSo.log x (by rw [hlog.out]; exact List.mem_append.2 (.inl hx))
      · rw [List.mem_singleton.1 hx]; exact hyo'), by show (l0 ++ [(⟨0, D.length, ol⟩ : EntV)]).length ≤ 1000; rw [List.length_append, List.length_singleton]; omega⟩
    generalize withLog S (l0 ++ [(⟨0, D.length, ol⟩ : EntV)]) = Z at *
    have hO := hO6
    have hb := hb6
    clear hO5 hZ5 hown5 hb5 hO6 hb6 hown6 hst
    go_wp2_with (first
      | (refine wpList_val (.int .u8 1) (by rfl) (run_rem_u8 _ _ _ _ rfl a 6 1 rfl rfl ha (by decide) hr.out) ?_)
      | (refine wpList_val (.int .i64 (m : Int)) (by rfl) (run_sub_i64' _ _ _ _ rfl S.log.length 1 m rfl rfl (by have := hmn.out; omega) (by omega)) ?_)
      | (refine wpList_val (.int .u32 (n1 : Int)) (by rfl) (run_add_u32 _ _ _ _ rfl D.length 1 n1 rfl rfl hn1.out (by have := hn1.out; omega)) ?_)
      | (refine wpList_load_has (by rfl) 42 _ rfl (gs) rfl 42 (stC Z (some ⟨g, 0, none⟩) cap) _ Try.underlying42 rfl (st_size _ _ _) ?hg ?_; (case hg => exact hZ)))
    have hhd : Hid _ := not_head hno
    have had : Hid _ := not_add (e := ⟨50, 1, o⟩) hno
    have hct : Hid _ := not_cut (n := 0) hno
    have hup : Hid _ := not_upto (n := 0) hno
    have hfo : Hid _ := fold_no hno
    have hnoH : Hid _ := hno
    clear hno
    refine (head_any Z (some ⟨g, 0, none⟩) cap _ hZo hZ8).mono ?_
    rintro e wa ⟨rfl, hq⟩
    rw [hhd.out]
    replace hZ := hZ.later hq
    replace hZ8 := hZ8.later hq
    replace hO := hO.later hq
    replace hb := hb.trans (hq.mono hb.size)
    clear hq
    go_wp2_with (first
      | (refine wpList_load_has (by rfl) 42 _ rfl (gs) rfl 42 (stC Z (some ⟨g, 0, none⟩) cap) _ Try.underlying42 rfl (st_size _ _ _) ?hg ?_; (case hg => exact hZ))
      | (refine wpList_val (.int .u32 1) (by rfl) (run_add_u32 _ _ _ _ rfl 0 1 1 rfl rfl rfl (by decide)) ?_)
      | (refine wpList_load_has (by rfl) 25 _ rfl w.heap.size rfl 25 (opC o) _ Try.underlying25 rfl (op_size _) ?hg ?_; (case hg => exact hO))
      | (refine wpList_build_three (by rfl) 39 0 1 2 _ _ _ rfl (.int .u32 50) (.int .u32 1) (.agg (opC o)) rfl rfl rfl (entC ⟨50, 1, o⟩) (ent_built 50 1 _) ?_))
    refine (add_any Z (some ⟨g, 0, none⟩) cap ⟨50, 1, o⟩ _ hZo heo hZ8).mono ?_
    rintro e wb ⟨xo, xc, rfl, hG⟩
    rw [had.out]
    replace hZ := hZ.later hG.below
    replace hZ8 := hZ8.later hG.below
    replace hb := hb.trans (hG.below.mono hb.size)
    clear hG
    obtain ⟨wc, hwc, hT, hq⟩ := new_var wb 42 (stC st0 none 0) (stC st0 xo xc)
    replace hZ := hZ.later hq
    replace hZ8 := hZ8.later hq
    replace hb := hb.trans (hq.mono hb.size)
    clear hq hT
    go_wp2_with (first
      | (refine wpList_alloc_has (by rfl) 42 rfl (stC st0 none 0) st_zero ?_)
      | (refine wpList_store_to (by rfl) 42 _ _ rfl wb.heap.size rfl (stC st0 xo xc) rfl 42 (stC st0 none 0) (st_size _ _ _) (st_same _ _ _ _ _ _) (st_one _ _ _) ?hg wc ?hW ?_; (case hg => exact Has.new _ _ _); (case hW => exact hwc); clear hwc; generalize wb.heap.size = gt at *)
      | (refine wpList_load_has (by rfl) 42 _ rfl (gs) rfl 42 (stC Z (some ⟨g, 0, none⟩) cap) _ Try.underlying42 rfl (st_size _ _ _) ?hg ?_; (case hg => exact hZ)))
    refine (cut_any Z (some ⟨g, 0, none⟩) cap 0 _ hZo hZ8 (by decide)).mono ?_
    rintro e wd ⟨yo, yc, rfl, hG⟩
    rw [hct.out]
    replace hZ := hZ.later hG.below
    replace hZ8 := hZ8.later hG.below
    replace hb := hb.trans (hG.below.mono hb.size)
    clear hG
    obtain ⟨we, hwe, hT, hq⟩ := new_var wd 42 (stC st0 none 0) (stC st0 yo yc)
    replace hZ := hZ.later hq
    replace hZ8 := hZ8.later hq
    replace hb := hb.trans (hq.mono hb.size)
    clear hq hT
    go_wp2_with (first
      | (refine wpList_alloc_has (by rfl) 42 rfl (stC st0 none 0) st_zero ?_)
      | (refine wpList_store_to (by rfl) 42 _ _ rfl wd.heap.size rfl (stC st0 yo yc) rfl 42 (stC st0 none 0) (st_size _ _ _) (st_same _ _ _ _ _ _) (st_one _ _ _) ?hg we ?hW ?_; (case hg => exact Has.new _ _ _); (case hW => exact hwe); clear hwe; generalize wd.heap.size = gu at *)
      | (refine wpList_load_has (by rfl) 42 _ rfl (gs) rfl 42 (stC Z (some ⟨g, 0, none⟩) cap) _ Try.underlying42 rfl (st_size _ _ _) ?hg ?_; (case hg => exact hZ)))
    refine (upto_any Z (some ⟨g, 0, none⟩) cap 0 _ hZo hZ8 (by decide)).mono ?_
    rintro e wf ⟨rfl, hq⟩
    rw [hup.out]
    replace hZ := hZ.later hq
    replace hZ8 := hZ8.later hq
    replace hb := hb.trans (hq.mono hb.size)
    clear hq
    obtain ⟨wg, hwg, hU, hq⟩ := new_var wf 37 (baseC base0) (baseC base0)
    replace hZ := hZ.later hq
    replace hZ8 := hZ8.later hq
    replace hb := hb.trans (hq.mono hb.size)
    clear hq
    have e1 := fun W => eq_base base0 base0_ok W
    go_wp2_with (first
      | (refine wpList_alloc_has (by rfl) 37 rfl (baseC base0) base_zero ?_)
      | (refine wpList_store_to (by rfl) 37 _ _ rfl wf.heap.size rfl (baseC (base0)) rfl 37 (baseC base0) (base_size _) rfl (base_one _) ?hg wg ?hW ?_; (case hg => exact Has.new _ _ _); (case hW => exact hwg); clear hwg; generalize wf.heap.size = gb at *)
      | (refine wpList_load_has (by rfl) 42 _ rfl (gs) rfl 42 (stC Z (some ⟨g, 0, none⟩) cap) _ Try.underlying42 rfl (st_size _ _ _) ?hg ?_; (case hg => exact hZ)))
    refine (is_any Z (some ⟨g, 0, none⟩) cap _ hZo hZ8).mono ?_
    rintro e wh ⟨rfl, hq⟩
    rw [hnoH.out]
    replace hZ := hZ.later hq
    replace hZ8 := hZ8.later hq
    replace hU := hU.later hq
    replace hb := hb.trans (hq.mono hb.size)
    clear hq
    go_wp2_with (first
      | (refine wpList_load_has (by rfl) 37 _ rfl (gb) rfl 37 (baseC (base0)) _ Try.underlying37 rfl (base_size _) ?hg ?_; (case hg => exact hU))
      | (refine wpList_build_has (by rfl) 37 #[] rfl (baseC base0) (by simpa using base_built) ?_)
      | (refine wpList_bin_agg (by rfl) .eql 37 _ _ _ rfl (baseC base0) (baseC base0) rfl rfl (.bool true) guard_base ?hg ?_; (case hg => exact e1 _))
      | (refine wpList_load_has (by rfl) 42 _ rfl (gs) rfl 42 (stC Z (some ⟨g, 0, none⟩) cap) _ Try.underlying42 rfl (st_size _ _ _) ?hg ?_; (case hg => exact hZ)))
    refine (fold_any Z (some ⟨g, 0, none⟩) cap _ hZo hZ8).mono ?_
    rintro e wi ⟨rfl, hq⟩
    rw [hfo.out]
    replace hb := hb.trans (hq.mono hb.size)
    clear hq
    go_wp2_with (first
      | (refine wpList_build_has (by rfl) 37 #[] rfl (baseC base0) (by simpa using base_built) ?_)
      | (refine wpList_bin_agg (by rfl) .eql 37 _ _ _ rfl (baseC base0) (baseC base0) rfl rfl (.bool true) guard_base ?hg ?_; (case hg => exact e1 _)))
    go_ret
    exact ⟨rfl, hb⟩
  · obtain ⟨j0, hj, hj0, hj1, hj2⟩ := byte_info
    go_wp2_with (first
      | (refine wpList_val (.int .u8 2) (by rfl) (run_rem_u8 _ _ _ _ rfl a 6 2 rfl rfl ha (by decide) hr.out) ?_)
      | (refine wpList_make_full _ rfl _ _ 45 rfl w5.heap.size 5 j0 (.int .u8 0) 1 Try.underlying45 hj hj0 hj1 _ _ _ _ 17 rfl rfl rfl rfl (by rw [hj2]; decide) (by unfold maxLen; omega) (Nat.le_refl _) ?_))
    intro w6 hownb hgrow
    have hbg : Below w5.heap.size w5 w6 := (Below.refl w5.heap.size w5).grown hgrow (Nat.le_refl _) (fun k hk => by cases hk)
    have hOB : OwnB w6 w5.heap.size (.slice (some ⟨w5.heap.size, 0, none⟩) 17 17) (List.replicate 17 0) := by
      unfold OwnB
      rw [← made17]
      exact hownb
    have hconv := hOB.conv
    have hX6 := hX5.later hbg
    have hZ6 := hZ5.later hbg
    have hO6 := hO5.later hbg
    have hb6 := hb5.trans (hbg.mono hb5.size)
    have ht6 : Hid (w6.there gs 6 (objC x17).size) := hX6.there 6 5 (show 6 + 5 ≤ 49 by omega)
    have hZ := hX6.putCells (objL x17) 6 (by show 6 + 5 ≤ 49; omega)
    rw [st_put6] at hZ
    have hZ8 := Sl.cells_other (k := gs) (fun d hd => by obtain rfl := Option.some.inj hd; exact hgg) (objL x17) 6 hZ6
    have hO7 := hO6.cells_other (k := gs) (show w.heap.size ≠ gs by omega) (objL x17) 6
    have hb7 := below_setCells hb6 (k := gs) (by omega) (objL x17) 6
    obtain ⟨w7, hw7⟩ : ∃ W, w6.setCells gs 6 (objC x17).toList = W := ⟨_, rfl⟩
    have hw7' : w6.setCells gs 6 (objL x17) = w7 := hw7
    rw [hw7'] at hZ hZ8 hO7 hb7
    have hno : isM ⟨S.started, S.base.setObj 1 x17, S.tail, S.log⟩ = false := is_not fun hh => by
      have h1 := ((isBase_is _).1 hh.2.2.1).1 1
      have h2 : isObjM x17 = true := h1
      cases h2
    have hBin := hSo.base
    have hx17 : ∀ i, ObjIn ((S.base.setObj 1 x17).obj i) := fun i => by
      show ObjIn (if i = 1 then x17 else S.base.obj i)
      split
      · exact ⟨by decide, by decide, by decide, by decide⟩
      · exact hBin.obj i
    have hZo : StOk ⟨S.started, S.base.setObj 1 x17, S.tail, S.log⟩ := ⟨hSo.started, ⟨hBin.seq, hBin.code, hBin.rdata, fun i => (hx17 i).data, fun i => (hx17 i).a0, fun i => (hx17 i).a1, fun i => (hx17 i).a2⟩, hSo.tail, hSo.log, hSo.len⟩
    have hZ8 : Sl w7 (some ⟨g, 0, none⟩) cap 8 (entR (⟨S.started, S.base.setObj 1 x17, S.tail, S.log⟩ : StV).log) := hZ8
    generalize (⟨S.started, S.base.setObj 1 x17, S.tail, S.log⟩ : StV) = Z at *
    have hO := hO7
    have hb := hb7
    have hcv : strV (List.replicate 17 0) = .string (mkS (List.replicate 17 0)) := rfl
    rw [← hcv] at hconv
    clear hw7' hX6 hO5 hZ5 hown5 hb5 hO6 hb6 hO7 hb7 hx17 hownb hgrow hbg hOB hcv hZ6
    generalize hs17 : strV (List.replicate 17 0) = s17 at *
    replace hs17 : Hid _ := hs17
    go_wp2_with (first
      | (refine wpList_build_two (by rfl) 29 0 1 _ _ rfl (.bool true) s17 rfl rfl (objC x17) (by rw [← hs17.out]; exact x17_built) ?_)
      | (refine wpList_store_mid' (by rfl) 29 _ _ rfl gs 6 (objC x17) rfl rfl ?hg (obj_size _) (obj_one _) ?_; (case hg => exact ht6.out); rw [hw7])
      | (refine wpList_load_has (by rfl) 42 _ rfl (gs) rfl 42 (stC Z (some ⟨g, 0, none⟩) cap) _ Try.underlying42 rfl (st_size _ _ _) ?hg ?_; (case hg => exact hZ)))
    have hhd : Hid _ := not_head hno
    have had : Hid _ := not_add (e := ⟨50, 1, o⟩) hno
    have hct : Hid _ := not_cut (n := 0) hno
    have hup : Hid _ := not_upto (n := 0) hno
    have hfo : Hid _ := fold_no hno
    have hnoH : Hid _ := hno
    clear hno
    refine (head_any Z (some ⟨g, 0, none⟩) cap _ hZo hZ8).mono ?_
    rintro e wa ⟨rfl, hq⟩
    rw [hhd.out]
    replace hZ := hZ.later hq
    replace hZ8 := hZ8.later hq
    replace hO := hO.later hq
    replace hb := hb.trans (hq.mono hb.size)
    clear hq
    go_wp2_with (first
      | (refine wpList_load_has (by rfl) 42 _ rfl (gs) rfl 42 (stC Z (some ⟨g, 0, none⟩) cap) _ Try.underlying42 rfl (st_size _ _ _) ?hg ?_; (case hg => exact hZ))
      | (refine wpList_val (.int .u32 1) (by rfl) (run_add_u32 _ _ _ _ rfl 0 1 1 rfl rfl rfl (by decide)) ?_)
      | (refine wpList_load_has (by rfl) 25 _ rfl w.heap.size rfl 25 (opC o) _ Try.underlying25 rfl (op_size _) ?hg ?_; (case hg => exact hO))
      | (refine wpList_build_three (by rfl) 39 0 1 2 _ _ _ rfl (.int .u32 50) (.int .u32 1) (.agg (opC o)) rfl rfl rfl (entC ⟨50, 1, o⟩) (ent_built 50 1 _) ?_))
    refine (add_any Z (some ⟨g, 0, none⟩) cap ⟨50, 1, o⟩ _ hZo heo hZ8).mono ?_
    rintro e wb ⟨xo, xc, rfl, hG⟩
    rw [had.out]
    replace hZ := hZ.later hG.below
    replace hZ8 := hZ8.later hG.below
    replace hb := hb.trans (hG.below.mono hb.size)
    clear hG
    obtain ⟨wc, hwc, hT, hq⟩ := new_var wb 42 (stC st0 none 0) (stC st0 xo xc)
    replace hZ := hZ.later hq
    replace hZ8 := hZ8.later hq
    replace hb := hb.trans (hq.mono hb.size)
    clear hq hT
    go_wp2_with (first
      | (refine wpList_alloc_has (by rfl) 42 rfl (stC st0 none 0) st_zero ?_)
      | (refine wpList_store_to (by rfl) 42 _ _ rfl wb.heap.size rfl (stC st0 xo xc) rfl 42 (stC st0 none 0) (st_size _ _ _) (st_same _ _ _ _ _ _) (st_one _ _ _) ?hg wc ?hW ?_; (case hg => exact Has.new _ _ _); (case hW => exact hwc); clear hwc; generalize wb.heap.size = gt at *)
      | (refine wpList_load_has (by rfl) 42 _ rfl (gs) rfl 42 (stC Z (some ⟨g, 0, none⟩) cap) _ Try.underlying42 rfl (st_size _ _ _) ?hg ?_; (case hg => exact hZ)))
    refine (cut_any Z (some ⟨g, 0, none⟩) cap 0 _ hZo hZ8 (by decide)).mono ?_
    rintro e wd ⟨yo, yc, rfl, hG⟩
    rw [hct.out]
    replace hZ := hZ.later hG.below
    replace hZ8 := hZ8.later hG.below
    replace hb := hb.trans (hG.below.mono hb.size)
    clear hG
    obtain ⟨we, hwe, hT, hq⟩ := new_var wd 42 (stC st0 none 0) (stC st0 yo yc)
    replace hZ := hZ.later hq
    replace hZ8 := hZ8.later hq
    replace hb := hb.trans (hq.mono hb.size)
    clear hq hT
    go_wp2_with (first
      | (refine wpList_alloc_has (by rfl) 42 rfl (stC st0 none 0) st_zero ?_)
      | (refine wpList_store_to (by rfl) 42 _ _ rfl wd.heap.size rfl (stC st0 yo yc) rfl 42 (stC st0 none 0) (st_size _ _ _) (st_same _ _ _ _ _ _) (st_one _ _ _) ?hg we ?hW ?_; (case hg => exact Has.new _ _ _); (case hW => exact hwe); clear hwe; generalize wd.heap.size = gu at *)
      | (refine wpList_load_has (by rfl) 42 _ rfl (gs) rfl 42 (stC Z (some ⟨g, 0, none⟩) cap) _ Try.underlying42 rfl (st_size _ _ _) ?hg ?_; (case hg => exact hZ)))
    refine (upto_any Z (some ⟨g, 0, none⟩) cap 0 _ hZo hZ8 (by decide)).mono ?_
    rintro e wf ⟨rfl, hq⟩
    rw [hup.out]
    replace hZ := hZ.later hq
    replace hZ8 := hZ8.later hq
    replace hb := hb.trans (hq.mono hb.size)
    clear hq
    obtain ⟨wg, hwg, hU, hq⟩ := new_var wf 37 (baseC base0) (baseC base0)
    replace hZ := hZ.later hq
    replace hZ8 := hZ8.later hq
    replace hb := hb.trans (hq.mono hb.size)
    clear hq
    have e1 := fun W => eq_base base0 base0_ok W
    go_wp2_with (first
      | (refine wpList_alloc_has (by rfl) 37 rfl (baseC base0) base_zero ?_)
      | (refine wpList_store_to (by rfl) 37 _ _ rfl wf.heap.size rfl (baseC (base0)) rfl 37 (baseC base0) (base_size _) rfl (base_one _) ?hg wg ?hW ?_; (case hg => exact Has.new _ _ _); (case hW => exact hwg); clear hwg; generalize wf.heap.size = gb at *)
      | (refine wpList_load_has (by rfl) 42 _ rfl (gs) rfl 42 (stC Z (some ⟨g, 0, none⟩) cap) _ Try.underlying42 rfl (st_size _ _ _) ?hg ?_; (case hg => exact hZ)))
    refine (is_any Z (some ⟨g, 0, none⟩) cap _ hZo hZ8).mono ?_
    rintro e wh ⟨rfl, hq⟩
    rw [hnoH.out]
    replace hZ := hZ.later hq
    replace hZ8 := hZ8.later hq
    replace hU := hU.later hq
    replace hb := hb.trans (hq.mono hb.size)
    clear hq
    go_wp2_with (first
      | (refine wpList_load_has (by rfl) 37 _ rfl (gb) rfl 37 (baseC (base0)) _ Try.underlying37 rfl (base_size _) ?hg ?_; (case hg => exact hU))
      | (refine wpList_build_has (by rfl) 37 #[] rfl (baseC base0) (by simpa using base_built) ?_)
      | (refine wpList_bin_agg (by rfl) .eql 37 _ _ _ rfl (baseC base0) (baseC base0) rfl rfl (.bool true) guard_base ?hg ?_; (case hg => exact e1 _))
      | (refine wpList_load_has (by rfl) 42 _ rfl (gs) rfl 42 (stC Z (some ⟨g, 0, none⟩) cap) _ Try.underlying42 rfl (st_size _ _ _) ?hg ?_; (case hg => exact hZ)))
    refine (fold_any Z (some ⟨g, 0, none⟩) cap _ hZo hZ8).mono ?_
    rintro e wi ⟨rfl, hq⟩
    rw [hfo.out]
    replace hb := hb.trans (hq.mono hb.size)
    clear hq
    go_wp2_with (first
      | (refine wpList_build_has (by rfl) 37 #[] rfl (baseC base0) (by simpa using base_built) ?_)
      | (refine wpList_bin_agg (by rfl) .eql 37 _ _ _ rfl (baseC base0) (baseC base0) rfl rfl (.bool true) guard_base ?hg ?_; (case hg => exact e1 _)))
    go_ret
    exact ⟨rfl, hb⟩
  · have s0 := hX5.st_started
    have f0 := hX5.free 0
    have hZ := hX5.set 0 (.int .u32 ((61 : Nat) : Int))
    rw [st_set0] at hZ
    have hZ8 := hZ5.cell_other (a := ⟨gs, 0, none⟩) (fun d hd => by obtain rfl := Option.some.inj hd; exact hgg) (.int .u32 ((61 : Nat) : Int))
    have hO6 := hO5.set_other (a := ⟨gs, 0, none⟩) (show w.heap.size ≠ gs by omega) (.int .u32 ((61 : Nat) : Int))
    have hb6 := hb5.setCell (show w.heap.size ≤ (⟨gs, 0, none⟩ : Addr).block from by show w.heap.size ≤ gs; omega) (.int .u32 ((61 : Nat) : Int))
    obtain ⟨w6, hw6⟩ : ∃ W, w5.setCell ⟨gs, 0, none⟩ (.int .u32 61) = W := ⟨_, rfl⟩
    have hw6' : w5.setCell ⟨gs, 0, none⟩ (.int .u32 ((61 : Nat) : Int)) = w6 := hw6
    rw [hw6'] at hZ hZ8 hO6 hb6
    have hno : isM ⟨61, S.base, S.tail, S.log⟩ = false := is_not fun hh => by have : 61 ≤ 60 := hh.1; omega
    have hZo : StOk ⟨61, S.base, S.tail, S.log⟩ := ⟨by show 61 < _; decide, hSo.base, hSo.tail, hSo.log, hSo.len⟩
    have hZ8 : Sl w6 (some ⟨g, 0, none⟩) cap 8 (entR (⟨61, S.base, S.tail, S.log⟩ : StV).log) := hZ8
    generalize (⟨61, S.base, S.tail, S.log⟩ : StV) = Z at *
    have hO := hO6
    have hb := hb6
    clear hw6' hO5 hZ5 hown5 hb5 hO6 hb6
    go_wp2_with (first
      | (refine wpList_val (.int .u8 3) (by rfl) (run_rem_u8 _ _ _ _ rfl a 6 3 rfl rfl ha (by decide) hr.out) ?_)
      | (refine wpList_load_has (by rfl) 42 _ rfl (gs) rfl 42 (stC Z (some ⟨g, 0, none⟩) cap) _ Try.underlying42 rfl (st_size _ _ _) ?hg ?_; (case hg => exact hZ)))
    have hhd : Hid _ := not_head hno
    have had : Hid _ := not_add (e := ⟨50, 1, o⟩) hno
    have hct : Hid _ := not_cut (n := 0) hno
    have hup : Hid _ := not_upto (n := 0) hno
    have hfo : Hid _ := fold_no hno
    have hnoH : Hid _ := hno
    clear hno
    refine (head_any Z (some ⟨g, 0, none⟩) cap _ hZo hZ8).mono ?_
    rintro e wa ⟨rfl, hq⟩
    rw [hhd.out]
    replace hZ := hZ.later hq
    replace hZ8 := hZ8.later hq
    replace hO := hO.later hq
    replace hb := hb.trans (hq.mono hb.size)
    clear hq
    go_wp2_with (first
      | (refine wpList_load_has (by rfl) 42 _ rfl (gs) rfl 42 (stC Z (some ⟨g, 0, none⟩) cap) _ Try.underlying42 rfl (st_size _ _ _) ?hg ?_; (case hg => exact hZ))
      | (refine wpList_val (.int .u32 1) (by rfl) (run_add_u32 _ _ _ _ rfl 0 1 1 rfl rfl rfl (by decide)) ?_)
      | (refine wpList_load_has (by rfl) 25 _ rfl w.heap.size rfl 25 (opC o) _ Try.underlying25 rfl (op_size _) ?hg ?_; (case hg => exact hO))
      | (refine wpList_build_three (by rfl) 39 0 1 2 _ _ _ rfl (.int .u32 50) (.int .u32 1) (.agg (opC o)) rfl rfl rfl (entC ⟨50, 1, o⟩) (ent_built 50 1 _) ?_))
    refine (add_any Z (some ⟨g, 0, none⟩) cap ⟨50, 1, o⟩ _ hZo heo hZ8).mono ?_
    rintro e wb ⟨xo, xc, rfl, hG⟩
    rw [had.out]
    replace hZ := hZ.later hG.below
    replace hZ8 := hZ8.later hG.below
    replace hb := hb.trans (hG.below.mono hb.size)
    clear hG
    obtain ⟨wc, hwc, hT, hq⟩ := new_var wb 42 (stC st0 none 0) (stC st0 xo xc)
    replace hZ := hZ.later hq
    replace hZ8 := hZ8.later hq
    replace hb := hb.trans (hq.mono hb.size)
    clear hq hT
    go_wp2_with (first
      | (refine wpList_alloc_has (by rfl) 42 rfl (stC st0 none 0) st_zero ?_)
      | (refine wpList_store_to (by rfl) 42 _ _ rfl wb.heap.size rfl (stC st0 xo xc) rfl 42 (stC st0 none 0) (st_size _ _ _) (st_same _ _ _ _ _ _) (st_one _ _ _) ?hg wc ?hW ?_; (case hg => exact Has.new _ _ _); (case hW => exact hwc); clear hwc; generalize wb.heap.size = gt at *)
      | (refine wpList_load_has (by rfl) 42 _ rfl (gs) rfl 42 (stC Z (some ⟨g, 0, none⟩) cap) _ Try.underlying42 rfl (st_size _ _ _) ?hg ?_; (case hg => exact hZ)))
    refine (cut_any Z (some ⟨g, 0, none⟩) cap 0 _ hZo hZ8 (by decide)).mono ?_
    rintro e wd ⟨yo, yc, rfl, hG⟩
    rw [hct.out]
    replace hZ := hZ.later hG.below
    replace hZ8 := hZ8.later hG.below
    replace hb := hb.trans (hG.below.mono hb.size)
    clear hG
    obtain ⟨we, hwe, hT, hq⟩ := new_var wd 42 (stC st0 none 0) (stC st0 yo yc)
    replace hZ := hZ.later hq
    replace hZ8 := hZ8.later hq
    replace hb := hb.trans (hq.mono hb.size)
    clear hq hT
    go_wp2_with (first
      | (refine wpList_alloc_has (by rfl) 42 rfl (stC st0 none 0) st_zero ?_)
      | (refine wpList_store_to (by rfl) 42 _ _ rfl wd.heap.size rfl (stC st0 yo yc) rfl 42 (stC st0 none 0) (st_size _ _ _) (st_same _ _ _ _ _ _) (st_one _ _ _) ?hg we ?hW ?_; (case hg => exact Has.new _ _ _); (case hW => exact hwe); clear hwe; generalize wd.heap.size = gu at *)
      | (refine wpList_load_has (by rfl) 42 _ rfl (gs) rfl 42 (stC Z (some ⟨g, 0, none⟩) cap) _ Try.underlying42 rfl (st_size _ _ _) ?hg ?_; (case hg => exact hZ)))
    refine (upto_any Z (some ⟨g, 0, none⟩) cap 0 _ hZo hZ8 (by decide)).mono ?_
    rintro e wf ⟨rfl, hq⟩
    rw [hup.out]
    replace hZ := hZ.later hq
    replace hZ8 := hZ8.later hq
    replace hb := hb.trans (hq.mono hb.size)
    clear hq
    obtain ⟨wg, hwg, hU, hq⟩ := new_var wf 37 (baseC base0) (baseC base0)
    replace hZ := hZ.later hq
    replace hZ8 := hZ8.later hq
    replace hb := hb.trans (hq.mono hb.size)
    clear hq
    have e1 := fun W => eq_base base0 base0_ok W
    go_wp2_with (first
      | (refine wpList_alloc_has (by rfl) 37 rfl (baseC base0) base_zero ?_)
      | (refine wpList_store_to (by rfl) 37 _ _ rfl wf.heap.size rfl (baseC (base0)) rfl 37 (baseC base0) (base_size _) rfl (base_one _) ?hg wg ?hW ?_; (case hg => exact Has.new _ _ _); (case hW => exact hwg); clear hwg; generalize wf.heap.size = gb at *)
      | (refine wpList_load_has (by rfl) 42 _ rfl (gs) rfl 42 (stC Z (some ⟨g, 0, none⟩) cap) _ Try.underlying42 rfl (st_size _ _ _) ?hg ?_; (case hg => exact hZ)))
    refine (is_any Z (some ⟨g, 0, none⟩) cap _ hZo hZ8).mono ?_
    rintro e wh ⟨rfl, hq⟩
    rw [hnoH.out]
    replace hZ := hZ.later hq
    replace hZ8 := hZ8.later hq
    replace hU := hU.later hq
    replace hb := hb.trans (hq.mono hb.size)
    clear hq
    go_wp2_with (first
      | (refine wpList_load_has (by rfl) 37 _ rfl (gb) rfl 37 (baseC (base0)) _ Try.underlying37 rfl (base_size _) ?hg ?_; (case hg => exact hU))
      | (refine wpList_build_has (by rfl) 37 #[] rfl (baseC base0) (by simpa using base_built) ?_)
      | (refine wpList_bin_agg (by rfl) .eql 37 _ _ _ rfl (baseC base0) (baseC base0) rfl rfl (.bool true) guard_base ?hg ?_; (case hg => exact e1 _))
      | (refine wpList_load_has (by rfl) 42 _ rfl (gs) rfl 42 (stC Z (some ⟨g, 0, none⟩) cap) _ Try.underlying42 rfl (st_size _ _ _) ?hg ?_; (case hg => exact hZ)))
    refine (fold_any Z (some ⟨g, 0, none⟩) cap _ hZo hZ8).mono ?_
    rintro e wi ⟨rfl, hq⟩
    rw [hfo.out]
    replace hb := hb.trans (hq.mono hb.size)
    clear hq
    go_wp2_with (first
      | (refine wpList_build_has (by rfl) 37 #[] rfl (baseC base0) (by simpa using base_built) ?_)
      | (refine wpList_bin_agg (by rfl) .eql 37 _ _ _ rfl (baseC base0) (baseC base0) rfl rfl (.bool true) guard_base ?hg ?_; (case hg => exact e1 _)))
    go_ret
    exact ⟨rfl, hb⟩
  · have hmI : (m : Int) < (S.log.length : Int) := by have := hmn.out; omega
    obtain ⟨n1, hn1⟩ : ∃ n1, D.length + 1 = n1 := ⟨_, rfl⟩
    replace hn1 : Hid _ := hn1
    have hgz : g ≠ gs := by omega
    have hcell : w5.cell? ⟨g, m * 8 + 4, none⟩ = some (.int .u8 (ol.kind : Int)) := (hown5.cellAt (m * 8 + 4) (by have := hmn.out; omega)).trans (by rw [hlog.out, ← hl0m]; exact entF_last l0 _ 4)
    have hfroz := hown5.frozenAt (m * 8 + 4)
    have hst := hown5.stored (m * 8 + 4) (.int .u8 5)
    obtain ⟨w6, hw6⟩ : ∃ W, w5.setCell ⟨g, m * 8 + 4, none⟩ (.int .u8 5) = W := ⟨_, rfl⟩
    rw [hw6] at hst
    have hX6 := hw6 ▸ hX5.set_other (a := ⟨g, m * 8 + 4, none⟩) (show gs ≠ g from fun e => hgz e.symm) (.int .u8 5)
    have hO6 := hw6 ▸ hO5.set_other (a := ⟨g, m * 8 + 4, none⟩) (show w.heap.size ≠ g by omega) (.int .u8 5)
    have hb6 := hw6 ▸ hb5.setCell (show w.heap.size ≤ (⟨g, m * 8 + 4, none⟩ : Addr).block from by show w.heap.size ≤ g; omega) (.int .u8 5)
    have hown6 : w6.ownsRow (gs + 1) 39 8 (.slice (some ⟨g, 0, none⟩) S.log.length cap) S.log.length (entF (l0 ++ [⟨q, D.length, ⟨ol.client, ol.seq, 5, ol.obj, ol.pos, ol.data⟩⟩])) := by
      have := hst.1
      rw [← hl0m, congrArg entF hlog.out] at this
      rw [entF_set l0 ⟨q, D.length, ol⟩ (⟨q, D.length, ⟨ol.client, ol.seq, 5, ol.obj, ol.pos, ol.data⟩⟩) 4 (.int .u8 5) rfl] at this
      exact this
    have hyo' : EntOk ⟨q, D.length, ⟨ol.client, ol.seq, 5, ol.obj, ol.pos, ol.data⟩⟩ := ⟨by show q < _; omega, by show D.length < _; omega, ⟨hole.client, hole.seq, by show 5 < 256; decide, hole.obj, hole.pos, hole.data⟩⟩
    have hZ : Has w6 gs 42 (stC (withLog S (l0 ++ [(⟨q, D.length, ⟨ol.client, ol.seq, 5, ol.obj, ol.pos, ol.data⟩⟩ : EntV)])) (some ⟨g, 0, none⟩) cap) := by
      rw [stC_log S _ (by rw [List.length_append, List.length_singleton, hl0m]; exact hmn.out.symm)]
      exact hX6
    have hZ8 : Sl w6 (some ⟨g, 0, none⟩) cap 8 (entR (withLog S (l0 ++ [(⟨q, D.length, ⟨ol.client, ol.seq, 5, ol.obj, ol.pos, ol.data⟩⟩ : EntV)])).log) := by
      obtain ⟨_, g', cap', hv, _, _, hs⟩ := ents_own hown6 (by rw [List.length_append]; show 0 < _ + 1; omega)
      injection hv with h1 h2 h3
      rw [← h1, ← h3] at hs
      exact hs
    have hno : isM (withLog S (l0 ++ [(⟨q, D.length, ⟨ol.client, ol.seq, 5, ol.obj, ol.pos, ol.data⟩⟩ : EntV)])) = false := not_last (by rw [hla.out]; exact follows_no (.inl hw5k))
    have hZo : StOk (withLog S (l0 ++ [(⟨q, D.length, ⟨ol.client, ol.seq, 5, ol.obj, ol.pos, ol.data⟩⟩ : EntV)])) := ⟨hSo.started, hSo.base, hSo.tail, (fun x hx => by
      rcases List.mem_append.1 hx with hx | hx
      · exact hSo.log x (by rw [hlog.out]; exact List.mem_append.2 (.inl hx))
      · rw [List.mem_singleton.1 hx]; exact hyo'), by show (l0 ++ [(⟨q, D.length, ⟨ol.client, ol.seq, 5, ol.obj, ol.pos, ol.data⟩⟩ : EntV)]).length ≤ 1000; rw [List.length_append, List.length_singleton]; omega⟩
    generalize withLog S (l0 ++ [(⟨q, D.length, ⟨ol.client, ol.seq, 5, ol.obj, ol.pos, ol.data⟩⟩ : EntV)]) = Z at *
    have hO := hO6
    have hb := hb6
    clear hO5 hZ5 hown5 hb5 hO6 hb6 hown6 hst
    go_wp2_with (first
      | (refine wpList_val (.int .u8 4) (by rfl) (run_rem_u8 _ _ _ _ rfl a 6 4 rfl rfl ha (by decide) hr.out) ?_)
      | (refine wpList_val (.int .i64 (m : Int)) (by rfl) (run_sub_i64' _ _ _ _ rfl S.log.length 1 m rfl rfl (by have := hmn.out; omega) (by omega)) ?_)
      | (refine wpList_val (.int .u32 (n1 : Int)) (by rfl) (run_add_u32 _ _ _ _ rfl D.length 1 n1 rfl rfl hn1.out (by have := hn1.out; omega)) ?_)
      | (refine wpList_load_has (by rfl) 42 _ rfl (gs) rfl 42 (stC Z (some ⟨g, 0, none⟩) cap) _ Try.underlying42 rfl (st_size _ _ _) ?hg ?_; (case hg => exact hZ)))
    have hhd : Hid _ := not_head hno
    have had : Hid _ := not_add (e := ⟨50, 1, o⟩) hno
    have hct : Hid _ := not_cut (n := 0) hno
    have hup : Hid _ := not_upto (n := 0) hno
    have hfo : Hid _ := fold_no hno
    have hnoH : Hid _ := hno
    clear hno
    refine (head_any Z (some ⟨g, 0, none⟩) cap _ hZo hZ8).mono ?_
    rintro e wa ⟨rfl, hq⟩
    rw [hhd.out]
    replace hZ := hZ.later hq
    replace hZ8 := hZ8.later hq
    replace hO := hO.later hq
    replace hb := hb.trans (hq.mono hb.size)
    clear hq
    go_wp2_with (first
      | (refine wpList_load_has (by rfl) 42 _ rfl (gs) rfl 42 (stC Z (some ⟨g, 0, none⟩) cap) _ Try.underlying42 rfl (st_size _ _ _) ?hg ?_; (case hg => exact hZ))
      | (refine wpList_val (.int .u32 1) (by rfl) (run_add_u32 _ _ _ _ rfl 0 1 1 rfl rfl rfl (by decide)) ?_)
      | (refine wpList_load_has (by rfl) 25 _ rfl w.heap.size rfl 25 (opC o) _ Try.underlying25 rfl (op_size _) ?hg ?_; (case hg => exact hO))
      | (refine wpList_build_three (by rfl) 39 0 1 2 _ _ _ rfl (.int .u32 50) (.int .u32 1) (.agg (opC o)) rfl rfl rfl (entC ⟨50, 1, o⟩) (ent_built 50 1 _) ?_))
    refine (add_any Z (some ⟨g, 0, none⟩) cap ⟨50, 1, o⟩ _ hZo heo hZ8).mono ?_
    rintro e wb ⟨xo, xc, rfl, hG⟩
    rw [had.out]
    replace hZ := hZ.later hG.below
    replace hZ8 := hZ8.later hG.below
    replace hb := hb.trans (hG.below.mono hb.size)
    clear hG
    obtain ⟨wc, hwc, hT, hq⟩ := new_var wb 42 (stC st0 none 0) (stC st0 xo xc)
    replace hZ := hZ.later hq
    replace hZ8 := hZ8.later hq
    replace hb := hb.trans (hq.mono hb.size)
    clear hq hT
    go_wp2_with (first
      | (refine wpList_alloc_has (by rfl) 42 rfl (stC st0 none 0) st_zero ?_)
      | (refine wpList_store_to (by rfl) 42 _ _ rfl wb.heap.size rfl (stC st0 xo xc) rfl 42 (stC st0 none 0) (st_size _ _ _) (st_same _ _ _ _ _ _) (st_one _ _ _) ?hg wc ?hW ?_; (case hg => exact Has.new _ _ _); (case hW => exact hwc); clear hwc; generalize wb.heap.size = gt at *)
      | (refine wpList_load_has (by rfl) 42 _ rfl (gs) rfl 42 (stC Z (some ⟨g, 0, none⟩) cap) _ Try.underlying42 rfl (st_size _ _ _) ?hg ?_; (case hg => exact hZ)))
    refine (cut_any Z (some ⟨g, 0, none⟩) cap 0 _ hZo hZ8 (by decide)).mono ?_
    rintro e wd ⟨yo, yc, rfl, hG⟩
    rw [hct.out]
    replace hZ := hZ.later hG.below
    replace hZ8 := hZ8.later hG.below
    replace hb := hb.trans (hG.below.mono hb.size)
    clear hG
    obtain ⟨we, hwe, hT, hq⟩ := new_var wd 42 (stC st0 none 0) (stC st0 yo yc)
    replace hZ := hZ.later hq
    replace hZ8 := hZ8.later hq
    replace hb := hb.trans (hq.mono hb.size)
    clear hq hT
    go_wp2_with (first
      | (refine wpList_alloc_has (by rfl) 42 rfl (stC st0 none 0) st_zero ?_)
      | (refine wpList_store_to (by rfl) 42 _ _ rfl wd.heap.size rfl (stC st0 yo yc) rfl 42 (stC st0 none 0) (st_size _ _ _) (st_same _ _ _ _ _ _) (st_one _ _ _) ?hg we ?hW ?_; (case hg => exact Has.new _ _ _); (case hW => exact hwe); clear hwe; generalize wd.heap.size = gu at *)
      | (refine wpList_load_has (by rfl) 42 _ rfl (gs) rfl 42 (stC Z (some ⟨g, 0, none⟩) cap) _ Try.underlying42 rfl (st_size _ _ _) ?hg ?_; (case hg => exact hZ)))
    refine (upto_any Z (some ⟨g, 0, none⟩) cap 0 _ hZo hZ8 (by decide)).mono ?_
    rintro e wf ⟨rfl, hq⟩
    rw [hup.out]
    replace hZ := hZ.later hq
    replace hZ8 := hZ8.later hq
    replace hb := hb.trans (hq.mono hb.size)
    clear hq
    obtain ⟨wg, hwg, hU, hq⟩ := new_var wf 37 (baseC base0) (baseC base0)
    replace hZ := hZ.later hq
    replace hZ8 := hZ8.later hq
    replace hb := hb.trans (hq.mono hb.size)
    clear hq
    have e1 := fun W => eq_base base0 base0_ok W
    go_wp2_with (first
      | (refine wpList_alloc_has (by rfl) 37 rfl (baseC base0) base_zero ?_)
      | (refine wpList_store_to (by rfl) 37 _ _ rfl wf.heap.size rfl (baseC (base0)) rfl 37 (baseC base0) (base_size _) rfl (base_one _) ?hg wg ?hW ?_; (case hg => exact Has.new _ _ _); (case hW => exact hwg); clear hwg; generalize wf.heap.size = gb at *)
      | (refine wpList_load_has (by rfl) 42 _ rfl (gs) rfl 42 (stC Z (some ⟨g, 0, none⟩) cap) _ Try.underlying42 rfl (st_size _ _ _) ?hg ?_; (case hg => exact hZ)))
    refine (is_any Z (some ⟨g, 0, none⟩) cap _ hZo hZ8).mono ?_
    rintro e wh ⟨rfl, hq⟩
    rw [hnoH.out]
    replace hZ := hZ.later hq
    replace hZ8 := hZ8.later hq
    replace hU := hU.later hq
    replace hb := hb.trans (hq.mono hb.size)
    clear hq
    go_wp2_with (first
      | (refine wpList_load_has (by rfl) 37 _ rfl (gb) rfl 37 (baseC (base0)) _ Try.underlying37 rfl (base_size _) ?hg ?_; (case hg => exact hU))
      | (refine wpList_build_has (by rfl) 37 #[] rfl (baseC base0) (by simpa using base_built) ?_)
      | (refine wpList_bin_agg (by rfl) .eql 37 _ _ _ rfl (baseC base0) (baseC base0) rfl rfl (.bool true) guard_base ?hg ?_; (case hg => exact e1 _))
      | (refine wpList_load_has (by rfl) 42 _ rfl (gs) rfl 42 (stC Z (some ⟨g, 0, none⟩) cap) _ Try.underlying42 rfl (st_size _ _ _) ?hg ?_; (case hg => exact hZ)))
    refine (fold_any Z (some ⟨g, 0, none⟩) cap _ hZo hZ8).mono ?_
    rintro e wi ⟨rfl, hq⟩
    rw [hfo.out]
    replace hb := hb.trans (hq.mono hb.size)
    clear hq
    go_wp2_with (first
      | (refine wpList_build_has (by rfl) 37 #[] rfl (baseC base0) (by simpa using base_built) ?_)
      | (refine wpList_bin_agg (by rfl) .eql 37 _ _ _ rfl (baseC base0) (baseC base0) rfl rfl (.bool true) guard_base ?hg ?_; (case hg => exact e1 _)))
    go_ret
    exact ⟨rfl, hb⟩
  · have s0 := hX5.st_tail_n
    rw [hSt.out] at s0
    have f0 := hX5.free 41
    obtain ⟨t, ht⟩ : ∃ t, D.length - 6 = t := ⟨_, rfl⟩
    obtain ⟨t1, ht1⟩ : ∃ t1, t + 1 = t1 := ⟨_, rfl⟩
    have htb : t1 < 1000 := by omega
    rw [ht] at s0
    have hZ := hX5.set 41 (.int .u32 (t1 : Int))
    rw [st_set41] at hZ
    have hZ8 := hZ5.cell_other (a := ⟨gs, 41, none⟩) (fun d hd => by obtain rfl := Option.some.inj hd; exact hgg) (.int .u32 (t1 : Int))
    have hO6 := hO5.set_other (a := ⟨gs, 41, none⟩) (show w.heap.size ≠ gs by omega) (.int .u32 (t1 : Int))
    have hb6 := hb5.setCell (show w.heap.size ≤ (⟨gs, 41, none⟩ : Addr).block from by show w.heap.size ≤ gs; omega) (.int .u32 (t1 : Int))
    obtain ⟨w6, hw6⟩ : ∃ W, w5.setCell ⟨gs, 41, none⟩ (.int .u32 (t1 : Int)) = W := ⟨_, rfl⟩
    rw [hw6] at hZ hZ8 hO6 hb6
    have hno : isM ⟨S.started, S.base, ⟨S.tail.since, t1, S.tail.op⟩, S.log⟩ = false := is_not fun hh => by
      have h5 := chain_n _ _ hh.2.2.2.2
      have h6 := chain_n _ _ ((is_is S).1 hSi.out).2.2.2.2
      have h7 : lastE (⟨S.tail.since, t1, S.tail.op⟩ : EntV) S.log = lastE S.tail S.log := by
        rw [hlog.out, lastE_snoc, lastE_snoc]
      have h8 := hSt.out
      have h5 : (lastE (⟨S.tail.since, t1, S.tail.op⟩ : EntV) S.log).n = t1 + S.log.length := h5
      rw [h7] at h5
      omega
    have hZo : StOk ⟨S.started, S.base, ⟨S.tail.since, t1, S.tail.op⟩, S.log⟩ := ⟨hSo.started, hSo.base, ⟨hSo.tail.since, by show t1 < _; omega, hSo.tail.op⟩, hSo.log, hSo.len⟩
    have hZ8 : Sl w6 (some ⟨g, 0, none⟩) cap 8 (entR (⟨S.started, S.base, ⟨S.tail.since, t1, S.tail.op⟩, S.log⟩ : StV).log) := hZ8
    generalize (⟨S.started, S.base, ⟨S.tail.since, t1, S.tail.op⟩, S.log⟩ : StV) = Z at *
    have hO := hO6
    have hb := hb6
    replace ht1 : Hid _ := ht1
    replace ht : Hid _ := ht
    clear hO5 hZ5 hown5 hb5 hO6 hb6
    go_wp2_with (first
      | (refine wpList_val (.int .u8 5) (by rfl) (run_rem_u8 _ _ _ _ rfl a 6 5 rfl rfl ha (by decide) hr.out) ?_)
      | (refine wpList_val (.int .u32 (t1 : Int)) (by rfl) (run_add_u32 _ _ _ _ rfl t 1 t1 rfl rfl ht1.out (by omega)) ?_)
      | (refine wpList_load_has (by rfl) 42 _ rfl (gs) rfl 42 (stC Z (some ⟨g, 0, none⟩) cap) _ Try.underlying42 rfl (st_size _ _ _) ?hg ?_; (case hg => exact hZ)))
    have hhd : Hid _ := not_head hno
    have had : Hid _ := not_add (e := ⟨50, 1, o⟩) hno
    have hct : Hid _ := not_cut (n := 0) hno
    have hup : Hid _ := not_upto (n := 0) hno
    have hfo : Hid _ := fold_no hno
    have hnoH : Hid _ := hno
    clear hno
    refine (head_any Z (some ⟨g, 0, none⟩) cap _ hZo hZ8).mono ?_
    rintro e wa ⟨rfl, hq⟩
    rw [hhd.out]
    replace hZ := hZ.later hq
    replace hZ8 := hZ8.later hq
    replace hO := hO.later hq
    replace hb := hb.trans (hq.mono hb.size)
    clear hq
    go_wp2_with (first
      | (refine wpList_load_has (by rfl) 42 _ rfl (gs) rfl 42 (stC Z (some ⟨g, 0, none⟩) cap) _ Try.underlying42 rfl (st_size _ _ _) ?hg ?_; (case hg => exact hZ))
      | (refine wpList_val (.int .u32 1) (by rfl) (run_add_u32 _ _ _ _ rfl 0 1 1 rfl rfl rfl (by decide)) ?_)
      | (refine wpList_load_has (by rfl) 25 _ rfl w.heap.size rfl 25 (opC o) _ Try.underlying25 rfl (op_size _) ?hg ?_; (case hg => exact hO))
      | (refine wpList_build_three (by rfl) 39 0 1 2 _ _ _ rfl (.int .u32 50) (.int .u32 1) (.agg (opC o)) rfl rfl rfl (entC ⟨50, 1, o⟩) (ent_built 50 1 _) ?_))
    refine (add_any Z (some ⟨g, 0, none⟩) cap ⟨50, 1, o⟩ _ hZo heo hZ8).mono ?_
    rintro e wb ⟨xo, xc, rfl, hG⟩
    rw [had.out]
    replace hZ := hZ.later hG.below
    replace hZ8 := hZ8.later hG.below
    replace hb := hb.trans (hG.below.mono hb.size)
    clear hG
    obtain ⟨wc, hwc, hT, hq⟩ := new_var wb 42 (stC st0 none 0) (stC st0 xo xc)
    replace hZ := hZ.later hq
    replace hZ8 := hZ8.later hq
    replace hb := hb.trans (hq.mono hb.size)
    clear hq hT
    go_wp2_with (first
      | (refine wpList_alloc_has (by rfl) 42 rfl (stC st0 none 0) st_zero ?_)
      | (refine wpList_store_to (by rfl) 42 _ _ rfl wb.heap.size rfl (stC st0 xo xc) rfl 42 (stC st0 none 0) (st_size _ _ _) (st_same _ _ _ _ _ _) (st_one _ _ _) ?hg wc ?hW ?_; (case hg => exact Has.new _ _ _); (case hW => exact hwc); clear hwc; generalize wb.heap.size = gt at *)
      | (refine wpList_load_has (by rfl) 42 _ rfl (gs) rfl 42 (stC Z (some ⟨g, 0, none⟩) cap) _ Try.underlying42 rfl (st_size _ _ _) ?hg ?_; (case hg => exact hZ)))
    refine (cut_any Z (some ⟨g, 0, none⟩) cap 0 _ hZo hZ8 (by decide)).mono ?_
    rintro e wd ⟨yo, yc, rfl, hG⟩
    rw [hct.out]
    replace hZ := hZ.later hG.below
    replace hZ8 := hZ8.later hG.below
    replace hb := hb.trans (hG.below.mono hb.size)
    clear hG
    obtain ⟨we, hwe, hT, hq⟩ := new_var wd 42 (stC st0 none 0) (stC st0 yo yc)
    replace hZ := hZ.later hq
    replace hZ8 := hZ8.later hq
    replace hb := hb.trans (hq.mono hb.size)
    clear hq hT
    go_wp2_with (first
      | (refine wpList_alloc_has (by rfl) 42 rfl (stC st0 none 0) st_zero ?_)
      | (refine wpList_store_to (by rfl) 42 _ _ rfl wd.heap.size rfl (stC st0 yo yc) rfl 42 (stC st0 none 0) (st_size _ _ _) (st_same _ _ _ _ _ _) (st_one _ _ _) ?hg we ?hW ?_; (case hg => exact Has.new _ _ _); (case hW => exact hwe); clear hwe; generalize wd.heap.size = gu at *)
      | (refine wpList_load_has (by rfl) 42 _ rfl (gs) rfl 42 (stC Z (some ⟨g, 0, none⟩) cap) _ Try.underlying42 rfl (st_size _ _ _) ?hg ?_; (case hg => exact hZ)))
    refine (upto_any Z (some ⟨g, 0, none⟩) cap 0 _ hZo hZ8 (by decide)).mono ?_
    rintro e wf ⟨rfl, hq⟩
    rw [hup.out]
    replace hZ := hZ.later hq
    replace hZ8 := hZ8.later hq
    replace hb := hb.trans (hq.mono hb.size)
    clear hq
    obtain ⟨wg, hwg, hU, hq⟩ := new_var wf 37 (baseC base0) (baseC base0)
    replace hZ := hZ.later hq
    replace hZ8 := hZ8.later hq
    replace hb := hb.trans (hq.mono hb.size)
    clear hq
    have e1 := fun W => eq_base base0 base0_ok W
    go_wp2_with (first
      | (refine wpList_alloc_has (by rfl) 37 rfl (baseC base0) base_zero ?_)
      | (refine wpList_store_to (by rfl) 37 _ _ rfl wf.heap.size rfl (baseC (base0)) rfl 37 (baseC base0) (base_size _) rfl (base_one _) ?hg wg ?hW ?_; (case hg => exact Has.new _ _ _); (case hW => exact hwg); clear hwg; generalize wf.heap.size = gb at *)
      | (refine wpList_load_has (by rfl) 42 _ rfl (gs) rfl 42 (stC Z (some ⟨g, 0, none⟩) cap) _ Try.underlying42 rfl (st_size _ _ _) ?hg ?_; (case hg => exact hZ)))
    refine (is_any Z (some ⟨g, 0, none⟩) cap _ hZo hZ8).mono ?_
    rintro e wh ⟨rfl, hq⟩
    rw [hnoH.out]
    replace hZ := hZ.later hq
    replace hZ8 := hZ8.later hq
    replace hU := hU.later hq
    replace hb := hb.trans (hq.mono hb.size)
    clear hq
    go_wp2_with (first
      | (refine wpList_load_has (by rfl) 37 _ rfl (gb) rfl 37 (baseC (base0)) _ Try.underlying37 rfl (base_size _) ?hg ?_; (case hg => exact hU))
      | (refine wpList_build_has (by rfl) 37 #[] rfl (baseC base0) (by simpa using base_built) ?_)
      | (refine wpList_bin_agg (by rfl) .eql 37 _ _ _ rfl (baseC base0) (baseC base0) rfl rfl (.bool true) guard_base ?hg ?_; (case hg => exact e1 _))
      | (refine wpList_load_has (by rfl) 42 _ rfl (gs) rfl 42 (stC Z (some ⟨g, 0, none⟩) cap) _ Try.underlying42 rfl (st_size _ _ _) ?hg ?_; (case hg => exact hZ)))
    refine (fold_any Z (some ⟨g, 0, none⟩) cap _ hZo hZ8).mono ?_
    rintro e wi ⟨rfl, hq⟩
    rw [hfo.out]
    replace hb := hb.trans (hq.mono hb.size)
    clear hq
    go_wp2_with (first
      | (refine wpList_build_has (by rfl) 37 #[] rfl (baseC base0) (by simpa using base_built) ?_)
      | (refine wpList_bin_agg (by rfl) .eql 37 _ _ _ rfl (baseC base0) (baseC base0) rfl rfl (.bool true) guard_base ?hg ?_; (case hg => exact e1 _)))
    go_ret
    exact ⟨rfl, hb⟩
end Go.Proofs.Ytkkjdihmjcaibab
