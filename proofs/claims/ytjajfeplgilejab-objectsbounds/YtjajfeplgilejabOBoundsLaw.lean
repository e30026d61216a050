/- ObjectsBounds, walked. -/
import Derived.Test.YtjajfeplgilejabObjSteps
import Derived.Test.YtjajfeplgilejabEqMore6
import Derived.Test.YtjajfeplgilejabBoundsFacts
import Derived.Laws.BytesArg
namespace Go.Proofs.Ytjajfeplgilejab
set_option linter.unusedSimpArgs false
set_option linter.unusedVariables false
set_option maxRecDepth 100000
open Go.RowKit

theorem byte_info : ∃ i, Try.prog.info? 5 = some i ∧ i.zero = some (.int .u8 0) ∧ i.size = 1 ∧ i.bytes = 1 := by
  have h : (Try.prog.info? 5).map (fun i => (i.zero, i.size, i.bytes)) = some (some (.int .u8 0), 1, 1) := by kernel_rfl
  cases hi : Try.prog.info? 5 with
  | none => rw [hi] at h; cases h
  | some i =>
    rw [hi] at h
    simp only [Option.map_some, Option.some.injEq, Prod.mk.injEq] at h
    exact ⟨i, rfl, h.1, h.2.1, h.2.2⟩

theorem made_nought {w : World} {g n b : Nat} (h : w.ownsRow b 5 1 (.slice (some ⟨g, 0, none⟩) n n) n (madeCells (Value.int .u8 0).cells (n * 1)).toList) (i : Nat) (hi : i < n) : w.cell? ⟨g, i, none⟩ = some (.int .u8 0) := by
  rcases h.2 with ⟨hv, _⟩ | ⟨g', cap, cur, hv, hg, hc, hle, hm, hs, hx⟩
  · cases hv
  · injection hv with h1 h2 h3
    injection h1 with h1
    injection h1 with h1
    subst h1
    have hh : Has w g 5 cur := hc
    rw [hh.cell]
    rw [List.take_of_length_le (by rw [Array.length_toList, hs, ← h3]; exact Nat.le_refl _)] at hx
    rw [← Array.getElem?_toList, hx]
    unfold madeCells
    simp only [Array.toList_map, Array.toList_range, Nat.mul_one]
    rw [List.getElem?_map, List.getElem?_range hi]
    have : i % (Value.int .u8 0).cells.size = 0 := Nat.mod_one i
    show some ((Value.int .u8 0).cells[i % (Value.int .u8 0).cells.size]!) = _
    rw [this]
    rfl

theorem nums_nought (n : Nat) : strOfNums (List.replicate n 0) = mkS (List.replicate n 0) := by
  unfold strOfNums mkS
  simp

theorem opW_built (p n : Nat) : Try.prog.built 26 [(0, .int .u8 1), (1, .int .u32 2), (2, .int .u8 1), (4, .int .u8 (p : Int)), (5, .string (mkS (List.replicate n 0)))] = some (opC (opW p n)) := by kernel_rfl
theorem opAB_built : Try.prog.built 26 [(0, .int .u8 1), (1, .int .u32 1), (2, .int .u8 1), (5, .string (ByteArray.mk #[97, 98]))] = some (opC opAB) := by kernel_rfl
theorem wpList_build_five {P : Program} {ops : Array Oper} {rest : List Oper} {o : Oper} {a : Act} {w : World} {Q : Exit → Act → World → Prop} (hw : Region.wanted o (yielded ops a.tmps) = true) (t : TypeId) (x y : Operand) (ho : o.op = .build t #[(0, .const (.int .u8 1)), (1, .const (.int .u32 2)), (2, .const (.int .u8 1)), (4, x), (5, y)]) (p q : Value) (hx : a.eval x = p) (hy : a.eval y = q) (c : Array Value) (hf : P.built t [(0, .int .u8 1), (1, .int .u32 2), (2, .int .u8 1), (4, p), (5, q)] = some c)
    (h : wpList P ops Q rest (a.put o.dst (.agg c)) w) : wpList P ops Q (o :: rest) a w :=
  wpList_build_has hw t _ ho c (by
    have e0 : a.eval (.const (.int .u8 1)) = .int .u8 1 := rfl
    have e1 : a.eval (.const (.int .u32 2)) = .int .u32 2 := rfl
    simpa [hx, hy, e0, e1] using hf) h

set_option maxHeartbeats 1000000 in
theorem bounds_walk (S : ObjSpec) (p lg : Nat) (tr : Bool) (w : World) (hp : p < 256) (hl : lg < 256) :
    Calls Try.prog 3 #[.int .u8 (p : Int), .int .u8 (lg : Int), .bool tr] w fun e w' => e = .returned (.bool true) ∧ Below w.heap.size w w' := by
  obtain ⟨i0, hi, hz0, hz1, hz2⟩ := byte_info
  obtain ⟨n, hn⟩ : ∃ n, n = lg % 17 := ⟨_, rfl⟩
  have hn16 : n ≤ 16 := by omega
  have hnI : (lg : Int) % 17 = (n : Int) := by omega
  have hnT : Int.tmod (lg : Int) 17 = (n : Int) := by rw [Int.tmod_eq_emod_of_nonneg (by omega)]; exact hnI
  clear hn
  go_enter Try.func3, Try.ntmps3
  go_wp2_with fail
  refine (oknown_any S _).mono ?_
  rintro e w1 ⟨rfl, hb⟩
  go_wp2_with (first
    | (refine wpList_make_full _ rfl _ _ 24 rfl w1.heap.size 5 i0 (.int .u8 0) 1 Try.underlying24 hi hz0 hz1 _ _ _ _ n rfl rfl rfl rfl (by rw [hz2]; omega) (by unfold maxLen; omega) (Nat.le_refl _) ?_))
  intro w2 hown hgrow
  have hb2 : Below w1.heap.size w1 w2 := (Below.refl w1.heap.size w1).grown hgrow (Nat.le_refl _) (fun k hk => by cases hk)
  have hcv : (convert 24 9 (.slice (some ⟨w1.heap.size, 0, none⟩) n n)).run Try.prog w2 = .ok (.string (mkS (List.replicate n 0))) w2 := by
    rw [← nums_nought]
    exact run_convert_bytes_arg (P := Try.prog) w2 24 5 Try.underlying24 Try.underlying5 w1.heap.size 0 n n (List.replicate n 0) (by rw [List.length_replicate]) (fun i hi => by
      rw [Nat.zero_add]
      have := made_nought (b := w1.heap.size) (by rw [Nat.mul_one]; exact hown) i hi
      rw [this]
      congr 2
      rw [List.getD_eq_getElem?_getD, List.getElem?_replicate, if_pos hi]
      rfl) 9 Try.underlying9
  have hblt := opW_built p n
  replace hb := hb.trans (hb2.mono hb.size)
  clear hown hgrow hb2
  have hokW : OpOk (opW p n) := ⟨by show 1 < 256; decide, by show 2 < 4294967296; decide, by show 1 < 256; decide, by show 0 < 256; decide, hp, by show (List.replicate n (0 : UInt8)).length ≤ _; rw [List.length_replicate]; omega⟩
  have hokT : OpOk (opT p) := ⟨by show 1 < 256; decide, by show 2 < 4294967296; decide, by show 2 < 256; decide, by show 0 < 256; decide, hp, by show 0 ≤ _; decide⟩
  obtain ⟨w3, hw3, hO, hq⟩ := op_var w2 (opW p n)
  have hgOw : w.heap.size ≤ w2.heap.size := hb.size
  replace hb := hb.trans (hq.mono hb.size)
  clear hq
  generalize mkS (List.replicate n 0) = Z at hcv hblt
  cases tr with
  | false =>
    have hok := hokW
    go_wp2_with (first
      | (refine wpList_build_five (by rfl) 26 _ _ rfl (.int .u8 (p : Int)) (.string Z) rfl rfl (opC (opW p n)) hblt ?_)
      | (refine wpList_alloc_has (by rfl) 26 rfl (opC op0) zop_zero ?_)
      | (refine wpList_store_to (by rfl) 26 _ _ rfl w2.heap.size rfl (opC (opW p n)) rfl 26 (opC op0) (op_size _) rfl (op_one _) ?hg w3 ?hW ?_; (case hg => exact Has.new _ _ _); (case hW => exact hw3); clear hw3; generalize w2.heap.size = gO at *)
      | (refine wpList_build_has (by rfl) 37 #[] rfl (baseC base0) (by simpa using base_built) ?_)
      | (refine wpList_build_has (by rfl) 26 _ rfl (opC opAB) (by simpa using opAB_built) ?_))
    go_wp2_with (first
      | (refine wpList_build_has (by rfl) 37 #[] rfl (baseC base0) (by simpa using base_built) ?_)
      | (refine wpList_build_has (by rfl) 26 _ rfl (opC opAB) (by simpa using opAB_built) ?_))
    refine (S.do' base0 opAB _ base0_ok opAB_ok).mono ?_
    rintro e w5 ⟨rfl, hq⟩
    replace hO := hO.later hq
    replace hb := hb.trans (hq.mono hb.size)
    clear hq
    have hbd : (doM base0 opAB).1 = bAB := rfl
    rw [hbd]
    clear hbd
    generalize (doM base0 opAB).2 = r0 at *
    obtain ⟨w6, hw6, hn6, hB, _, hq⟩ := do_vars w5 bAB r0
    replace hO := hO.later hq
    replace hb := hb.trans (hq.mono hb.size)
    clear hq
    go_wp2_with (first
      | (refine wpList_alloc_has (by rfl) 37 rfl (baseC base0) base_zero ?_)
      | (refine wpList_alloc_has (by rfl) 32 rfl (resC res0) res_zero ?_; rw [alloc_size])
      | (refine wpList_store_has (by rfl) 37 _ _ rfl w5.heap.size rfl (baseC bAB) rfl 37 (baseC base0) (base_size _) rfl (base_one _) ?hg ?_; (case hg => exact (Has.new _ _ _).alloc _))
      | (refine wpList_store_to (by rfl) 32 _ _ rfl (w5.heap.size + 1) rfl (resC r0) rfl 32 (resC res0) (res_size _) rfl (res_one _) ?hg w6 ?hW ?_; (case hg => exact hn6); (case hW => exact hw6))
      | (refine wpList_load_has (by rfl) 37 _ rfl (w5.heap.size) rfl 37 (baseC (bAB)) _ Try.underlying37 rfl (base_size _) ?hg ?_; (case hg => first | exact hB))
      | (refine wpList_load_has (by rfl) 26 _ rfl (gO) rfl 26 (opC (opW p n)) _ Try.underlying26 rfl (op_size _) ?hg ?_; (case hg => first | exact hO)))
    refine (S.do' bAB (opW p n) _ bAB_ok hok).mono ?_
    rintro e w7 ⟨rfl, hq⟩
    replace hB := hB.later hq
    replace hb := hb.trans (hq.mono hb.size)
    clear hq hw6 hn6 hO
    generalize w5.heap.size = gb at *
    have hC0 := do_ok bAB_ok hok
    by_cases hlong : 16 < p + n
    · have hlI : (16 : Int) < (p : Int) + ((n : Nat) : Int) := by omega
      obtain ⟨hr2, hobj, hlast⟩ := write_long (p := p) (n := n) hn16 hlong
      rw [hr2] at hC0 ⊢
      generalize (doM bAB (opW p n)).1 = C at *
      clear hr2
      obtain ⟨w8, hw8, hn8, hC, hr, hq⟩ := do_vars w7 C ⟨2, []⟩
      replace hB := hB.later hq
      replace hb := hb.trans (hq.mono hb.size)
      clear hq
      have r0' : w8.cell? ⟨w7.heap.size + 1, 0, none⟩ = some (.int .u8 2) := (hr.cell 0).trans rfl
      have hCo := hC.objs_at
      have hBo := hB.objs_at
      rw [hobj] at hCo
      have e5 := eq_objs bAB bAB_ok
      have hsz := objs_size bAB.obj
      generalize objsL bAB.obj = L at *
      have c30 := (hC.cell 30).trans (baseC_last C 0 0 (.int .u32 2) (by rw [hlast]; rfl))
      have hCl : w8.rangeAt w7.heap.size 31 (resL ⟨2, []⟩) := hC.range _ _ (fun j v hj => by
        have hj2 : j < 2 := (List.getElem?_eq_some_iff.1 hj).1
        have := baseC_last C 0 (1 + j) v (by rw [hlast]; match j, hj2 with | 0, _ => exact hj | 1, _ => exact hj)
        rw [show 31 + j = 30 + (0 : Fin 3).val * 3 + (1 + j) by show 31 + j = 30 + 0 * 3 + (1 + j); omega]
        exact this)
      have e6 := eq_res ⟨2, []⟩ hC0.2.1 hC0.2.2
      go_wp2_with (first
        | (refine wpList_alloc_has (by rfl) 37 rfl (baseC base0) base_zero ?_)
        | (refine wpList_alloc_has (by rfl) 32 rfl (resC res0) res_zero ?_; rw [alloc_size])
        | (refine wpList_store_has (by rfl) 37 _ _ rfl w7.heap.size rfl (baseC C) rfl 37 (baseC base0) (base_size _) rfl (base_one _) ?hg ?_; (case hg => exact (Has.new _ _ _).alloc _))
        | (refine wpList_store_to (by rfl) 32 _ _ rfl (w7.heap.size + 1) rfl (resC (⟨2, []⟩ : ResV)) rfl 32 (resC res0) (res_size _) rfl (res_one _) ?hg w8 ?hW ?_; (case hg => exact hn8); (case hW => exact hw8))
        | (refine wpList_load_mid' (by rfl) 30 _ rfl w7.heap.size 0 rfl L _ ?hg Try.underlying30 rfl hsz ?_; (case hg => exact hCo))
        | (refine wpList_load_mid' (by rfl) 30 _ rfl gb 0 rfl L _ ?hg Try.underlying30 rfl hsz ?_; (case hg => exact hBo))
        | (refine wpList_bin_agg (by rfl) .eql 30 _ _ _ rfl L.toArray L.toArray rfl rfl (.bool true) guard_objs ?hg ?_; (case hg => exact e5 _))
        | (refine wpList_load_mid' (by rfl) 32 _ rfl w7.heap.size 31 rfl (resL ⟨2, []⟩) _ ?hg Try.underlying32 rfl (res_size ⟨2, []⟩) ?_; (case hg => exact hCl))
        | (refine wpList_load_has (by rfl) 32 _ rfl (w7.heap.size + 1) rfl 32 (resC ((⟨2, []⟩ : ResV))) _ Try.underlying32 rfl (res_size _) ?hg ?_; (case hg => first | exact hr))
        | (refine wpList_bin_agg (by rfl) .eql 32 _ _ _ rfl (resC ⟨2, []⟩) (resC ⟨2, []⟩) rfl rfl (.bool true) guard_res ?hg ?_; (case hg => exact e6 _)))
      go_ret
      exact ⟨rfl, hb⟩
    · have hlI : (p : Int) + ((n : Nat) : Int) ≤ 16 := by omega
      obtain ⟨hr2, hlen⟩ := write_fits (p := p) (n := n) hn16 (by omega)
      rw [hr2] at hC0 ⊢
      generalize (doM bAB (opW p n)).1 = C at *
      clear hr2
      obtain ⟨w8, hw8, hn8, hC, hr, hq⟩ := do_vars w7 C ⟨0, []⟩
      replace hB := hB.later hq
      replace hb := hb.trans (hq.mono hb.size)
      clear hq
      have r0' : w8.cell? ⟨w7.heap.size + 1, 0, none⟩ = some (.int .u8 0) := (hr.cell 0).trans rfl
      have c1 := (hC.cell 1).trans (baseC_obj C 0 1 (.string (mkS (C.obj 0).data)) rfl)
      have hs := mkS_size (C.obj 0).data
      rw [hlen] at hs
      generalize mkS (C.obj 0).data = D at *
      go_wp2_with (first
        | (refine wpList_alloc_has (by rfl) 37 rfl (baseC base0) base_zero ?_)
        | (refine wpList_alloc_has (by rfl) 32 rfl (resC res0) res_zero ?_; rw [alloc_size])
        | (refine wpList_store_has (by rfl) 37 _ _ rfl w7.heap.size rfl (baseC C) rfl 37 (baseC base0) (base_size _) rfl (base_one _) ?hg ?_; (case hg => exact (Has.new _ _ _).alloc _))
        | (refine wpList_store_to (by rfl) 32 _ _ rfl (w7.heap.size + 1) rfl (resC (⟨0, []⟩ : ResV)) rfl 32 (resC res0) (res_size _) rfl (res_one _) ?hg w8 ?hW ?_; (case hg => exact hn8)); (case hW => exact hw8))
      all_goals
        go_ret
        refine ⟨retB ?_, hb⟩
        first
          | rfl
          | (simp; omega)
          | omega
  | true =>
    have hok := hokT
    have f2 := hO.free 2
    have k2 := (hO.cell 2).trans (show (opC (opW p n))[2]? = some (.int .u8 1) from rfl)
    obtain ⟨w4, hw4⟩ : ∃ W, w3.setCell ⟨w2.heap.size, 2, none⟩ (.int .u8 2) = W := ⟨_, rfl⟩
    have hO4 := hO.set 2 (.int .u8 2)
    rw [hw4] at hO4
    have f5 := hO4.free 5
    have k5 := (hO4.cell 5).trans (show ((opC (opW p n)).setIfInBounds 2 (.int .u8 2))[5]? = some (.string (mkS (List.replicate n 0))) from rfl)
    obtain ⟨w5', hw5⟩ : ∃ W, w4.setCell ⟨w2.heap.size, 5, none⟩ (.string (ByteArray.mk #[])) = W := ⟨_, rfl⟩
    have hO5 : Has w5' w2.heap.size 26 (opC (opT p)) := hw5 ▸ hO4.set 5 (.string (ByteArray.mk #[]))
    have hb5 : Below w.heap.size w w5' := hw5 ▸ (hw4 ▸ hb.setCell (show w.heap.size ≤ (⟨w2.heap.size, 2, none⟩ : Addr).block from hgOw) _).setCell (show w.heap.size ≤ (⟨w2.heap.size, 5, none⟩ : Addr).block from hgOw) _
    clear hb hO4
    have hO := hO5
    have hb := hb5
    clear hO5 hb5
    go_wp2_with (first
      | (refine wpList_build_five (by rfl) 26 _ _ rfl (.int .u8 (p : Int)) (.string Z) rfl rfl (opC (opW p n)) hblt ?_)
      | (refine wpList_alloc_has (by rfl) 26 rfl (opC op0) zop_zero ?_)
      | (refine wpList_store_to (by rfl) 26 _ _ rfl w2.heap.size rfl (opC (opW p n)) rfl 26 (opC op0) (op_size _) rfl (op_one _) ?hg w3 ?hW ?_; (case hg => exact Has.new _ _ _); (case hW => exact hw3); clear hw3; generalize w2.heap.size = gO at *)
      | (refine wpList_build_has (by rfl) 37 #[] rfl (baseC base0) (by simpa using base_built) ?_)
      | (refine wpList_build_has (by rfl) 26 _ rfl (opC opAB) (by simpa using opAB_built) ?_))
    go_wp2_with (first
      | (refine wpList_build_has (by rfl) 37 #[] rfl (baseC base0) (by simpa using base_built) ?_)
      | (refine wpList_build_has (by rfl) 26 _ rfl (opC opAB) (by simpa using opAB_built) ?_))
    refine (S.do' base0 opAB _ base0_ok opAB_ok).mono ?_
    rintro e w5 ⟨rfl, hq⟩
    replace hO := hO.later hq
    replace hb := hb.trans (hq.mono hb.size)
    clear hq
    have hbd : (doM base0 opAB).1 = bAB := rfl
    rw [hbd]
    clear hbd
    generalize (doM base0 opAB).2 = r0 at *
    obtain ⟨w6, hw6, hn6, hB, _, hq⟩ := do_vars w5 bAB r0
    replace hO := hO.later hq
    replace hb := hb.trans (hq.mono hb.size)
    clear hq
    go_wp2_with (first
      | (refine wpList_alloc_has (by rfl) 37 rfl (baseC base0) base_zero ?_)
      | (refine wpList_alloc_has (by rfl) 32 rfl (resC res0) res_zero ?_; rw [alloc_size])
      | (refine wpList_store_has (by rfl) 37 _ _ rfl w5.heap.size rfl (baseC bAB) rfl 37 (baseC base0) (base_size _) rfl (base_one _) ?hg ?_; (case hg => exact (Has.new _ _ _).alloc _))
      | (refine wpList_store_to (by rfl) 32 _ _ rfl (w5.heap.size + 1) rfl (resC r0) rfl 32 (resC res0) (res_size _) rfl (res_one _) ?hg w6 ?hW ?_; (case hg => exact hn6); (case hW => exact hw6))
      | (refine wpList_load_has (by rfl) 37 _ rfl (w5.heap.size) rfl 37 (baseC (bAB)) _ Try.underlying37 rfl (base_size _) ?hg ?_; (case hg => first | exact hB))
      | (refine wpList_load_has (by rfl) 26 _ rfl (gO) rfl 26 (opC (opT p)) _ Try.underlying26 rfl (op_size _) ?hg ?_; (case hg => first | exact hO)))
    refine (S.do' bAB (opT p) _ bAB_ok hok).mono ?_
    rintro e w7 ⟨rfl, hq⟩
    replace hB := hB.later hq
    replace hb := hb.trans (hq.mono hb.size)
    clear hq hw6 hn6 hO
    generalize w5.heap.size = gb at *
    have hC0 := do_ok bAB_ok hok
    by_cases hlong : 16 < p + 0
    · have hlI : (16 : Int) < (p : Int) + ((0 : Nat) : Int) := by omega
      obtain ⟨hr2, hobj, hlast⟩ := trunc_long (p := p) (by omega)
      rw [hr2] at hC0 ⊢
      generalize (doM bAB (opT p)).1 = C at *
      clear hr2
      obtain ⟨w8, hw8, hn8, hC, hr, hq⟩ := do_vars w7 C ⟨2, []⟩
      replace hB := hB.later hq
      replace hb := hb.trans (hq.mono hb.size)
      clear hq
      have r0' : w8.cell? ⟨w7.heap.size + 1, 0, none⟩ = some (.int .u8 2) := (hr.cell 0).trans rfl
      have hCo := hC.objs_at
      have hBo := hB.objs_at
      rw [hobj] at hCo
      have e5 := eq_objs bAB bAB_ok
      have hsz := objs_size bAB.obj
      generalize objsL bAB.obj = L at *
      have c30 := (hC.cell 30).trans (baseC_last C 0 0 (.int .u32 2) (by rw [hlast]; rfl))
      have hCl : w8.rangeAt w7.heap.size 31 (resL ⟨2, []⟩) := hC.range _ _ (fun j v hj => by
        have hj2 : j < 2 := (List.getElem?_eq_some_iff.1 hj).1
        have := baseC_last C 0 (1 + j) v (by rw [hlast]; match j, hj2 with | 0, _ => exact hj | 1, _ => exact hj)
        rw [show 31 + j = 30 + (0 : Fin 3).val * 3 + (1 + j) by show 31 + j = 30 + 0 * 3 + (1 + j); omega]
        exact this)
      have e6 := eq_res ⟨2, []⟩ hC0.2.1 hC0.2.2
      go_wp2_with (first
        | (refine wpList_alloc_has (by rfl) 37 rfl (baseC base0) base_zero ?_)
        | (refine wpList_alloc_has (by rfl) 32 rfl (resC res0) res_zero ?_; rw [alloc_size])
        | (refine wpList_store_has (by rfl) 37 _ _ rfl w7.heap.size rfl (baseC C) rfl 37 (baseC base0) (base_size _) rfl (base_one _) ?hg ?_; (case hg => exact (Has.new _ _ _).alloc _))
        | (refine wpList_store_to (by rfl) 32 _ _ rfl (w7.heap.size + 1) rfl (resC (⟨2, []⟩ : ResV)) rfl 32 (resC res0) (res_size _) rfl (res_one _) ?hg w8 ?hW ?_; (case hg => exact hn8); (case hW => exact hw8))
        | (refine wpList_load_mid' (by rfl) 30 _ rfl w7.heap.size 0 rfl L _ ?hg Try.underlying30 rfl hsz ?_; (case hg => exact hCo))
        | (refine wpList_load_mid' (by rfl) 30 _ rfl gb 0 rfl L _ ?hg Try.underlying30 rfl hsz ?_; (case hg => exact hBo))
        | (refine wpList_bin_agg (by rfl) .eql 30 _ _ _ rfl L.toArray L.toArray rfl rfl (.bool true) guard_objs ?hg ?_; (case hg => exact e5 _))
        | (refine wpList_load_mid' (by rfl) 32 _ rfl w7.heap.size 31 rfl (resL ⟨2, []⟩) _ ?hg Try.underlying32 rfl (res_size ⟨2, []⟩) ?_; (case hg => exact hCl))
        | (refine wpList_load_has (by rfl) 32 _ rfl (w7.heap.size + 1) rfl 32 (resC ((⟨2, []⟩ : ResV))) _ Try.underlying32 rfl (res_size _) ?hg ?_; (case hg => first | exact hr))
        | (refine wpList_bin_agg (by rfl) .eql 32 _ _ _ rfl (resC ⟨2, []⟩) (resC ⟨2, []⟩) rfl rfl (.bool true) guard_res ?hg ?_; (case hg => exact e6 _)))
      go_ret
      exact ⟨rfl, hb⟩
    · have hlI : (p : Int) + ((0 : Nat) : Int) ≤ 16 := by omega
      obtain ⟨hr2, hlen⟩ := trunc_fits (p := p) (by omega)
      rw [hr2] at hC0 ⊢
      generalize (doM bAB (opT p)).1 = C at *
      clear hr2
      obtain ⟨w8, hw8, hn8, hC, hr, hq⟩ := do_vars w7 C ⟨0, []⟩
      replace hB := hB.later hq
      replace hb := hb.trans (hq.mono hb.size)
      clear hq
      have r0' : w8.cell? ⟨w7.heap.size + 1, 0, none⟩ = some (.int .u8 0) := (hr.cell 0).trans rfl
      have c1 := (hC.cell 1).trans (baseC_obj C 0 1 (.string (mkS (C.obj 0).data)) rfl)
      have hs := mkS_size (C.obj 0).data
      rw [hlen] at hs
      generalize mkS (C.obj 0).data = D at *
      go_wp2_with (first
        | (refine wpList_alloc_has (by rfl) 37 rfl (baseC base0) base_zero ?_)
        | (refine wpList_alloc_has (by rfl) 32 rfl (resC res0) res_zero ?_; rw [alloc_size])
        | (refine wpList_store_has (by rfl) 37 _ _ rfl w7.heap.size rfl (baseC C) rfl 37 (baseC base0) (base_size _) rfl (base_one _) ?hg ?_; (case hg => exact (Has.new _ _ _).alloc _))
        | (refine wpList_store_to (by rfl) 32 _ _ rfl (w7.heap.size + 1) rfl (resC (⟨0, []⟩ : ResV)) rfl 32 (resC res0) (res_size _) rfl (res_one _) ?hg w8 ?hW ?_; (case hg => exact hn8)); (case hW => exact hw8))
      all_goals
        go_ret
        refine ⟨retB ?_, hb⟩
        first
          | rfl
          | (simp; omega)
          | omega
end Go.Proofs.Ytjajfeplgilejab
