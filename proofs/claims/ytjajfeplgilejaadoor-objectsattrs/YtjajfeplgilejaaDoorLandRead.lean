/- The contracts of an object's text and of objects.Read (over the library's contract of strconv.Itoa). -/
import Derived.Test.YtjajfeplgilejaaDoorShelfItoa
import Derived.Test.YtjajfeplgilejaaDoorLandDo
import Derived.Test.YtjajfeplgilejaaDoorReadMath
namespace Go.Proofs.YtjajfeplgilejaaDoor
set_option linter.unusedSimpArgs false
set_option linter.unusedVariables false
set_option maxRecDepth 100000
open Go.RowKit

theorem itoa_any (k : Nat) (w : World) (hk : k < 3) : Calls Tryd.prog 27 #[.int .i64 (k : Int)] w fun e w' => e = .returned (.string (mkS [UInt8.ofNat (48 + k)])) ∧ w' = w := by
  have h := Any.strconv_Itoa_small lay171 k (by omega) w
  have e : Lib.decDigits k = [UInt8.ofNat (48 + k)] := by
    unfold Lib.decDigits
    rw [dif_pos (by omega)]
  rw [e] at h
  exact h

theorem attrs_size (x : ObjV) : (Tryd.prog.info? 22).map (·.size) = some [strV x.a0, strV x.a1, strV x.a2].toArray.size := by show _ = some 3; kernel_rfl
theorem Has.attrs_at {w : World} {g : Nat} {t : TypeId} {x : ObjV} (h : Has w g t (objC x)) : w.rangeAt g 2 [strV x.a0, strV x.a1, strV x.a2] := h.range _ _ fun j v hj => by
  have hj3 : j < 3 := (List.getElem?_eq_some_iff.1 hj).1
  match j, hj3 with
  | 0, _ => exact hj
  | 1, _ => exact hj
  | 2, _ => exact hj
theorem idx0 (x : ObjV) (W : World) : (Instr.index 22 (.agg [strV x.a0, strV x.a1, strV x.a2].toArray) (.int .i64 0)).run Tryd.prog W = .ok (.string (mkS x.a0)) W := by kernel_rfl
theorem idx1 (x : ObjV) (W : World) : (Instr.index 22 (.agg [strV x.a0, strV x.a1, strV x.a2].toArray) (.int .i64 1)).run Tryd.prog W = .ok (.string (mkS x.a1)) W := by kernel_rfl
theorem idx2 (x : ObjV) (W : World) : (Instr.index 22 (.agg [strV x.a0, strV x.a1, strV x.a2].toArray) (.int .i64 2)).run Tryd.prog W = .ok (.string (mkS x.a2)) W := by kernel_rfl
theorem run_index_attr (x : ObjV) (k : Nat) (hk : k < 3) (W : World) : (Instr.index 22 (.agg [strV x.a0, strV x.a1, strV x.a2].toArray) (.int .i64 (k : Int))).run Tryd.prog W = .ok (.string (mkS (x.attr k))) W := by
  match k, hk with
  | 0, _ => exact idx0 x W
  | 1, _ => exact idx1 x W
  | 2, _ => exact idx2 x W

set_option maxHeartbeats 2000000 in
theorem text_any (x : ObjV) (w : World) (h : ObjOk x) : Calls Tryd.prog 21 #[.agg (objC x)] w fun e w' => e = .returned (.string (mkS (readTo x 3))) ∧ Below w.heap.size w w' := by
  have hX := Has.new w 52 (objC x)
  have hb := (Below.refl w.heap.size w).alloc (Nat.le_refl _) (.cells (objC x) 52)
  obtain ⟨w0, hw0⟩ : ∃ W, w.alloc (.cells (objC x) 52) = W := ⟨_, rfl⟩
  rw [hw0] at hX hb
  have x1 := (hX.cell 1).trans (show (objC x)[1]? = some (.string (mkS x.data)) from rfl)
  have hat := hX.attrs_at
  have hsz := attrs_size x
  have hd1 := h.data
  have hd2 := h.a0
  have hd3 := h.a1
  have hd4 := h.a2
  have hidx := fun (k : Nat) (hk : k < 3) (W : World) => run_index_attr x k hk W
  generalize [strV x.a0, strV x.a1, strV x.a2] = L at *
  go_enter Tryd.func21, Tryd.ntmps21
  go_wp2_with (first
    | (refine wpList_load_mid' (by rfl) 22 _ rfl w.heap.size 2 rfl L _ ?hg Tryd.underlying22 rfl hsz ?_; (case hg => exact hat)))
  go_loopw [3, 10] (fun s i wr => ∃ k : Nat, k ≤ 3 ∧ i = .int .i64 k ∧ s = .string (mkS (readTo x k)) ∧ (readTo x k).length ≤ 1000 + k * 1003 ∧ Below w.heap.size w wr) (fun _ i _ => 3 - (intOf i).toNat)
  case atStart => exact ⟨0, by omega, rfl, rfl, by simpa [readTo] using hd1, hb⟩
  case round =>
    clear hX hb hat x1
    obtain ⟨k, hk3, rfl, rfl, hlen, hbr⟩ := hrel
    by_cases hlt : k < 3
    · have hkI : (k : Int) < 3 := by omega
      have hix := hidx k hlt
      have hVl : (x.attr k).length ≤ 1000 := attr_le k hd2 hd3 hd4
      have hst : Hid (readTo x (k + 1) = readTo x k ++ attrS k (x.attr k)) := rfl
      have hlen2 : Hid ((readTo x (k + 1)).length ≤ 1000 + (k + 1) * 1003) := by
        show _ ≤ _
        rw [hst.out, List.length_append]
        have := attrS_le k (x.attr k)
        omega
      clear hidx
      generalize x.attr k = V at *
      generalize readTo x k = S at *
      have hem := mkS_isEmpty V
      by_cases hv : V.length = 0
      · have hV0 : attrS k V = [] := by unfold attrS; rw [if_pos (List.length_eq_zero_iff.1 hv)]
        have hst2 : Hid (readTo x (k + 1) = S) := by show _ = _; rw [hst.out, hV0, List.append_nil]
        rw [decide_eq_true hv] at hem
        clear hV0 hv
        go_wp2_with fail
        go_roundw
        case rel => exact ⟨k + 1, by omega, by go_num, by rw [hst2.out], hlen2.out, hbr⟩
        case measure => simp [intOf]; omega
      · rw [decide_eq_false hv] at hem
        have hV1 : attrS k V = 59 :: UInt8.ofNat (48 + k) :: 61 :: V := by unfold attrS; rw [if_neg (fun h => hv (by rw [h]; rfl))]
        have hit := fun W => itoa_any k W hlt
        obtain ⟨C, hC⟩ : ∃ L, L = [UInt8.ofNat (48 + k)] := ⟨_, rfl⟩
        rw [← hC] at hit
        obtain ⟨T1, hT1⟩ : ∃ L, L = [59] ++ C := ⟨_, rfl⟩
        obtain ⟨T2, hT2⟩ : ∃ L, L = T1 ++ [61] := ⟨_, rfl⟩
        obtain ⟨T3, hT3⟩ : ∃ L, L = T2 ++ V := ⟨_, rfl⟩
        obtain ⟨S4, hS4⟩ : ∃ L, L = S ++ T3 := ⟨_, rfl⟩
        have hst2 : Hid (readTo x (k + 1) = S4) := by show _ = _; rw [hst.out, hV1, hS4, hT3, hT2, hT1, hC]; simp
        have l1 : T1.length = 2 := by rw [hT1, hC]; rfl
        have l2 : T2.length = 3 := by rw [hT2, List.length_append, l1]; rfl
        have l3 : T3.length = 3 + V.length := by rw [hT3, List.length_append, l2]
        have e1 : ∀ W : World, (Op.stringOp .add (ByteArray.mk #[59]) (mkS C)).run Tryd.prog W = .ok (.string (mkS T1)) W := fun W => by rw [hT1]; exact addS W [59] C (by rw [hC]; show 1 + 1 ≤ _; decide)
        have e2 : ∀ W : World, (Op.stringOp .add (mkS T1) (ByteArray.mk #[61])).run Tryd.prog W = .ok (.string (mkS T2)) W := fun W => by rw [hT2]; exact addS W T1 [61] (by rw [l1]; decide)
        have e3 : ∀ W : World, (Op.stringOp .add (mkS T2) (mkS V)).run Tryd.prog W = .ok (.string (mkS T3)) W := fun W => by rw [hT3]; exact addS W T2 V (by omega)
        have e4 : ∀ W : World, (Op.stringOp .add (mkS S) (mkS T3)).run Tryd.prog W = .ok (.string (mkS S4)) W := fun W => by rw [hS4]; exact addS W S T3 (by omega)
        clear hT1 hT2 hT3 hS4 l1 l2 l3 hV1 hC
        go_wp2_with fail
        refine (hit _).mono ?_
        rintro e w6 ⟨rfl, rfl⟩
        go_wp2_with fail
        go_roundw
        case rel => exact ⟨k + 1, by omega, by go_num, by rw [hst2.out], hlen2.out, hbr⟩
        case measure => simp [intOf]; omega
    · have e3 : k = 3 := by omega
      subst e3
      go_wp2_with fail
      go_ret
      exact ⟨rfl, hbr⟩

theorem lres_bad : Tryd.prog.built 28 [(0, .int .u8 3)] = some (resC ⟨3, []⟩) := by kernel_rfl
theorem lres_none : Tryd.prog.built 28 [(0, .int .u8 1)] = some (resC ⟨1, []⟩) := by kernel_rfl
theorem lres_data (l : List UInt8) : Tryd.prog.built 28 [(0, .int .u8 0), (1, .string (mkS l))] = some (resC ⟨0, l⟩) := by kernel_rfl

set_option maxHeartbeats 2000000 in
theorem read_any (b : BaseV) (o : OpV) (w : World) (hb : BaseOk b) (ho : OpOk o) :
    Calls Tryd.prog 15 #[.agg (baseC b), .agg (opC o)] w fun e w' => e = .returned (.agg (resC (readM b o))) ∧ Below w.heap.size w w' := by
  have hB : Has (((w.alloc (.cells (baseC b) 33)).alloc (.cells (opC o) 35)).alloc (.cells (resC res0) 28)) w.heap.size 33 (baseC b) := ((Has.new _ _ _).alloc _).alloc _
  have hO : Has (((w.alloc (.cells (baseC b) 33)).alloc (.cells (opC o) 35)).alloc (.cells (resC res0) 28)) (w.heap.size + 1) 35 (opC o) := by
    have := (Has.new (w.alloc (.cells (baseC b) 33)) 35 (opC o)).alloc (.cells (resC res0) 28)
    simpa using this
  have hR : Has (((w.alloc (.cells (baseC b) 33)).alloc (.cells (opC o) 35)).alloc (.cells (resC res0) 28)) (w.heap.size + 1 + 1) 28 (resC res0) := by
    have := Has.new ((w.alloc (.cells (baseC b) 33)).alloc (.cells (opC o) 35)) 28 (resC res0)
    simpa using this
  have hbw : Below w.heap.size w (((w.alloc (.cells (baseC b) 33)).alloc (.cells (opC o) 35)).alloc (.cells (resC res0) 28)) := (((Below.refl _ _).alloc (Nat.le_refl _) _).alloc (by simp) _).alloc (by simp; omega) _
  go_enter Tryd.func15, Tryd.ntmps15
  go_wp2_with (first
    | (refine wpList_alloc_has (by rfl) 28 rfl (resC res0) res_zero ?_; generalize ((w.alloc (.cells (baseC b) 33)).alloc (.cells (opC o) 35)).alloc (.cells (resC res0) 28) = w0 at *)
    | (refine wpList_load_has (by rfl) 35 _ rfl (w.heap.size + 1) rfl 35 (opC o) _ Tryd.underlying35 rfl (op_size o) ?hg ?_; (case hg => exact hO)))
  refine (isop_any o _ ho).mono ?_
  rintro e w1 ⟨rfl, hq⟩
  replace hB := hB.later hq
  replace hO := hO.later hq
  replace hR := hR.later hq
  replace hbw := hbw.trans (hq.mono hbw.size)
  clear hq
  have o2 := (hO.cell 2).trans (show (opC o)[2]? = some (.int .u8 (o.kind : Int)) from rfl)
  have hk := ho.kind
  cases hi : isOpM o with
  | false =>
    have hc : Hid _ := read_bad (b := b) (o := o) (fun h => by rw [hi] at h; cases h.1)
    go_wp2_with (first
      | (refine wpList_build_one (by rfl) 28 0 _ rfl (.int .u8 3) rfl (resC ⟨3, []⟩) lres_bad ?_)
      | (refine wpList_store_has (by rfl) 28 _ _ rfl (w.heap.size + 1 + 1) rfl (resC ⟨3, []⟩) rfl 28 (resC res0) (res_size _) rfl (res_one _) ?hg ?_; (case hg => exact hR)))
    exact ret_has rfl (w.heap.size + 1 + 1) rfl 28 (resC ⟨3, []⟩) _ Tryd.underlying28 rfl (res_size _) (hR.row _) rfl ⟨by rw [hc.out], below_setRow hbw (by omega) _⟩
  | true =>
  by_cases h5 : o.kind = 5
  · rw [h5] at o2
    have hob := ((isOp_is o).1 hi).2.2.2.2.2.1
    obtain ⟨i, hie⟩ : ∃ i, i = o.obj := ⟨_, rfl⟩
    have hi6 : i < 6 := by omega
    have hiI : (i : Int) < 6 := by omega
    have o3 := (hO.cell 3).trans (show (opC o)[3]? = some (.int .u8 (o.obj : Int)) from rfl)
    rw [← hie] at o3
    have hoo : objOf b o = b.obj ⟨i, hi6⟩ := by unfold objOf; rw [dif_pos (by omega)]; congr 1; exact Fin.ext hie.symm
    have hr1 := read_none (b := b) (o := o) ⟨hi, h5⟩
    have hr2 := read_yes (b := b) (o := o) ⟨hi, h5⟩
    rw [hoo] at hr1 hr2
    have hrow := hB.obj_at ⟨i, hi6⟩
    have hxo := hb.obj ⟨i, hi6⟩
    clear hoo hie h5 hob hk
    generalize b.obj ⟨i, hi6⟩ = x at *
    have hX := (Has.new w1 52 (objC obj0)).row (objC x)
    have hbb := below_setRow ((Below.refl w1.heap.size w1).alloc (Nat.le_refl _) (.cells (objC obj0) 52)) (Nat.le_refl _) (objC x)
    obtain ⟨w2, hw2⟩ : ∃ W, (w1.alloc (.cells (objC obj0) 52)).setRow w1.heap.size (objC x) = W := ⟨_, rfl⟩
    rw [hw2] at hX hbb
    replace hR := hR.later hbb
    replace hbw := hbw.trans (hbb.mono hbw.size)
    have x0 := (hX.cell 0).trans (show (objC x)[0]? = some (.bool x.there) from rfl)
    clear hbb
    cases hth : x.there with
    | false =>
      rw [hth] at x0
      have hc : Hid _ := hr1 hth
      go_wp2_with (first
        | (refine wpList_load_mid' (by rfl) 24 _ rfl w.heap.size (i * 5) rfl (objL x) _ ?hg Tryd.underlying24 rfl (obj_size x) ?_; (case hg => exact hrow))
        | (refine wpList_alloc_has (by rfl) 52 rfl (objC obj0) own_zero ?_)
        | (refine wpList_store_to (by rfl) 52 _ _ rfl w1.heap.size rfl (objC x) rfl 52 (objC obj0) (own_size _) rfl (obj_one _) ?hg w2 ?hW ?_; (case hg => exact Has.new _ _ _); (case hW => exact hw2); clear hw2)
        | (refine wpList_build_one (by rfl) 28 0 _ rfl (.int .u8 1) rfl (resC ⟨1, []⟩) lres_none ?_)
        | (refine wpList_store_has (by rfl) 28 _ _ rfl (w.heap.size + 1 + 1) rfl (resC ⟨1, []⟩) rfl 28 (resC res0) (res_size _) rfl (res_one _) ?hg ?_; (case hg => exact hR)))
      exact ret_has rfl (w.heap.size + 1 + 1) rfl 28 (resC ⟨1, []⟩) _ Tryd.underlying28 rfl (res_size _) (hR.row _) rfl ⟨by rw [hc.out], below_setRow hbw (by omega) _⟩
    | true =>
      rw [hth] at x0
      have hc : Hid _ := hr2 hth
      have htx := fun W => text_any x W hxo
      generalize readTo x 3 = T at *
      go_wp2_with (first
        | (refine wpList_load_mid' (by rfl) 24 _ rfl w.heap.size (i * 5) rfl (objL x) _ ?hg Tryd.underlying24 rfl (obj_size x) ?_; (case hg => exact hrow))
        | (refine wpList_alloc_has (by rfl) 52 rfl (objC obj0) own_zero ?_)
        | (refine wpList_store_to (by rfl) 52 _ _ rfl w1.heap.size rfl (objC x) rfl 52 (objC obj0) (own_size _) rfl (obj_one _) ?hg w2 ?hW ?_; (case hg => exact Has.new _ _ _); (case hW => exact hw2); clear hw2)
        | (refine wpList_load_has (by rfl) 52 _ rfl w1.heap.size rfl 52 (objC x) _ Tryd.underlying52 rfl (own_size x) ?hg ?_; (case hg => exact hX)))
      refine (htx _).mono ?_
      rintro e w3 ⟨rfl, hq⟩
      replace hR := hR.later hq
      replace hbw := hbw.trans (hq.mono hbw.size)
      clear hq
      go_wp2_with (first
        | (refine wpList_build_two (by rfl) 28 0 1 _ _ rfl (.int .u8 0) (.string (mkS T)) rfl rfl (resC ⟨0, T⟩) (lres_data T) ?_)
        | (refine wpList_store_has (by rfl) 28 _ _ rfl (w.heap.size + 1 + 1) rfl (resC ⟨0, T⟩) rfl 28 (resC res0) (res_size _) rfl (res_one _) ?hg ?_; (case hg => exact hR)))
      exact ret_has rfl (w.heap.size + 1 + 1) rfl 28 (resC ⟨0, T⟩) _ Tryd.underlying28 rfl (res_size _) (hR.row _) rfl ⟨by rw [hc.out], below_setRow hbw (by omega) _⟩
  · have hc : Hid _ := read_bad (b := b) (o := o) (fun h => h5 h.2)
    have h5I : ((o.kind : Int) == 5) = false := by rw [beq_eq_false_iff_ne]; omega
    have h5P : ¬ ((o.kind : Int) = 5) := by omega
    generalize o.kind = kd at *
    go_wp2_with (first
      | (refine wpList_build_one (by rfl) 28 0 _ rfl (.int .u8 3) rfl (resC ⟨3, []⟩) lres_bad ?_)
      | (refine wpList_store_has (by rfl) 28 _ _ rfl (w.heap.size + 1 + 1) rfl (resC ⟨3, []⟩) rfl 28 (resC res0) (res_size _) rfl (res_one _) ?hg ?_; (case hg => exact hR)))
    exact ret_has rfl (w.heap.size + 1 + 1) rfl 28 (resC ⟨3, []⟩) _ Tryd.underlying28 rfl (res_size _) (hR.row _) rfl ⟨by rw [hc.out], below_setRow hbw (by omega) _⟩
end Go.Proofs.YtjajfeplgilejaaDoor
