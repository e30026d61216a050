/- The contract of the document's Read. -/
import Derived.Test.YtjajfeplgilejaaDoorRefDo
import Derived.Test.YtjajfeplgilejaaDoorReadMath
import Derived.Laws.BytesArg
namespace Go.Proofs.YtjajfeplgilejaaDoor
set_option linter.unusedSimpArgs false
set_option linter.unusedVariables false
set_option maxRecDepth 100000
open Go.RowKit

theorem res_data (l : List UInt8) : Tryd.prog.built 28 [(1, .string (mkS l))] = some (resC ⟨0, l⟩) := by kernel_rfl

theorem run_convert_op {P : Program} {ev : Operand → Value} {o : Oper} {w : World} (s d : TypeId) (x : Operand) (ho : o.op = .convert s d x) (v r : Value) (hx : ev x = v) (h : (convert s d v).run P w = .ok r w) : (execOp ev o).run P w = .ok (.value r) w := by
  unfold execOp
  simp only [ho, hx]
  simp only [Sem.run_bind, h]
  rfl

theorem plan_is {P : Program} {ops : Array Oper} {Q : Exit → Act → World → Prop} {S : World → Prop} {i : Nat} {p : Plan} {a : Act} {w : World} (o : Oper) (v : Value) (ho : nth ops.toList i = some o) (hw : Region.wanted o (yielded ops a.tmps) = true)
    (hr : (execOp a.eval o).run P w = .ok (.value v) w) (hS : S w) (h : wpPlan P ops Q S p (a.put o.dst v) w) : wpPlan P ops Q S (Plan.run i p) a w := by
  refine plan_run o ho fun K hK => ?_
  rw [if_pos hw]
  unfold Oper.wp
  rw [hr]
  exact hK.out _ _ hS h

set_option maxHeartbeats 4000000 in
theorem refread_any (b : BaseV) (o : OpV) (w : World) (hb : BaseOk b) (ho : OpOk o) :
    Calls Tryd.prog 16 #[.agg (baseC b), .agg (opC o)] w fun e w' => e = .returned (.agg (resC (readM b o))) ∧ Below w.heap.size w w' := by
  have hB : Has (((w.alloc (.cells (baseC b) 33)).alloc (.cells (opC o) 35)).alloc (.cells (resC res0) 28)) w.heap.size 33 (baseC b) := ((Has.new _ _ _).alloc _).alloc _
  have hO : Has (((w.alloc (.cells (baseC b) 33)).alloc (.cells (opC o) 35)).alloc (.cells (resC res0) 28)) (w.heap.size + 1) 35 (opC o) := by
    have := (Has.new (w.alloc (.cells (baseC b) 33)) 35 (opC o)).alloc (.cells (resC res0) 28)
    simpa using this
  have hR : Has (((w.alloc (.cells (baseC b) 33)).alloc (.cells (opC o) 35)).alloc (.cells (resC res0) 28)) (w.heap.size + 1 + 1) 28 (resC res0) := by
    have := Has.new ((w.alloc (.cells (baseC b) 33)).alloc (.cells (opC o) 35)) 28 (resC res0)
    simpa using this
  have hbw : Below w.heap.size w (((w.alloc (.cells (baseC b) 33)).alloc (.cells (opC o) 35)).alloc (.cells (resC res0) 28)) := (((Below.refl _ _).alloc (Nat.le_refl _) _).alloc (by simp) _).alloc (by simp; omega) _
  go_enter Tryd.func16, Tryd.ntmps16
  go_wp2_with (first
    | (refine wpList_alloc_has (by rfl) 28 rfl (resC res0) res_zero ?_; generalize ((w.alloc (.cells (baseC b) 33)).alloc (.cells (opC o) 35)).alloc (.cells (resC res0) 28) = w0 at *)
    | (refine wpList_load_has (by rfl) 35 _ rfl (w.heap.size + 1) rfl 35 (opC o) _ Tryd.underlying35 rfl (op_size o) ?hg ?_; (case hg => exact hO)))
  refine (refisop_any o _ ho).mono ?_
  rintro e w1 ⟨rfl, hq⟩
  replace hB := hB.later hq
  replace hO := hO.later hq
  replace hR := hR.later hq
  replace hbw := hbw.trans (hq.mono hbw.size)
  clear hq
  have o2 := (hO.cell 2).trans (show (opC o)[2]? = some (.int .u8 (o.kind : Int)) from rfl)
  have hk := ho.kind
  by_cases hbad : isOpM o = true ∧ o.kind = 5
  · obtain ⟨h1, h2⟩ := hbad
    have hob := ((isOp_is o).1 h1).2.2.2.2.2.1
    rw [h2] at o2
    rw [h1]
    obtain ⟨i, hie⟩ : ∃ i, i = o.obj := ⟨_, rfl⟩
    have hi6 : i < 6 := by omega
    have hiI : (i : Int) < 6 := by omega
    have o3 := (hO.cell 3).trans (show (opC o)[3]? = some (.int .u8 (o.obj : Int)) from rfl)
    rw [← hie] at o3
    have hoo : objOf b o = b.obj ⟨i, hi6⟩ := by unfold objOf; rw [dif_pos (by omega)]; congr 1; exact Fin.ext hie.symm
    have hr1 := read_none (b := b) (o := o) ⟨h1, h2⟩
    have hr2 := read_yes (b := b) (o := o) ⟨h1, h2⟩
    rw [hoo] at hr1 hr2
    have hrow := hB.obj_at ⟨i, hi6⟩
    have hd1 := hb.data ⟨i, hi6⟩
    have hd2 := hb.a0 ⟨i, hi6⟩
    have hd3 := hb.a1 ⟨i, hi6⟩
    have hd4 := hb.a2 ⟨i, hi6⟩
    clear hoo hie h1 h2 hob hk
    generalize b.obj ⟨i, hi6⟩ = x at *
    have hg1 := hR.lt
    have hX := (Has.new w1 24 (objC obj0)).row (objC x)
    have hbb := below_setRow ((Below.refl w1.heap.size w1).alloc (Nat.le_refl _) (.cells (objC obj0) 24)) (Nat.le_refl _) (objC x)
    replace hR := hR.later hbb
    have hbw2 := hbw.trans (hbb.mono hbw.size)
    have x0 := (hX.cell 0).trans (show (objC x)[0]? = some (.bool x.there) from rfl)
    have x1 := (hX.cell 1).trans (show (objC x)[1]? = some (.string (mkS x.data)) from rfl)
    have hgl := hR.lt
    clear hbb hbw
    cases hth : x.there with
    | false =>
      rw [hth] at x0
      have hc : Hid _ := hr1 hth
      clear hr1 hr2 hth
      go_wp2_with (first
        | (refine wpList_load_mid' (by rfl) 24 _ rfl w.heap.size (i * 5) rfl (objL x) _ ?hg Tryd.underlying24 rfl (obj_size x) ?_; (case hg => exact hrow))
        | (refine wpList_alloc_has (by rfl) 24 rfl (objC obj0) obj_zero ?_)
        | (refine wpList_store_has (by rfl) 24 _ _ rfl w1.heap.size rfl (objC x) rfl 24 (objC obj0) (obj_size _) rfl (obj_one _) ?hg ?_; (case hg => exact Has.new _ _ _); generalize (w1.alloc (.cells (objC obj0) 24)).setRow w1.heap.size (objC x) = w2 at *; generalize w1.heap.size = gx at *)
        | (refine wpList_build_one (by rfl) 28 0 _ rfl (.int .u8 1) rfl (resC ⟨1, []⟩) (res_code 1) ?_)
        | (refine wpList_store_has (by rfl) 28 _ _ rfl (w.heap.size + 1 + 1) rfl (resC ⟨1, []⟩) rfl 28 (resC res0) (res_size _) rfl (res_one _) ?hg ?_; (case hg => exact hR)))
      exact ret_has rfl (w.heap.size + 1 + 1) rfl 28 (resC ⟨1, []⟩) _ Tryd.underlying28 rfl (res_size _) (hR.row _) rfl ⟨by rw [hc.out], below_setRow hbw2 (by omega) _⟩
    | true =>
      rw [hth] at x0
      have hc : Hid _ := hr2 hth
      clear hr1 hr2 hth
      go_wp2_with (first
        | (refine wpList_load_mid' (by rfl) 24 _ rfl w.heap.size (i * 5) rfl (objL x) _ ?hg Tryd.underlying24 rfl (obj_size x) ?_; (case hg => exact hrow))
        | (refine wpList_alloc_has (by rfl) 24 rfl (objC obj0) obj_zero ?_)
        | (refine wpList_store_has (by rfl) 24 _ _ rfl w1.heap.size rfl (objC x) rfl 24 (objC obj0) (obj_size _) rfl (obj_one _) ?hg ?_; (case hg => exact Has.new _ _ _); generalize (w1.alloc (.cells (objC obj0) 24)).setRow w1.heap.size (objC x) = w2 at *; generalize w1.heap.size = gx at *))
      clear x0 x1 hrow
      go_loopw [6, 7] (fun s i wr => ∃ k : Nat, k ≤ 3 ∧ i = .int .i64 k ∧ s = .string (mkS (readTo x k)) ∧ (readTo x k).length ≤ 1000 + k * 1003 ∧ Has wr gx 24 (objC x) ∧ Has wr (w.heap.size + 1 + 1) 28 (resC res0) ∧ Below w.heap.size w wr) (fun _ i _ => 3 - (intOf i).toNat)
      case atStart => exact ⟨0, by omega, rfl, rfl, by simpa [readTo] using hd1, hX, hR, hbw2⟩
      case round =>
        clear hX hR hbw2
        obtain ⟨k, hk3, rfl, rfl, hlen, hX, hR, hbr⟩ := hrel
        by_cases hlt : k < 3
        · have hkI : (k : Int) < 3 := by omega
          have ca := (hX.cell (2 + k)).trans (attr_cell x k hlt)
          have hVl : (x.attr k).length ≤ 1000 := attr_le k hd2 hd3 hd4
          have hst : Hid (readTo x (k + 1) = readTo x k ++ attrS k (x.attr k)) := rfl
          have hlen2 : Hid ((readTo x (k + 1)).length ≤ 1000 + (k + 1) * 1003) := by
            show _ ≤ _
            rw [hst.out, List.length_append]
            have := attrS_le k (x.attr k)
            omega
          generalize x.attr k = V at *
          generalize readTo x k = S at *
          have hem := mkS_isEmpty V
          by_cases hv : V.length = 0
          · have hV0 : attrS k V = [] := by unfold attrS; rw [if_pos (List.length_eq_zero_iff.1 hv)]
            have hst2 : Hid (readTo x (k + 1) = S) := by show _ = _; rw [hst.out, hV0, List.append_nil]
            rw [decide_eq_true hv] at hem
            clear hV0 hv
            go_wp2
            go_roundw
            case rel => exact ⟨k + 1, by omega, by go_num, by rw [hst2.out], hlen2.out, hX, hR, hbr⟩
            case measure => simp [intOf]; omega
          · rw [decide_eq_false hv] at hem
            have hV1 : attrS k V = 59 :: UInt8.ofNat (48 + k) :: 61 :: V := by unfold attrS; rw [if_neg (fun h => hv (by rw [h]; rfl))]
            obtain ⟨S1, hS1⟩ : ∃ L, L = S ++ [59] := ⟨_, rfl⟩
            obtain ⟨C, hC⟩ : ∃ L, L = [UInt8.ofNat (48 + k)] := ⟨_, rfl⟩
            obtain ⟨S2, hS2⟩ : ∃ L, L = S1 ++ C := ⟨_, rfl⟩
            obtain ⟨S3, hS3⟩ : ∃ L, L = S2 ++ [61] := ⟨_, rfl⟩
            obtain ⟨S4, hS4⟩ : ∃ L, L = S3 ++ V := ⟨_, rfl⟩
            have hst2 : Hid (readTo x (k + 1) = S4) := by show _ = _; rw [hst.out, hV1, hS4, hS3, hS2, hS1, hC]; simp
            have l1 : S1.length = S.length + 1 := by rw [hS1]; simp
            have l2 : S2.length = S.length + 2 := by rw [hS2, hC]; simp; omega
            have l3 : S3.length = S.length + 3 := by rw [hS3]; simp; omega
            have e1 : ∀ W : World, (Op.stringOp .add (mkS S) (ByteArray.mk #[59])).run Tryd.prog W = .ok (.string (mkS S1)) W := fun W => by rw [hS1]; exact addS W S [59] (by simp; omega)
            have e2 : ∀ W : World, (Op.stringOp .add (mkS S1) (mkS C)).run Tryd.prog W = .ok (.string (mkS S2)) W := fun W => by rw [hS2]; exact addS W S1 _ (by rw [hC]; simp; omega)
            have e3 : ∀ W : World, (Op.stringOp .add (mkS S2) (ByteArray.mk #[61])).run Tryd.prog W = .ok (.string (mkS S3)) W := fun W => by rw [hS3]; exact addS W S2 [61] (by simp; omega)
            have e4 : ∀ W : World, (Op.stringOp .add (mkS S3) (mkS V)).run Tryd.prog W = .ok (.string (mkS S4)) W := fun W => by rw [hS4]; exact addS W S3 V (by omega)
            have e5 : ∀ (W : World) (g : Nat), W.cell? ⟨g, 0, none⟩ = some (.int .u8 (48 + (k : Int))) → (convert 50 9 (.slice (some ⟨g, 0, none⟩) 1 1)).run Tryd.prog W = .ok (.string (mkS C)) W := fun W g hc => by
              have := run_convert_bytes_arg (P := Tryd.prog) W 50 5 Tryd.underlying50 Tryd.underlying5 g 0 1 1 [48 + (k : Int)] rfl (fun i hi => by
                obtain rfl : i = 0 := by omega
                exact hc) 9 Tryd.underlying9
              rw [this, hC]
              match k, hlt with
              | 0, _ => rfl
              | 1, _ => rfl
              | 2, _ => rfl
            have w1r : IntKind.i64.wrap (48 + (k : Int)) = 48 + (k : Int) := by
              simp [IntKind.wrap, IntKind.bits, IntKind.signed]
              omega
            have w2r : IntKind.u8.wrap (48 + (k : Int)) = 48 + (k : Int) := by
              simp [IntKind.wrap, IntKind.bits, IntKind.signed]
              omega
            clear hS1 hS2 hS3 hS4 l1 l2 l3 hV1 hC
            go_wp2
            refine wp_region_plan (fun W => Has W gx 24 (objC x)) (Plan.of [(0, true), (1, true), (2, true), (3, true), (4, true), (9, true), (10, true), (11, true), (12, true), (5, false), (6, false), (7, true), (8, true), (13, true), (14, true)] .done) (by kernel_rfl) (by kernel_rfl) (by kernel_rfl) (by kernel_rfl) hX.drew ?_
            iterate 1
              first
                | (refine plan_pass _ rfl (by rfl) ?_)
                | (refine plan_take _ _ rfl (.inl ⟨by rfl, fun W hS => by clear hS; go_simp; try with_reducible rfl⟩) ?_)
              try simp only [Act.put, List.setIfInBounds_toArray, List.set_cons_zero, List.set_cons_succ]
            refine plan_take _ (.string (mkS S1)) rfl (.inl ⟨by rfl, fun W hS => by clear hS; go_simp; try with_reducible rfl⟩) ?_
            try simp only [Act.put, List.setIfInBounds_toArray, List.set_cons_zero, List.set_cons_succ]
            iterate 1
              first
                | (refine plan_pass _ rfl (by rfl) ?_)
                | (refine plan_take _ _ rfl (.inl ⟨by rfl, fun W hS => by clear hS; go_simp; try with_reducible rfl⟩) ?_)
              try simp only [Act.put, List.setIfInBounds_toArray, List.set_cons_zero, List.set_cons_succ]
            refine plan_take _ (.int .i64 (48 + (k : Int))) rfl (.inl ⟨by rfl, fun W hS => by clear hS; go_simp; try with_reducible rfl⟩) ?_
            try simp only [Act.put, List.setIfInBounds_toArray, List.set_cons_zero, List.set_cons_succ]
            refine plan_take _ (.int .u8 (48 + (k : Int))) rfl (.inl ⟨by rfl, fun W hS => by clear hS; go_simp; try with_reducible rfl⟩) ?_
            try simp only [Act.put, List.setIfInBounds_toArray, List.set_cons_zero, List.set_cons_succ]
            iterate 3
              first
                | (refine plan_pass _ rfl (by rfl) ?_)
                | (refine plan_take _ _ rfl (.inl ⟨by rfl, fun W hS => by clear hS; go_simp; try with_reducible rfl⟩) ?_)
              try simp only [Act.put, List.setIfInBounds_toArray, List.set_cons_zero, List.set_cons_succ]
            have hcv : ∀ W, Has W gx 24 (objC x) → W.cell? ⟨gx, 2 + k, none⟩ = some (.string (mkS V)) := fun W hW => (hW.cell (2 + k)).trans ((hX.cell (2 + k)).symm.trans ca)
            iterate 1
              first
                | (refine plan_pass _ rfl (by rfl) ?_)
                | (refine plan_take _ _ rfl (.inl ⟨by rfl, fun W hS => by have z1 := hcv W hS; go_simp; try with_reducible rfl⟩) ?_)
              try simp only [Act.put, List.setIfInBounds_toArray, List.set_cons_zero, List.set_cons_succ]
            refine plan_run _ rfl (fun K hK => ?_)
            go_simp
            have hc5 := (Has.new wr.drew 5 #[.int .u8 (48 + (k : Int))]).cell 0
            have hX5 := hX.drew.alloc (.cells #[.int .u8 (48 + (k : Int))] 5)
            have hR5 := hR.drew.alloc (.cells #[.int .u8 (48 + (k : Int))] 5)
            have hb5 := hbr.drew.alloc hbr.size (.cells #[.int .u8 (48 + (k : Int))] 5)
            have hc5 : (wr.drew.alloc (.cells #[.int .u8 (48 + (k : Int))] 5)).cell? ⟨wr.drew.heap.size, 0, none⟩ = some (.int .u8 (48 + (k : Int))) := hc5
            have he5 := e5 _ _ hc5
            refine hK.out _ (wr.drew.alloc (.cells #[.int .u8 (48 + (k : Int))] 5)) hX5 ?_
            clear hK K hc5 e5
            generalize wr.drew.alloc (.cells #[.int .u8 (48 + (k : Int))] 5) = w6 at *
            refine plan_is _ (.string (mkS C)) rfl (by rfl) (run_convert_op 50 9 _ rfl (.slice (some ⟨wr.drew.heap.size, 0, none⟩) 1 1) _ rfl he5) hX5 ?_
            try simp only [Act.put, List.setIfInBounds_toArray, List.set_cons_zero, List.set_cons_succ]
            refine plan_take _ (.string (mkS S2)) rfl (.inl ⟨by rfl, fun W hS => by clear hS; go_simp; try with_reducible rfl⟩) ?_
            try simp only [Act.put, List.setIfInBounds_toArray, List.set_cons_zero, List.set_cons_succ]
            refine plan_take _ (.string (mkS S3)) rfl (.inl ⟨by rfl, fun W hS => by clear hS; go_simp; try with_reducible rfl⟩) ?_
            try simp only [Act.put, List.setIfInBounds_toArray, List.set_cons_zero, List.set_cons_succ]
            refine plan_take _ (.string (mkS S4)) rfl (.inl ⟨by rfl, fun W hS => by clear hS; go_simp; try with_reducible rfl⟩) ?_
            try simp only [Act.put, List.setIfInBounds_toArray, List.set_cons_zero, List.set_cons_succ]
            iterate 1
              first
                | (refine plan_pass _ rfl (by rfl) ?_)
                | (refine plan_take _ _ rfl (.inl ⟨by rfl, fun W hS => by clear hS; go_simp; try with_reducible rfl⟩) ?_)
              try simp only [Act.put, List.setIfInBounds_toArray, List.set_cons_zero, List.set_cons_succ]
            refine plan_done ?_
            clear he5 e1 e2 e3 e4
            go_wp2
            go_roundw
            case rel => exact ⟨k + 1, by omega, by go_num, by rw [hst2.out], hlen2.out, hX5, hR5, hb5⟩
            case measure => simp [intOf]; omega
        · have e3 : k = 3 := by omega
          subst e3
          go_wp2_with (first
            | (refine wpList_build_one (by rfl) 28 1 _ rfl (.string (mkS (readTo x 3))) rfl (resC ⟨0, readTo x 3⟩) (res_data _) ?_)
            | (refine wpList_store_has (by rfl) 28 _ _ rfl (w.heap.size + 1 + 1) rfl (resC ⟨0, readTo x 3⟩) rfl 28 (resC res0) (res_size _) rfl (res_one _) ?hg ?_; (case hg => exact hR)))
          exact ret_has rfl (w.heap.size + 1 + 1) rfl 28 (resC ⟨0, readTo x 3⟩) _ Tryd.underlying28 rfl (res_size _) (hR.row _) rfl ⟨by rw [hc.out], below_setRow hbr (by omega) _⟩
  · have hc : Hid _ := read_bad (b := b) hbad
    cases hi : isOpM o with
    | false =>
      clear hbad
      go_wp2_with (first
        | (refine wpList_build_one (by rfl) 28 0 _ rfl (.int .u8 3) rfl (resC ⟨3, []⟩) (res_code 3) ?_)
        | (refine wpList_store_has (by rfl) 28 _ _ rfl (w.heap.size + 1 + 1) rfl (resC ⟨3, []⟩) rfl 28 (resC res0) (res_size _) rfl (res_one _) ?hg ?_; (case hg => exact hR)))
      exact ret_has rfl (w.heap.size + 1 + 1) rfl 28 (resC ⟨3, []⟩) _ Tryd.underlying28 rfl (res_size _) (hR.row _) rfl ⟨by rw [hc.out], below_setRow hbw (by omega) _⟩
    | true =>
      have hk5 : ¬ (o.kind = 5) := fun h => hbad ⟨hi, h⟩
      have hkb : ((o.kind : Int) == 5) = false := by rw [beq_eq_false_iff_ne]; omega
      have hkc : (o.kind == 5) = false := by rw [beq_eq_false_iff_ne]; exact hk5
      clear hbad hk5
      go_wp2_with (first
        | (refine wpList_build_one (by rfl) 28 0 _ rfl (.int .u8 3) rfl (resC ⟨3, []⟩) (res_code 3) ?_)
        | (refine wpList_store_has (by rfl) 28 _ _ rfl (w.heap.size + 1 + 1) rfl (resC ⟨3, []⟩) rfl 28 (resC res0) (res_size _) rfl (res_one _) ?hg ?_; (case hg => exact hR)))
      exact ret_has rfl (w.heap.size + 1 + 1) rfl 28 (resC ⟨3, []⟩) _ Tryd.underlying28 rfl (res_size _) (hR.row _) rfl ⟨by rw [hc.out], below_setRow hbw (by omega) _⟩
end Go.Proofs.YtjajfeplgilejaaDoor
