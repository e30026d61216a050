/- ObjectsBytes, walked. -/
import Derived.Test.YtjajfeplgilejaaOwnMore
import Derived.Test.YtjajfeplgilejaaPlanMem
namespace Go.Proofs.Ytjajfeplgilejaa
set_option linter.unusedSimpArgs false
set_option linter.unusedVariables false
set_option maxRecDepth 100000
open Go.RowKit

theorem OwnB.form {w : World} {B : Nat} {v : Value} {D : List UInt8} (h : OwnB w B v D) : ∃ ao cap, v = .slice ao D.length cap ∧ D.length ≤ cap ∧ cap ≤ 9223372036854775807 := by
  rcases h.cases with ⟨rfl, rfl⟩ | ⟨g, cap, rfl, hle, hm, _⟩
  · exact ⟨none, 0, rfl, Nat.le_refl _, by decide⟩
  · exact ⟨_, cap, rfl, hle, hm⟩

section
variable {P : Program} {ops : Array Oper} {rest : List Oper} {o : Oper} {a : Act} {w : World} {Q : Exit → Act → World → Prop} {S : World → Prop}
theorem wpList_append_run (hw : Region.wanted o (yielded ops a.tmps) = true) (s x : Operand) (t : TypeId) (ho : o.op = .call { callee := .builtin .append, args := #[s, x], argTypes := #[t, t] }) (v xv : Value) (hs : a.eval s = v) (hx : a.eval x = xv) (v' : Value) (W : World) (hr : (Builtin.append_ #[t, t] o.type #[v, xv]).run P w = .ok v' W)
    (h : wpList P ops Q rest (a.put o.dst v') W) : wpList P ops Q (o :: rest) a w := by
  refine BigFrame.wpList_want hw fun K hK => ?_
  have e : (execOp a.eval o).run P w = .ok (.value v') W := by
    unfold execOp
    simp only [ho, resolve, invoke, builtin, Sem.run_bind, Sem.run_pure, Result.andThen_ok, List.map_toArray, List.map_cons, List.map_nil, hs, hx, hr]
  unfold Oper.wp
  rw [e]
  exact hK _ _ h
theorem plan_copy_run {i : Nat} {p : Plan} (o : Oper) (ho : nth ops.toList i = some o) (hw : Region.wanted o (yielded ops a.tmps) = true) (s x : Operand) (t u : TypeId) (hop : o.op = .call { callee := .builtin .copy, args := #[s, x], argTypes := #[t, u] }) (v xv : Value) (hs : a.eval s = v) (hx : a.eval x = xv) (v' : Value) (W : World) (hr : (Builtin.copy_ #[t, u] o.type #[v, xv]).run P w = .ok v' W)
    (hS : S W) (h : wpPlan P ops Q S p (a.put o.dst v') W) : wpPlan P ops Q S (Plan.run i p) a w := by
  refine plan_run o ho fun K hK => ?_
  rw [if_pos hw]
  have e : (execOp a.eval o).run P w = .ok (.value v') W := by
    unfold execOp
    simp only [hop, resolve, invoke, builtin, Sem.run_bind, Sem.run_pure, Result.andThen_ok, List.map_toArray, List.map_cons, List.map_nil, hs, hx, hr]
  unfold Oper.wp
  rw [e]
  exact hK.out _ _ hS h
end

theorem at_open {P : Program} {ops : Array Oper} {rest : List Oper} {d : Option Tmp} {op : Op} {t : TypeId} {p : String} {af : Array Edge} {a : Act} {w : World} {Q : Exit → Act → World → Prop} (h : wpList P ops Q (⟨d, op, t, p, af, none⟩ :: rest) a w) : wpList P ops Q (⟨d, op, t, p, af, none⟩ :: rest) a w := h
theorem isop_as {o : OpV} (h : isOpM o = true) (hk : o.kind = 1 ∨ o.kind = 2 ∨ o.kind = 4) : writesM o = true := (writes_is o).2 ⟨h, by omega⟩

set_option maxHeartbeats 16000000 in
theorem bytes_walk (S : ObjSpec) (ao : Option Addr) (c : Nat) (l : List OpV) (w : World) (h : Sl w ao c 6 (opR l)) (hl : ∀ x ∈ l, OpOk x) :
    Calls Try.prog 5 #[.slice ao l.length c] w fun e w' => e = .returned (.bool true) ∧ Below w.heap.size w w' := by
  have hle := h.le
  have hol : (opR l).length = l.length := by unfold opR; rw [List.length_map]
  rw [hol] at hle
  have hcap := h.cap
  go_enter Try.func5, Try.ntmps5
  go_wp2_with fail
  refine (oknown_any S _).mono ?_
  rintro e w1 ⟨rfl, hb⟩
  by_cases hlong : 40 < l.length
  · have hI : (40 : Int) < (l.length : Int) := by omega
    clear hlong
    go_wp2_with fail
    go_ret
    exact ⟨rfl, hb⟩
  have hI : ¬ ((40 : Int) < (l.length : Int)) := by omega
  have hI2 : (l.length : Int) ≤ 40 := by omega
  obtain ⟨w2, hw2, hB, hq⟩ := base_var w1 base0
  have hgbw : w.heap.size ≤ w1.heap.size := hb.size
  replace hb := hb.trans (hq.mono hb.size)
  clear hq
  go_wp2_with (first
    | (refine wpList_build_has (by rfl) 35 #[] rfl (baseC base0) (by simpa using base_built) ?_)
    | (refine wpList_alloc_has (by rfl) 35 rfl (baseC base0) base_zero ?_)
    | (refine wpList_store_to (by rfl) 35 _ _ rfl w1.heap.size rfl (baseC base0) rfl 35 (baseC base0) (base_size _) rfl (base_one _) ?hg w2 ?hW ?_; (case hg => exact Has.new _ _ _); (case hW => exact hw2); clear hw2; generalize w1.heap.size = gb at *))
  go_loopw [4, 5, 6] (fun v t i wr => ∃ (n : Nat) (th : Bool) (D : List UInt8) (B : BaseV) (bo : Option Addr) (cap : Nat), n ≤ l.length ∧ i = .int .i64 n ∧ t = .bool th ∧ v = .slice bo D.length cap ∧ D.length ≤ cap ∧ cap ≤ 9223372036854775807 ∧ OwnB wr w.heap.size (.slice bo D.length cap) D ∧ D.length ≤ 16 ∧ BytesAt B n th D ∧ BaseOk B ∧ Has wr gb 35 (baseC B) ∧ Below w.heap.size w wr) (fun _ _ i _ => l.length - (intOf i).toNat)
  case atStart => exact ⟨0, false, [], base0, none, 0, Nat.zero_le _, rfl, rfl, rfl, Nat.le_refl _, by decide, OwnB.nil _ _, by decide, bytes_zero, base0_ok, hB, hb⟩
  case round =>
    clear hB hb
    obtain ⟨n, th, D, B, bo, cap, hn, rfl, rfl, rfl, hDc, hcm, hOw, hD16, hBA, hBo, hB, hb⟩ := hrel
    by_cases hlt : n < l.length
    · cases ao with
      | none => have := h.nil rfl; omega
      | some ad =>
        have hci := op_at (h.later hb) n hlt
        have hon := hl l[n] (List.getElem_mem hlt)
        have i1 : (n : Int) < (l.length : Int) := by omega
        generalize l[n] = y at *
        obtain ⟨w3, hw3, hY, hq⟩ := op_var wr y
        have hgy : w.heap.size ≤ wr.heap.size := hb.size
        have hgn : gb < wr.heap.size := hB.lt
        have hOw3 := hOw.later hq
        have hB3 := hB.later hq
        have hb3 := hb.trans (hq.mono hb.size)
        clear hq
        have y0 := (hY.cell 0).trans (show (opC y)[0]? = some (.int .u8 (y.client : Int)) from rfl)
        have f0 := hY.free 0
        obtain ⟨w4, hw4⟩ : ∃ W, w3.setCell ⟨wr.heap.size, 0, none⟩ (.int .u8 1) = W := ⟨_, rfl⟩
        have hY4 : Has w4 wr.heap.size 42 (opC { y with client := 1 }) := hw4 ▸ hY.set 0 _
        have y1 := (hY4.cell 1).trans (show (opC { y with client := 1 })[1]? = some (.int .u32 (y.seq : Int)) from rfl)
        have f1 := hY4.free 1
        obtain ⟨w5, hw5⟩ : ∃ W, w4.setCell ⟨wr.heap.size, 1, none⟩ (.int .u32 ((n : Int) + 1)) = W := ⟨_, rfl⟩
        have hY5 : Has w5 wr.heap.size 42 (opC { y with client := 1, seq := n + 1 }) := hw5 ▸ hY4.set 1 _
        have y3 := (hY5.cell 3).trans (show (opC { y with client := 1, seq := n + 1 })[3]? = some (.int .u8 (y.obj : Int)) from rfl)
        have f3 := hY5.free 3
        obtain ⟨w6, hw6⟩ : ∃ W, w5.setCell ⟨wr.heap.size, 3, none⟩ (.int .u8 2) = W := ⟨_, rfl⟩
        have hY6 : Has w6 wr.heap.size 42 (opC { y with client := 1, seq := n + 1, obj := 2 }) := hw6 ▸ hY5.set 3 _
        have hk6 : ∀ k, k ≠ wr.heap.size → w6.heap[k]? = w3.heap[k]? := fun k hk => by
          rw [← hw6, ← hw5, ← hw4]
          rw [Below.heap_setCell _ ⟨wr.heap.size, 3, none⟩ _ k (fun e => hk e), Below.heap_setCell _ ⟨wr.heap.size, 1, none⟩ _ k (fun e => hk e), Below.heap_setCell _ ⟨wr.heap.size, 0, none⟩ _ k (fun e => hk e)]
        have hB6 : Has w6 gb 35 (baseC B) := by
          unfold Has
          rw [hk6 gb (by omega)]
          exact hB3
        have hOw6 := hOw3.of (w' := w6) (fun g hg => hk6 g (by have := hOw.lt hg; omega))
        have hb6 : Below w.heap.size w w6 := by
          rw [← hw6, ← hw5, ← hw4]
          exact ((hb3.setCell (show w.heap.size ≤ (⟨wr.heap.size, 0, none⟩ : Addr).block from hgy) _).setCell (show w.heap.size ≤ (⟨wr.heap.size, 1, none⟩ : Addr).block from hgy) _).setCell (show w.heap.size ≤ (⟨wr.heap.size, 3, none⟩ : Addr).block from hgy) _
        have hwn1 : IntKind.u32.wrap (n : Int) = (n : Int) := by
          simp [IntKind.wrap, IntKind.bits, IntKind.signed]
          omega
        have hwn2 : IntKind.u32.wrap ((n : Int) + 1) = (n : Int) + 1 := by
          simp [IntKind.wrap, IntKind.bits, IntKind.signed]
          omega
        have hzo : OpOk { y with client := 1, seq := n + 1, obj := 2 } := ⟨by show 1 < 256; decide, by show n + 1 < _; omega, hon.kind, by show 2 < 256; decide, hon.pos, hon.data⟩
        obtain ⟨z, hz⟩ : ∃ z : OpV, z = { y with client := 1, seq := n + 1, obj := 2 } := ⟨_, rfl⟩
        rw [← hz] at hzo hY6
        have hz1 : z.client = 1 := by rw [hz]
        have hz2 : z.seq = n + 1 := by rw [hz]
        have hz3 : z.obj = 2 := by rw [hz]
        have z2 := (hY6.cell 2).trans (show (opC z)[2]? = some (.int .u8 (z.kind : Int)) from rfl)
        clear hz hB hOw hb hB3 hOw3 hb3 hk6 hY5
        have hzk := hzo.kind
        by_cases hkk : z.kind = 1 ∨ z.kind = 2 ∨ z.kind = 4
        · rcases hkk with hkd | hkd | hkd
          · have hkk : z.kind = 1 ∨ z.kind = 2 ∨ z.kind = 4 := .inl hkd
            rw [hkd] at z2
            go_wp2_with (first
              | (refine wpList_load_any (by rfl) 42 _ rfl _ rfl (opL y) _ ?hg Try.underlying42 rfl (op_size y) ?_; (case hg => exact hci))
              | (refine wpList_alloc_has (by rfl) 42 rfl (opC op0) zop_zero ?_)
              | (refine wpList_store_to (by rfl) 42 _ _ rfl wr.heap.size rfl (opC y) rfl 42 (opC op0) (op_size _) rfl (op_one _) ?hg w3 ?hW ?_; (case hg => exact Has.new _ _ _); (case hW => exact hw3); clear hw3; generalize wr.heap.size = go at *)
              | (refine wpList_load_has (by rfl) 42 _ rfl (go) rfl 42 (opC (z)) _ Try.underlying42 rfl (op_size _) ?hg ?_; (case hg => first | exact hY6)))
            refine (S.isop z _ hzo).mono ?_
            rintro e w7 ⟨rfl, hq⟩
            replace hY6 := hY6.later hq
            replace hB6 := hB6.later hq
            replace hOw6 := hOw6.later hq
            replace hb6 := hb6.trans (hq.mono hb6.size)
            clear hq z2 y0 y1 y3 f0 f1 f3 hw4 hw5 hw6 hY hY4
            cases hip : isOpM z with
            | false =>
              go_wp2_with fail
              go_roundw
              case rel => exact ⟨n + 1, _, D, B, bo, cap, by omega, by go_num, rfl, rfl, hDc, hcm, hOw6, hD16, hBA.skip, hBo, hB6, hb6⟩
              case measure => simp [intOf]; omega
            | true =>
            have hwz := isop_as hip hkk
            have hdl := (writes_client hwz).2.2.2.2.2
            have hdlI : (z.data.length : Int) ≤ 16 := by omega
            go_wp2_with (first
              | (refine wpList_load_has (by rfl) 35 _ rfl (gb) rfl 35 (baseC (B)) _ Try.underlying35 rfl (base_size _) ?hg ?_; (case hg => first | exact hB6))
              | (refine wpList_load_has (by rfl) 42 _ rfl (go) rfl 42 (opC (z)) _ Try.underlying42 rfl (op_size _) ?hg ?_; (case hg => first | exact hY6)))
            refine (S.do' B z _ hBo hzo).mono ?_
            rintro e w8 ⟨rfl, hq⟩
            replace hY6 := hY6.later hq
            replace hB6 := hB6.later hq
            replace hOw6 := hOw6.later hq
            replace hb6 := hb6.trans (hq.mono hb6.size)
            clear hq
            have hCo := do_ok hBo hzo
            by_cases hfit : z.pos + z.data.length ≤ 16
            · have hBA2 := hBA.write hz1 hz2 hz3 hwz hkd hfit
              generalize (doM B z).1 = C at *
              generalize hre : (doM B z).2 = r at *
              obtain ⟨w9, hw9, hn9, hC, hr, hq⟩ := do_vars w8 C r
              replace hY6 := hY6.later hq
              replace hB6 := hB6.later hq
              replace hOw6 := hOw6.later hq
              replace hb6 := hb6.trans (hq.mono hb6.size)
              clear hq
              have z2 := (hY6.cell 2).trans (show (opC z)[2]? = some (.int .u8 (z.kind : Int)) from rfl)
              have z4 := (hY6.cell 4).trans (show (opC z)[4]? = some (.int .u8 (z.pos : Int)) from rfl)
              have z5 := (hY6.cell 5).trans (show (opC z)[5]? = some (.string (mkS z.data)) from rfl)
              have r0 := (hr.cell 0).trans (show (resC r)[0]? = some (.int .u8 (r.code : Int)) from rfl)
              have hrc := hCo.2.1
              have hzp := hzo.pos
              have hzpI : (z.pos : Int) < 256 := by omega
              have hzs := mkS_size z.data
              rw [hkd] at z2
              have hfI : (z.pos : Int) + (z.data.length : Int) ≤ 16 := by omega
              have hfd : decide ((z.pos : Int) + (z.data.length : Int) ≤ 16) = true := decide_eq_true hfI
              go_wp2_with ((with_reducible refine at_open ?_); first
                | (refine wpList_alloc_has (by rfl) 35 rfl (baseC base0) base_zero ?_)
                | (refine wpList_alloc_has (by rfl) 30 rfl (resC res0) res_zero ?_; rw [alloc_size])
                | (refine wpList_store_has (by rfl) 35 _ _ rfl w8.heap.size rfl (baseC C) rfl 35 (baseC base0) (base_size _) rfl (base_one _) ?hg ?_; (case hg => exact (Has.new _ _ _).alloc _))
                | (refine wpList_store_to (by rfl) 30 _ _ rfl (w8.heap.size + 1) rfl (resC r) rfl 30 (resC res0) (res_size _) rfl (res_one _) ?hg w9 ?hW ?_; (case hg => exact hn9)); (case hW => exact hw9))
              clear z2 z4 z5 r0 hw9 hn9 hr
              generalize w8.heap.size = gc at *
              obtain ⟨m, hm⟩ : ∃ m, m = z.pos + z.data.length := ⟨_, rfl⟩
              go_loopw [4] (fun v wr => ∃ (E : List UInt8) (eo : Option Addr) (ec : Nat), v = .slice eo E.length ec ∧ E.length ≤ ec ∧ ec ≤ 9223372036854775807 ∧ OwnB wr w.heap.size (.slice eo E.length ec) E ∧ padS E m = padS D m ∧ E.length ≤ 16 ∧ Has wr go 42 (opC z) ∧ Has wr gb 35 (baseC B) ∧ Has wr gc 35 (baseC C) ∧ Below w.heap.size w wr) (fun v _ => m - lenV v)
              case atStart => exact ⟨D, bo, cap, rfl, hDc, hcm, hOw6, rfl, hD16, hY6, hB6, hC, hb6⟩
              case round =>
                clear hOw6 hY6 hB6 hC hb6
                obtain ⟨E, eo, ec, rfl, hEc, hem, hOw6, hpad, hE16, hY6, hB6, hC, hb6⟩ := hrel
                by_cases hlt2 : E.length < m
                · have hlI : (E.length : Int) < (z.pos : Int) + (z.data.length : Int) := by omega
                  have hzE := E.length
                  have q4 := (hY6.cell 4).trans (show (opC z)[4]? = some (.int .u8 (z.pos : Int)) from rfl)
                  have q5 := (hY6.cell 5).trans (show (opC z)[5]? = some (.string (mkS z.data)) from rfl)
                  have hO1 := hOw6.later ((Below.refl wr.heap.size wr).alloc (Nat.le_refl _) (.cells #[.int .u8 0] 5))
                  have hA1 := (Below.refl wr.heap.size wr).alloc (Nat.le_refl _) (.cells #[.int .u8 0] 5)
                  obtain ⟨v', w2, hrun, ho2, hk2⟩ := hO1.append 48 ⟨wr.heap.size, 0, none⟩ 1 [0] (fun j u hj => by
                    have hj1 : j < 1 := (List.getElem?_eq_some_iff.1 hj).1
                    obtain rfl : j = 0 := by omega
                    rw [Addr.add_mid]
                    exact ((Has.new wr 5 #[.int .u8 0]).cell 0).trans hj) (by show E.length + 1 ≤ 1000; omega) (by have := hb6.size; simp; omega)
                  obtain ⟨eo2, ec2, rfl, hc2, hm2⟩ := ho2.form
                  have hY2 := hk2.has hO1 (hY6.later hA1) (by decide)
                  have hB2 := hk2.has hO1 (hB6.later hA1) (by decide)
                  have hC2 := hk2.has hO1 (hC.later hA1) (by decide)
                  have hb2 := hk2.below _ (hb6.alloc hb6.size (.cells #[.int .u8 0] 5))
                  have hpd : padS (E ++ [0]) m = padS D m := by rw [padS_step hlt2, hpad]
                  clear hO1 hA1 hk2
                  go_wp2_with (first
                    | (refine wpList_append_run (by rfl) _ _ 48 rfl (.slice eo E.length ec) (.slice (some ⟨wr.heap.size, 0, none⟩) 1 1) rfl rfl (.slice eo2 (E ++ [0]).length ec2) w2 ?hg ?_; (case hg => exact hrun)))
                  go_roundw
                  case rel => exact ⟨E ++ [0], eo2, ec2, by first | rfl | simp, hc2, hm2, ho2, hpd, by rw [List.length_append]; show E.length + 1 ≤ 16; omega, hY2, hB2, hC2, hb2⟩
                  case measure => simp [lenV]; omega
                · have hlI : ¬ ((E.length : Int) < (z.pos : Int) + (z.data.length : Int)) := by omega
                  have hE : E = padS D m := by rw [← hpad, padS_end (by omega)]
                  have hOd : OwnB wr.drew w.heap.size (.slice eo E.length ec) E := hOw6.of (fun _ _ => rfl)
                  obtain ⟨sv, w11, hsl, ⟨rv, hcp⟩, hO11, hk11⟩ := hOd.copy 3 z.pos z.data (by omega)
                  obtain ⟨Wd, hWd⟩ : ∃ L, L = writeS D z.pos z.data := ⟨_, rfl⟩
                  have hEq : E.take z.pos ++ z.data ++ E.drop (z.pos + z.data.length) = Wd := by rw [hE, hm, hWd]; exact bytes_write D z.data z.pos
                  rw [hEq] at hO11
                  rw [← hWd] at hBA2
                  have hWl : Wd.length = E.length := by
                    rw [← hEq, List.length_append, List.length_append, List.length_take, List.length_drop]
                    omega
                  have hY11 := hk11.has hOd hY6.drew (by decide)
                  have hBz := hk11.has hOd hB6.drew (by decide)
                  have hCz := hk11.has hOd hC.drew (by decide)
                  have hbz := hk11.below _ hb6.drew
                  have q4 := (hY6.cell 4).trans (show (opC z)[4]? = some (.int .u8 (z.pos : Int)) from rfl)
                  have q5 := (hY6.cell 5).trans (show (opC z)[5]? = some (.string (mkS z.data)) from rfl)
                  have q4W := fun W (hW : Has W go 42 (opC z)) => (hW.cell 4).trans (show (opC z)[4]? = some (.int .u8 (z.pos : Int)) from rfl)
                  have q5W := fun W (hW : Has W go 42 (opC z)) => (hW.cell 5).trans (show (opC z)[5]? = some (.string (mkS z.data)) from rfl)
                  have hOz := hO11
                  clear hk11 hO11 hE hpad hWd hEq
                  go_wp2_with fail
                  refine wp_region_plan (fun W => Has W go 42 (opC z)) (Plan.of [(0, true), (1, true), (2, true), (3, true), (4, true), (5, true), (6, false)] .done) (by kernel_rfl) (by kernel_rfl) (by kernel_rfl) (by kernel_rfl) hY6.drew ?_
                  iterate 2
                    first
                      | (refine plan_pass _ rfl (by rfl) ?_)
                      | (refine plan_take _ _ rfl (.inl ⟨by rfl, fun W hS => by clear hS; go_simp; try with_reducible rfl⟩) ?_)
                    try simp only [Act.put, List.setIfInBounds_toArray, List.set_cons_zero, List.set_cons_succ]
                  iterate 1
                    first
                      | (refine plan_pass _ rfl (by rfl) ?_)
                      | (refine plan_take _ _ rfl (.inl ⟨by rfl, fun W hS => by have z1 := q4W W hS; go_simp; try with_reducible rfl⟩) ?_)
                    try simp only [Act.put, List.setIfInBounds_toArray, List.set_cons_zero, List.set_cons_succ]
                  refine plan_take _ sv rfl (.inl ⟨by rfl, fun W hS => by clear hS; go_simp; try with_reducible rfl⟩) ?_
                  try simp only [Act.put, List.setIfInBounds_toArray, List.set_cons_zero, List.set_cons_succ]
                  iterate 1
                    first
                      | (refine plan_pass _ rfl (by rfl) ?_)
                      | (refine plan_take _ _ rfl (.inl ⟨by rfl, fun W hS => by clear hS; go_simp; try with_reducible rfl⟩) ?_)
                    try simp only [Act.put, List.setIfInBounds_toArray, List.set_cons_zero, List.set_cons_succ]
                  iterate 1
                    first
                      | (refine plan_pass _ rfl (by rfl) ?_)
                      | (refine plan_take _ _ rfl (.inl ⟨by rfl, fun W hS => by have z1 := q5W W hS; go_simp; try with_reducible rfl⟩) ?_)
                    try simp only [Act.put, List.setIfInBounds_toArray, List.set_cons_zero, List.set_cons_succ]
                  refine plan_copy_run _ rfl (by rfl) _ _ 48 9 rfl sv (.string (mkS z.data)) rfl rfl rv w11 hcp hY11 ?_
                  try simp only [Act.put, List.setIfInBounds_toArray, List.set_cons_zero, List.set_cons_succ]
                  refine plan_done ?_
                  clear q4 q5 q4W q5W hcp hsl hOd
                  have hgne := hOz.ne hBz (by decide)
                  have hBy := hBz.row (baseC C)
                  have hOy := hOz.of (w' := w11.setRow gb (baseC C)) (fun g hg => setRow_other w11 gb g (baseC C) (fun e => hgne (by rw [← e]; exact hg)))
                  have hby := below_setRow hbz hgbw (baseC C)
                  obtain ⟨wY, hwY⟩ : ∃ W, w11.setRow gb (baseC C) = W := ⟨_, rfl⟩
                  rw [hwY] at hBy hOy hby
                  have c10 := (hBy.cell 10).trans (baseC_obj C 2 0 (.bool true) (by rw [show objL (C.obj 2) = [.bool (C.obj 2).there, strV (C.obj 2).data, strV (C.obj 2).a0, strV (C.obj 2).a1, strV (C.obj 2).a2] from rfl, hBA2.there]; rfl))
                  have c11 := (hBy.cell 11).trans (baseC_obj C 2 1 (.string (mkS Wd)) (by rw [show objL (C.obj 2) = [.bool (C.obj 2).there, strV (C.obj 2).data, strV (C.obj 2).a0, strV (C.obj 2).a1, strV (C.obj 2).a2] from rfl, hBA2.data]; rfl))
                  have hcv := hOy.conv
                  go_wp2_with ((with_reducible refine at_open ?_); first
                    | (refine wpList_alloc_has (by rfl) 35 rfl (baseC base0) base_zero ?_)
                    | (refine wpList_alloc_has (by rfl) 30 rfl (resC res0) res_zero ?_; rw [alloc_size])
                    | (refine wpList_store_has (by rfl) 35 _ _ rfl w8.heap.size rfl (baseC C) rfl 35 (baseC base0) (base_size _) rfl (base_one _) ?hg ?_; (case hg => exact (Has.new _ _ _).alloc _))
                    | (refine wpList_store_to (by rfl) 30 _ _ rfl (w8.heap.size + 1) rfl (resC r) rfl 30 (resC res0) (res_size _) rfl (res_one _) ?hg w9 ?hW ?_; (case hg => exact hn9); (case hW => exact hw9))
                    | (refine wpList_load_has (by rfl) 35 _ rfl gc rfl 35 (baseC C) _ Try.underlying35 rfl (base_size _) ?hg ?_; (case hg => exact hCz))
                    | (refine wpList_store_to (by rfl) 35 _ _ rfl gb rfl (baseC C) rfl 35 (baseC B) (base_size _) rfl (base_one _) ?hg wY ?hW ?_; (case hg => exact hBz); (case hW => exact hwY); clear hwY))
                  go_roundw
                  case rel => exact ⟨n + 1, true, Wd, C, eo, ec, by omega, by go_num, rfl, by rw [hWl], by omega, hem, by rw [hWl]; exact hOy, by omega, hBA2, hCo.1, hBy, hby⟩
                  case measure => simp [intOf]; omega
            · have hBA2 := (hBA.not hz1 hz2 hz3 hwz hkk (fun h => hfit h.2) (fun h => absurd h.1 (by omega)) (fun h => absurd h.1 (by omega))).2
              have hcd := (hBA.not hz1 hz2 hz3 hwz hkk (fun h => hfit h.2) (fun h => absurd h.1 (by omega)) (fun h => absurd h.1 (by omega))).1
              generalize (doM B z).1 = C at *
              generalize hre : (doM B z).2 = r at *
              obtain ⟨w9, hw9, hn9, hC, hr, hq⟩ := do_vars w8 C r
              replace hY6 := hY6.later hq
              replace hB6 := hB6.later hq
              replace hOw6 := hOw6.later hq
              replace hb6 := hb6.trans (hq.mono hb6.size)
              clear hq
              have z2 := (hY6.cell 2).trans (show (opC z)[2]? = some (.int .u8 (z.kind : Int)) from rfl)
              have z4 := (hY6.cell 4).trans (show (opC z)[4]? = some (.int .u8 (z.pos : Int)) from rfl)
              have z5 := (hY6.cell 5).trans (show (opC z)[5]? = some (.string (mkS z.data)) from rfl)
              have r0 := (hr.cell 0).trans (show (resC r)[0]? = some (.int .u8 (r.code : Int)) from rfl)
              have hrc := hCo.2.1
              have hzp := hzo.pos
              have hzpI : (z.pos : Int) < 256 := by omega
              have hzs := mkS_size z.data
              rw [hkd] at z2
              have hcdI : ((r.code : Int) == 0) = false := by rw [beq_eq_false_iff_ne]; omega
              have hcdP : ¬ ((r.code : Int) = 0) := by omega
              have hBz := hB6
              have hOz := hOw6
              have hbz := hb6
              have hCz := hC
              generalize r.code = rcd at *
              have hfI : ¬ ((z.pos : Int) + (z.data.length : Int) ≤ 16) := by omega
              have hfJ : (16 : Int) < (z.pos : Int) + (z.data.length : Int) := by omega
              have hfd : decide ((z.pos : Int) + (z.data.length : Int) ≤ 16) = false := decide_eq_false hfI
              have hgne := hOz.ne hBz (by decide)
              have hBy := hBz.row (baseC C)
              have hOy := hOz.of (w' := w9.setRow gb (baseC C)) (fun g hg => setRow_other w9 gb g (baseC C) (fun e => hgne (by rw [← e]; exact hg)))
              have hby := below_setRow hbz hgbw (baseC C)
              obtain ⟨wY, hwY⟩ : ∃ W, w9.setRow gb (baseC C) = W := ⟨_, rfl⟩
              rw [hwY] at hBy hOy hby
              have c10 := (hBy.cell 10).trans (baseC_obj C 2 0 (.bool th) (by rw [show objL (C.obj 2) = [.bool (C.obj 2).there, strV (C.obj 2).data, strV (C.obj 2).a0, strV (C.obj 2).a1, strV (C.obj 2).a2] from rfl, hBA2.there]; rfl))
              have c11 := (hBy.cell 11).trans (baseC_obj C 2 1 (.string (mkS D)) (by rw [show objL (C.obj 2) = [.bool (C.obj 2).there, strV (C.obj 2).data, strV (C.obj 2).a0, strV (C.obj 2).a1, strV (C.obj 2).a2] from rfl, hBA2.data]; rfl))
              have hcv := hOy.conv
              go_wp2_with ((with_reducible refine at_open ?_); first
                | (refine wpList_alloc_has (by rfl) 35 rfl (baseC base0) base_zero ?_)
                | (refine wpList_alloc_has (by rfl) 30 rfl (resC res0) res_zero ?_; rw [alloc_size])
                | (refine wpList_store_has (by rfl) 35 _ _ rfl w8.heap.size rfl (baseC C) rfl 35 (baseC base0) (base_size _) rfl (base_one _) ?hg ?_; (case hg => exact (Has.new _ _ _).alloc _))
                | (refine wpList_store_to (by rfl) 30 _ _ rfl (w8.heap.size + 1) rfl (resC r) rfl 30 (resC res0) (res_size _) rfl (res_one _) ?hg w9 ?hW ?_; (case hg => exact hn9); (case hW => exact hw9))
                | (refine wpList_load_has (by rfl) 35 _ rfl w8.heap.size rfl 35 (baseC C) _ Try.underlying35 rfl (base_size _) ?hg ?_; (case hg => exact hCz))
                | (refine wpList_store_to (by rfl) 35 _ _ rfl gb rfl (baseC C) rfl 35 (baseC B) (base_size _) rfl (base_one _) ?hg wY ?hW ?_; (case hg => exact hBz); (case hW => exact hwY); clear hwY))
              go_roundw
              case rel => exact ⟨n + 1, th, D, C, bo, cap, by omega, by go_num, rfl, by first | rfl | simp, hDc, hcm, hOy, hD16, hBA2, hCo.1, hBy, hby⟩
              case measure => simp [intOf]; omega
          · have hkk : z.kind = 1 ∨ z.kind = 2 ∨ z.kind = 4 := .inr (.inl hkd)
            rw [hkd] at z2
            go_wp2_with (first
              | (refine wpList_load_any (by rfl) 42 _ rfl _ rfl (opL y) _ ?hg Try.underlying42 rfl (op_size y) ?_; (case hg => exact hci))
              | (refine wpList_alloc_has (by rfl) 42 rfl (opC op0) zop_zero ?_)
              | (refine wpList_store_to (by rfl) 42 _ _ rfl wr.heap.size rfl (opC y) rfl 42 (opC op0) (op_size _) rfl (op_one _) ?hg w3 ?hW ?_; (case hg => exact Has.new _ _ _); (case hW => exact hw3); clear hw3; generalize wr.heap.size = go at *)
              | (refine wpList_load_has (by rfl) 42 _ rfl (go) rfl 42 (opC (z)) _ Try.underlying42 rfl (op_size _) ?hg ?_; (case hg => first | exact hY6)))
            refine (S.isop z _ hzo).mono ?_
            rintro e w7 ⟨rfl, hq⟩
            replace hY6 := hY6.later hq
            replace hB6 := hB6.later hq
            replace hOw6 := hOw6.later hq
            replace hb6 := hb6.trans (hq.mono hb6.size)
            clear hq z2 y0 y1 y3 f0 f1 f3 hw4 hw5 hw6 hY hY4
            cases hip : isOpM z with
            | false =>
              go_wp2_with fail
              go_roundw
              case rel => exact ⟨n + 1, _, D, B, bo, cap, by omega, by go_num, rfl, rfl, hDc, hcm, hOw6, hD16, hBA.skip, hBo, hB6, hb6⟩
              case measure => simp [intOf]; omega
            | true =>
            have hwz := isop_as hip hkk
            have hdl := (writes_client hwz).2.2.2.2.2
            have hdlI : (z.data.length : Int) ≤ 16 := by omega
            go_wp2_with (first
              | (refine wpList_load_has (by rfl) 35 _ rfl (gb) rfl 35 (baseC (B)) _ Try.underlying35 rfl (base_size _) ?hg ?_; (case hg => first | exact hB6))
              | (refine wpList_load_has (by rfl) 42 _ rfl (go) rfl 42 (opC (z)) _ Try.underlying42 rfl (op_size _) ?hg ?_; (case hg => first | exact hY6)))
            refine (S.do' B z _ hBo hzo).mono ?_
            rintro e w8 ⟨rfl, hq⟩
            replace hY6 := hY6.later hq
            replace hB6 := hB6.later hq
            replace hOw6 := hOw6.later hq
            replace hb6 := hb6.trans (hq.mono hb6.size)
            clear hq
            have hCo := do_ok hBo hzo
            cases th with
            | false =>
              have hBA2 := (hBA.not hz1 hz2 hz3 hwz hkk (fun h => absurd h.1 (by omega)) (fun h => absurd h.2.1 (by decide)) (fun h => absurd h.1 (by omega))).2
              have hcd := (hBA.not hz1 hz2 hz3 hwz hkk (fun h => absurd h.1 (by omega)) (fun h => absurd h.2.1 (by decide)) (fun h => absurd h.1 (by omega))).1
              generalize (doM B z).1 = C at *
              generalize hre : (doM B z).2 = r at *
              obtain ⟨w9, hw9, hn9, hC, hr, hq⟩ := do_vars w8 C r
              replace hY6 := hY6.later hq
              replace hB6 := hB6.later hq
              replace hOw6 := hOw6.later hq
              replace hb6 := hb6.trans (hq.mono hb6.size)
              clear hq
              have z2 := (hY6.cell 2).trans (show (opC z)[2]? = some (.int .u8 (z.kind : Int)) from rfl)
              have z4 := (hY6.cell 4).trans (show (opC z)[4]? = some (.int .u8 (z.pos : Int)) from rfl)
              have z5 := (hY6.cell 5).trans (show (opC z)[5]? = some (.string (mkS z.data)) from rfl)
              have r0 := (hr.cell 0).trans (show (resC r)[0]? = some (.int .u8 (r.code : Int)) from rfl)
              have hrc := hCo.2.1
              have hzp := hzo.pos
              have hzpI : (z.pos : Int) < 256 := by omega
              have hzs := mkS_size z.data
              rw [hkd] at z2
              have hcdI : ((r.code : Int) == 0) = false := by rw [beq_eq_false_iff_ne]; omega
              have hcdP : ¬ ((r.code : Int) = 0) := by omega
              have hBz := hB6
              have hOz := hOw6
              have hbz := hb6
              have hCz := hC
              generalize r.code = rcd at *
              have hgne := hOz.ne hBz (by decide)
              have hBy := hBz.row (baseC C)
              have hOy := hOz.of (w' := w9.setRow gb (baseC C)) (fun g hg => setRow_other w9 gb g (baseC C) (fun e => hgne (by rw [← e]; exact hg)))
              have hby := below_setRow hbz hgbw (baseC C)
              obtain ⟨wY, hwY⟩ : ∃ W, w9.setRow gb (baseC C) = W := ⟨_, rfl⟩
              rw [hwY] at hBy hOy hby
              have c10 := (hBy.cell 10).trans (baseC_obj C 2 0 (.bool false) (by rw [show objL (C.obj 2) = [.bool (C.obj 2).there, strV (C.obj 2).data, strV (C.obj 2).a0, strV (C.obj 2).a1, strV (C.obj 2).a2] from rfl, hBA2.there]; rfl))
              have c11 := (hBy.cell 11).trans (baseC_obj C 2 1 (.string (mkS D)) (by rw [show objL (C.obj 2) = [.bool (C.obj 2).there, strV (C.obj 2).data, strV (C.obj 2).a0, strV (C.obj 2).a1, strV (C.obj 2).a2] from rfl, hBA2.data]; rfl))
              have hcv := hOy.conv
              go_wp2_with ((with_reducible refine at_open ?_); first
                | (refine wpList_alloc_has (by rfl) 35 rfl (baseC base0) base_zero ?_)
                | (refine wpList_alloc_has (by rfl) 30 rfl (resC res0) res_zero ?_; rw [alloc_size])
                | (refine wpList_store_has (by rfl) 35 _ _ rfl w8.heap.size rfl (baseC C) rfl 35 (baseC base0) (base_size _) rfl (base_one _) ?hg ?_; (case hg => exact (Has.new _ _ _).alloc _))
                | (refine wpList_store_to (by rfl) 30 _ _ rfl (w8.heap.size + 1) rfl (resC r) rfl 30 (resC res0) (res_size _) rfl (res_one _) ?hg w9 ?hW ?_; (case hg => exact hn9); (case hW => exact hw9))
                | (refine wpList_load_has (by rfl) 35 _ rfl w8.heap.size rfl 35 (baseC C) _ Try.underlying35 rfl (base_size _) ?hg ?_; (case hg => exact hCz))
                | (refine wpList_store_to (by rfl) 35 _ _ rfl gb rfl (baseC C) rfl 35 (baseC B) (base_size _) rfl (base_one _) ?hg wY ?hW ?_; (case hg => exact hBz); (case hW => exact hwY); clear hwY))
              go_roundw
              case rel => exact ⟨n + 1, false, D, C, bo, cap, by omega, by go_num, rfl, by first | rfl | simp, hDc, hcm, hOy, hD16, hBA2, hCo.1, hBy, hby⟩
              case measure => simp [intOf]; omega
            | true =>
            by_cases hfit : z.pos ≤ 16
            · have hBA2 := hBA.trunc hz1 hz2 hz3 hwz hkd hfit
              generalize (doM B z).1 = C at *
              generalize hre : (doM B z).2 = r at *
              obtain ⟨w9, hw9, hn9, hC, hr, hq⟩ := do_vars w8 C r
              replace hY6 := hY6.later hq
              replace hB6 := hB6.later hq
              replace hOw6 := hOw6.later hq
              replace hb6 := hb6.trans (hq.mono hb6.size)
              clear hq
              have z2 := (hY6.cell 2).trans (show (opC z)[2]? = some (.int .u8 (z.kind : Int)) from rfl)
              have z4 := (hY6.cell 4).trans (show (opC z)[4]? = some (.int .u8 (z.pos : Int)) from rfl)
              have z5 := (hY6.cell 5).trans (show (opC z)[5]? = some (.string (mkS z.data)) from rfl)
              have r0 := (hr.cell 0).trans (show (resC r)[0]? = some (.int .u8 (r.code : Int)) from rfl)
              have hrc := hCo.2.1
              have hzp := hzo.pos
              have hzpI : (z.pos : Int) < 256 := by omega
              have hzs := mkS_size z.data
              rw [hkd] at z2
              have hfI : (z.pos : Int) ≤ 16 := by omega
              have hfd : decide ((z.pos : Int) ≤ 16) = true := decide_eq_true hfI
              go_wp2_with ((with_reducible refine at_open ?_); first
                | (refine wpList_alloc_has (by rfl) 35 rfl (baseC base0) base_zero ?_)
                | (refine wpList_alloc_has (by rfl) 30 rfl (resC res0) res_zero ?_; rw [alloc_size])
                | (refine wpList_store_has (by rfl) 35 _ _ rfl w8.heap.size rfl (baseC C) rfl 35 (baseC base0) (base_size _) rfl (base_one _) ?hg ?_; (case hg => exact (Has.new _ _ _).alloc _))
                | (refine wpList_store_to (by rfl) 30 _ _ rfl (w8.heap.size + 1) rfl (resC r) rfl 30 (resC res0) (res_size _) rfl (res_one _) ?hg w9 ?hW ?_; (case hg => exact hn9)); (case hW => exact hw9))
              clear z2 z4 z5 r0 hw9 hn9 hr
              generalize w8.heap.size = gc at *
              obtain ⟨m, hm⟩ : ∃ m, m = z.pos := ⟨_, rfl⟩
              go_loopw [4] (fun v wr => ∃ (E : List UInt8) (eo : Option Addr) (ec : Nat), v = .slice eo E.length ec ∧ E.length ≤ ec ∧ ec ≤ 9223372036854775807 ∧ OwnB wr w.heap.size (.slice eo E.length ec) E ∧ padS E m = padS D m ∧ E.length ≤ 16 ∧ Has wr go 42 (opC z) ∧ Has wr gb 35 (baseC B) ∧ Has wr gc 35 (baseC C) ∧ Below w.heap.size w wr) (fun v _ => m - lenV v)
              case atStart => exact ⟨D, bo, cap, rfl, hDc, hcm, hOw6, rfl, hD16, hY6, hB6, hC, hb6⟩
              case round =>
                clear hOw6 hY6 hB6 hC hb6
                obtain ⟨E, eo, ec, rfl, hEc, hem, hOw6, hpad, hE16, hY6, hB6, hC, hb6⟩ := hrel
                by_cases hlt2 : E.length < m
                · have hlI : (E.length : Int) < (z.pos : Int) := by omega
                  have hzE := E.length
                  have q4 := (hY6.cell 4).trans (show (opC z)[4]? = some (.int .u8 (z.pos : Int)) from rfl)
                  have q5 := (hY6.cell 5).trans (show (opC z)[5]? = some (.string (mkS z.data)) from rfl)
                  have hO1 := hOw6.later ((Below.refl wr.heap.size wr).alloc (Nat.le_refl _) (.cells #[.int .u8 0] 5))
                  have hA1 := (Below.refl wr.heap.size wr).alloc (Nat.le_refl _) (.cells #[.int .u8 0] 5)
                  obtain ⟨v', w2, hrun, ho2, hk2⟩ := hO1.append 48 ⟨wr.heap.size, 0, none⟩ 1 [0] (fun j u hj => by
                    have hj1 : j < 1 := (List.getElem?_eq_some_iff.1 hj).1
                    obtain rfl : j = 0 := by omega
                    rw [Addr.add_mid]
                    exact ((Has.new wr 5 #[.int .u8 0]).cell 0).trans hj) (by show E.length + 1 ≤ 1000; omega) (by have := hb6.size; simp; omega)
                  obtain ⟨eo2, ec2, rfl, hc2, hm2⟩ := ho2.form
                  have hY2 := hk2.has hO1 (hY6.later hA1) (by decide)
                  have hB2 := hk2.has hO1 (hB6.later hA1) (by decide)
                  have hC2 := hk2.has hO1 (hC.later hA1) (by decide)
                  have hb2 := hk2.below _ (hb6.alloc hb6.size (.cells #[.int .u8 0] 5))
                  have hpd : padS (E ++ [0]) m = padS D m := by rw [padS_step hlt2, hpad]
                  clear hO1 hA1 hk2
                  go_wp2_with (first
                    | (refine wpList_append_run (by rfl) _ _ 48 rfl (.slice eo E.length ec) (.slice (some ⟨wr.heap.size, 0, none⟩) 1 1) rfl rfl (.slice eo2 (E ++ [0]).length ec2) w2 ?hg ?_; (case hg => exact hrun)))
                  go_roundw
                  case rel => exact ⟨E ++ [0], eo2, ec2, by first | rfl | simp, hc2, hm2, ho2, hpd, by rw [List.length_append]; show E.length + 1 ≤ 16; omega, hY2, hB2, hC2, hb2⟩
                  case measure => simp [lenV]; omega
                · have hlI : ¬ ((E.length : Int) < (z.pos : Int)) := by omega
                  have hE : E = padS D m := by rw [← hpad, padS_end (by omega)]
                  obtain ⟨sv, hsl, hcase⟩ := hOw6.head z.pos (by omega)
                  obtain ⟨Fd, hFd⟩ : ∃ L, L = fitS z.pos D := ⟨_, rfl⟩
                  have hEq : E.take z.pos = Fd := by rw [hE, hm, hFd]; exact bytes_trunc D z.pos
                  rw [← hFd] at hBA2
                  have hFl : Fd.length = z.pos := by rw [hFd, fitS_len]
                  have hdone : ∃ v' w11, (Builtin.append_ #[48, 48] 48 #[.slice none 0 0, sv]).run Try.prog wr = .ok v' w11 ∧ OwnB w11 w.heap.size v' Fd ∧ Kept w.heap.size (.slice none 0 0) wr w11 := by
                    rcases hcase with ⟨rfl, hp0, hE0⟩ | ⟨ad2, c2, rfl, hcells⟩
                    · have hF0 : Fd = [] := List.length_eq_zero_iff.1 (by omega)
                      rw [hF0]
                      exact ⟨_, wr, append_nils wr _, OwnB.nil _ _, Kept.refl _ _ _⟩
                    · rw [hEq] at hcells
                      have := (OwnB.nil wr w.heap.size).append 48 ad2 c2 Fd hcells (by show 0 + Fd.length ≤ 1000; omega) hb6.size
                      rw [hFl] at this
                      exact this
                  obtain ⟨v', w11, hrun, hOz0, hk11⟩ := hdone
                  obtain ⟨eo2, ec2, rfl, hc2, hm2⟩ := hOz0.form
                  have hOz := hOz0
                  have hBz := hk11.has (OwnB.nil wr w.heap.size) hB6 (by decide)
                  have hCz := hk11.has (OwnB.nil wr w.heap.size) hC (by decide)
                  have hbz := hk11.below _ hb6
                  have q4 := (hY6.cell 4).trans (show (opC z)[4]? = some (.int .u8 (z.pos : Int)) from rfl)
                  have hFl16 : Fd.length ≤ 16 := by omega
                  clear hk11 hE hpad hFd hEq hcase hOz0 hFl
                  have hgne := hOz.ne hBz (by decide)
                  have hBy := hBz.row (baseC C)
                  have hOy := hOz.of (w' := w11.setRow gb (baseC C)) (fun g hg => setRow_other w11 gb g (baseC C) (fun e => hgne (by rw [← e]; exact hg)))
                  have hby := below_setRow hbz hgbw (baseC C)
                  obtain ⟨wY, hwY⟩ : ∃ W, w11.setRow gb (baseC C) = W := ⟨_, rfl⟩
                  rw [hwY] at hBy hOy hby
                  have c10 := (hBy.cell 10).trans (baseC_obj C 2 0 (.bool true) (by rw [show objL (C.obj 2) = [.bool (C.obj 2).there, strV (C.obj 2).data, strV (C.obj 2).a0, strV (C.obj 2).a1, strV (C.obj 2).a2] from rfl, hBA2.there]; rfl))
                  have c11 := (hBy.cell 11).trans (baseC_obj C 2 1 (.string (mkS Fd)) (by rw [show objL (C.obj 2) = [.bool (C.obj 2).there, strV (C.obj 2).data, strV (C.obj 2).a0, strV (C.obj 2).a1, strV (C.obj 2).a2] from rfl, hBA2.data]; rfl))
                  have hcv := hOy.conv
                  go_wp2_with ((with_reducible refine at_open ?_); first
                    | (refine wpList_append_run (by rfl) _ _ 48 rfl (.slice none 0 0) sv rfl rfl (.slice eo2 Fd.length ec2) w11 ?hg ?_; (case hg => exact hrun))
                    | (refine wpList_load_has (by rfl) 35 _ rfl gc rfl 35 (baseC C) _ Try.underlying35 rfl (base_size _) ?hg ?_; (case hg => exact hCz))
                    | (refine wpList_store_to (by rfl) 35 _ _ rfl gb rfl (baseC C) rfl 35 (baseC B) (base_size _) rfl (base_one _) ?hg wY ?hW ?_; (case hg => exact hBz); (case hW => exact hwY); clear hwY))
                  go_roundw
                  case rel => exact ⟨n + 1, true, Fd, C, eo2, ec2, by omega, by go_num, rfl, rfl, hc2, hm2, hOy, by omega, hBA2, hCo.1, hBy, hby⟩
                  case measure => simp [intOf]; omega
            · have hBA2 := (hBA.not hz1 hz2 hz3 hwz hkk (fun h => absurd h.1 (by omega)) (fun h => hfit h.2.2) (fun h => absurd h.1 (by omega))).2
              have hcd := (hBA.not hz1 hz2 hz3 hwz hkk (fun h => absurd h.1 (by omega)) (fun h => hfit h.2.2) (fun h => absurd h.1 (by omega))).1
              generalize (doM B z).1 = C at *
              generalize hre : (doM B z).2 = r at *
              obtain ⟨w9, hw9, hn9, hC, hr, hq⟩ := do_vars w8 C r
              replace hY6 := hY6.later hq
              replace hB6 := hB6.later hq
              replace hOw6 := hOw6.later hq
              replace hb6 := hb6.trans (hq.mono hb6.size)
              clear hq
              have z2 := (hY6.cell 2).trans (show (opC z)[2]? = some (.int .u8 (z.kind : Int)) from rfl)
              have z4 := (hY6.cell 4).trans (show (opC z)[4]? = some (.int .u8 (z.pos : Int)) from rfl)
              have z5 := (hY6.cell 5).trans (show (opC z)[5]? = some (.string (mkS z.data)) from rfl)
              have r0 := (hr.cell 0).trans (show (resC r)[0]? = some (.int .u8 (r.code : Int)) from rfl)
              have hrc := hCo.2.1
              have hzp := hzo.pos
              have hzpI : (z.pos : Int) < 256 := by omega
              have hzs := mkS_size z.data
              rw [hkd] at z2
              have hcdI : ((r.code : Int) == 0) = false := by rw [beq_eq_false_iff_ne]; omega
              have hcdP : ¬ ((r.code : Int) = 0) := by omega
              have hBz := hB6
              have hOz := hOw6
              have hbz := hb6
              have hCz := hC
              generalize r.code = rcd at *
              have hfI : ¬ ((z.pos : Int) ≤ 16) := by omega
              have hfJ : (16 : Int) < (z.pos : Int) := by omega
              have hfd : decide ((z.pos : Int) ≤ 16) = false := decide_eq_false hfI
              have hgne := hOz.ne hBz (by decide)
              have hBy := hBz.row (baseC C)
              have hOy := hOz.of (w' := w9.setRow gb (baseC C)) (fun g hg => setRow_other w9 gb g (baseC C) (fun e => hgne (by rw [← e]; exact hg)))
              have hby := below_setRow hbz hgbw (baseC C)
              obtain ⟨wY, hwY⟩ : ∃ W, w9.setRow gb (baseC C) = W := ⟨_, rfl⟩
              rw [hwY] at hBy hOy hby
              have c10 := (hBy.cell 10).trans (baseC_obj C 2 0 (.bool true) (by rw [show objL (C.obj 2) = [.bool (C.obj 2).there, strV (C.obj 2).data, strV (C.obj 2).a0, strV (C.obj 2).a1, strV (C.obj 2).a2] from rfl, hBA2.there]; rfl))
              have c11 := (hBy.cell 11).trans (baseC_obj C 2 1 (.string (mkS D)) (by rw [show objL (C.obj 2) = [.bool (C.obj 2).there, strV (C.obj 2).data, strV (C.obj 2).a0, strV (C.obj 2).a1, strV (C.obj 2).a2] from rfl, hBA2.data]; rfl))
              have hcv := hOy.conv
              go_wp2_with ((with_reducible refine at_open ?_); first
                | (refine wpList_alloc_has (by rfl) 35 rfl (baseC base0) base_zero ?_)
                | (refine wpList_alloc_has (by rfl) 30 rfl (resC res0) res_zero ?_; rw [alloc_size])
                | (refine wpList_store_has (by rfl) 35 _ _ rfl w8.heap.size rfl (baseC C) rfl 35 (baseC base0) (base_size _) rfl (base_one _) ?hg ?_; (case hg => exact (Has.new _ _ _).alloc _))
                | (refine wpList_store_to (by rfl) 30 _ _ rfl (w8.heap.size + 1) rfl (resC r) rfl 30 (resC res0) (res_size _) rfl (res_one _) ?hg w9 ?hW ?_; (case hg => exact hn9); (case hW => exact hw9))
                | (refine wpList_load_has (by rfl) 35 _ rfl w8.heap.size rfl 35 (baseC C) _ Try.underlying35 rfl (base_size _) ?hg ?_; (case hg => exact hCz))
                | (refine wpList_store_to (by rfl) 35 _ _ rfl gb rfl (baseC C) rfl 35 (baseC B) (base_size _) rfl (base_one _) ?hg wY ?hW ?_; (case hg => exact hBz); (case hW => exact hwY); clear hwY))
              go_roundw
              case rel => exact ⟨n + 1, true, D, C, bo, cap, by omega, by go_num, rfl, by first | rfl | simp, hDc, hcm, hOy, hD16, hBA2, hCo.1, hBy, hby⟩
              case measure => simp [intOf]; omega
          · have hkk : z.kind = 1 ∨ z.kind = 2 ∨ z.kind = 4 := .inr (.inr hkd)
            rw [hkd] at z2
            go_wp2_with (first
              | (refine wpList_load_any (by rfl) 42 _ rfl _ rfl (opL y) _ ?hg Try.underlying42 rfl (op_size y) ?_; (case hg => exact hci))
              | (refine wpList_alloc_has (by rfl) 42 rfl (opC op0) zop_zero ?_)
              | (refine wpList_store_to (by rfl) 42 _ _ rfl wr.heap.size rfl (opC y) rfl 42 (opC op0) (op_size _) rfl (op_one _) ?hg w3 ?hW ?_; (case hg => exact Has.new _ _ _); (case hW => exact hw3); clear hw3; generalize wr.heap.size = go at *)
              | (refine wpList_load_has (by rfl) 42 _ rfl (go) rfl 42 (opC (z)) _ Try.underlying42 rfl (op_size _) ?hg ?_; (case hg => first | exact hY6)))
            refine (S.isop z _ hzo).mono ?_
            rintro e w7 ⟨rfl, hq⟩
            replace hY6 := hY6.later hq
            replace hB6 := hB6.later hq
            replace hOw6 := hOw6.later hq
            replace hb6 := hb6.trans (hq.mono hb6.size)
            clear hq z2 y0 y1 y3 f0 f1 f3 hw4 hw5 hw6 hY hY4
            cases hip : isOpM z with
            | false =>
              go_wp2_with fail
              go_roundw
              case rel => exact ⟨n + 1, _, D, B, bo, cap, by omega, by go_num, rfl, rfl, hDc, hcm, hOw6, hD16, hBA.skip, hBo, hB6, hb6⟩
              case measure => simp [intOf]; omega
            | true =>
            have hwz := isop_as hip hkk
            have hdl := (writes_client hwz).2.2.2.2.2
            have hdlI : (z.data.length : Int) ≤ 16 := by omega
            go_wp2_with (first
              | (refine wpList_load_has (by rfl) 35 _ rfl (gb) rfl 35 (baseC (B)) _ Try.underlying35 rfl (base_size _) ?hg ?_; (case hg => first | exact hB6))
              | (refine wpList_load_has (by rfl) 42 _ rfl (go) rfl 42 (opC (z)) _ Try.underlying42 rfl (op_size _) ?hg ?_; (case hg => first | exact hY6)))
            refine (S.do' B z _ hBo hzo).mono ?_
            rintro e w8 ⟨rfl, hq⟩
            replace hY6 := hY6.later hq
            replace hB6 := hB6.later hq
            replace hOw6 := hOw6.later hq
            replace hb6 := hb6.trans (hq.mono hb6.size)
            clear hq
            have hCo := do_ok hBo hzo
            cases th with
            | false =>
              have hBA2 := (hBA.not hz1 hz2 hz3 hwz hkk (fun h => absurd h.1 (by omega)) (fun h => absurd h.1 (by omega)) (fun h => absurd h.2 (by decide))).2
              have hcd := (hBA.not hz1 hz2 hz3 hwz hkk (fun h => absurd h.1 (by omega)) (fun h => absurd h.1 (by omega)) (fun h => absurd h.2 (by decide))).1
              generalize (doM B z).1 = C at *
              generalize hre : (doM B z).2 = r at *
              obtain ⟨w9, hw9, hn9, hC, hr, hq⟩ := do_vars w8 C r
              replace hY6 := hY6.later hq
              replace hB6 := hB6.later hq
              replace hOw6 := hOw6.later hq
              replace hb6 := hb6.trans (hq.mono hb6.size)
              clear hq
              have z2 := (hY6.cell 2).trans (show (opC z)[2]? = some (.int .u8 (z.kind : Int)) from rfl)
              have z4 := (hY6.cell 4).trans (show (opC z)[4]? = some (.int .u8 (z.pos : Int)) from rfl)
              have z5 := (hY6.cell 5).trans (show (opC z)[5]? = some (.string (mkS z.data)) from rfl)
              have r0 := (hr.cell 0).trans (show (resC r)[0]? = some (.int .u8 (r.code : Int)) from rfl)
              have hrc := hCo.2.1
              have hzp := hzo.pos
              have hzpI : (z.pos : Int) < 256 := by omega
              have hzs := mkS_size z.data
              rw [hkd] at z2
              have hcdI : ((r.code : Int) == 0) = false := by rw [beq_eq_false_iff_ne]; omega
              have hcdP : ¬ ((r.code : Int) = 0) := by omega
              have hBz := hB6
              have hOz := hOw6
              have hbz := hb6
              have hCz := hC
              generalize r.code = rcd at *
              have hgne := hOz.ne hBz (by decide)
              have hBy := hBz.row (baseC C)
              have hOy := hOz.of (w' := w9.setRow gb (baseC C)) (fun g hg => setRow_other w9 gb g (baseC C) (fun e => hgne (by rw [← e]; exact hg)))
              have hby := below_setRow hbz hgbw (baseC C)
              obtain ⟨wY, hwY⟩ : ∃ W, w9.setRow gb (baseC C) = W := ⟨_, rfl⟩
              rw [hwY] at hBy hOy hby
              have c10 := (hBy.cell 10).trans (baseC_obj C 2 0 (.bool false) (by rw [show objL (C.obj 2) = [.bool (C.obj 2).there, strV (C.obj 2).data, strV (C.obj 2).a0, strV (C.obj 2).a1, strV (C.obj 2).a2] from rfl, hBA2.there]; rfl))
              have c11 := (hBy.cell 11).trans (baseC_obj C 2 1 (.string (mkS D)) (by rw [show objL (C.obj 2) = [.bool (C.obj 2).there, strV (C.obj 2).data, strV (C.obj 2).a0, strV (C.obj 2).a1, strV (C.obj 2).a2] from rfl, hBA2.data]; rfl))
              have hcv := hOy.conv
              go_wp2_with ((with_reducible refine at_open ?_); first
                | (refine wpList_alloc_has (by rfl) 35 rfl (baseC base0) base_zero ?_)
                | (refine wpList_alloc_has (by rfl) 30 rfl (resC res0) res_zero ?_; rw [alloc_size])
                | (refine wpList_store_has (by rfl) 35 _ _ rfl w8.heap.size rfl (baseC C) rfl 35 (baseC base0) (base_size _) rfl (base_one _) ?hg ?_; (case hg => exact (Has.new _ _ _).alloc _))
                | (refine wpList_store_to (by rfl) 30 _ _ rfl (w8.heap.size + 1) rfl (resC r) rfl 30 (resC res0) (res_size _) rfl (res_one _) ?hg w9 ?hW ?_; (case hg => exact hn9); (case hW => exact hw9))
                | (refine wpList_load_has (by rfl) 35 _ rfl w8.heap.size rfl 35 (baseC C) _ Try.underlying35 rfl (base_size _) ?hg ?_; (case hg => exact hCz))
                | (refine wpList_store_to (by rfl) 35 _ _ rfl gb rfl (baseC C) rfl 35 (baseC B) (base_size _) rfl (base_one _) ?hg wY ?hW ?_; (case hg => exact hBz); (case hW => exact hwY); clear hwY))
              go_roundw
              case rel => exact ⟨n + 1, false, D, C, bo, cap, by omega, by go_num, rfl, by first | rfl | simp, hDc, hcm, hOy, hD16, hBA2, hCo.1, hBy, hby⟩
              case measure => simp [intOf]; omega
            | true =>
              have hBA2 := hBA.delete hz1 hz2 hz3 hwz hkd
              generalize (doM B z).1 = C at *
              generalize hre : (doM B z).2 = r at *
              obtain ⟨w9, hw9, hn9, hC, hr, hq⟩ := do_vars w8 C r
              replace hY6 := hY6.later hq
              replace hB6 := hB6.later hq
              replace hOw6 := hOw6.later hq
              replace hb6 := hb6.trans (hq.mono hb6.size)
              clear hq
              have z2 := (hY6.cell 2).trans (show (opC z)[2]? = some (.int .u8 (z.kind : Int)) from rfl)
              have z4 := (hY6.cell 4).trans (show (opC z)[4]? = some (.int .u8 (z.pos : Int)) from rfl)
              have z5 := (hY6.cell 5).trans (show (opC z)[5]? = some (.string (mkS z.data)) from rfl)
              have r0 := (hr.cell 0).trans (show (resC r)[0]? = some (.int .u8 (r.code : Int)) from rfl)
              have hrc := hCo.2.1
              have hzp := hzo.pos
              have hzpI : (z.pos : Int) < 256 := by omega
              have hzs := mkS_size z.data
              rw [hkd] at z2
              have hBz := hB6
              have hOz := OwnB.nil w9 w.heap.size
              have hbz := hb6
              have hCz := hC
              have hgne := hOz.ne hBz (by decide)
              have hBy := hBz.row (baseC C)
              have hOy := hOz.of (w' := w9.setRow gb (baseC C)) (fun g hg => setRow_other w9 gb g (baseC C) (fun e => hgne (by rw [← e]; exact hg)))
              have hby := below_setRow hbz hgbw (baseC C)
              obtain ⟨wY, hwY⟩ : ∃ W, w9.setRow gb (baseC C) = W := ⟨_, rfl⟩
              rw [hwY] at hBy hOy hby
              have c10 := (hBy.cell 10).trans (baseC_obj C 2 0 (.bool false) (by rw [show objL (C.obj 2) = [.bool (C.obj 2).there, strV (C.obj 2).data, strV (C.obj 2).a0, strV (C.obj 2).a1, strV (C.obj 2).a2] from rfl, hBA2.there]; rfl))
              have c11 := (hBy.cell 11).trans (baseC_obj C 2 1 (.string (mkS [])) (by rw [show objL (C.obj 2) = [.bool (C.obj 2).there, strV (C.obj 2).data, strV (C.obj 2).a0, strV (C.obj 2).a1, strV (C.obj 2).a2] from rfl, hBA2.data]; rfl))
              have hcv := hOy.conv
              go_wp2_with ((with_reducible refine at_open ?_); first
                | (refine wpList_alloc_has (by rfl) 35 rfl (baseC base0) base_zero ?_)
                | (refine wpList_alloc_has (by rfl) 30 rfl (resC res0) res_zero ?_; rw [alloc_size])
                | (refine wpList_store_has (by rfl) 35 _ _ rfl w8.heap.size rfl (baseC C) rfl 35 (baseC base0) (base_size _) rfl (base_one _) ?hg ?_; (case hg => exact (Has.new _ _ _).alloc _))
                | (refine wpList_store_to (by rfl) 30 _ _ rfl (w8.heap.size + 1) rfl (resC r) rfl 30 (resC res0) (res_size _) rfl (res_one _) ?hg w9 ?hW ?_; (case hg => exact hn9); (case hW => exact hw9))
                | (refine wpList_load_has (by rfl) 35 _ rfl w8.heap.size rfl 35 (baseC C) _ Try.underlying35 rfl (base_size _) ?hg ?_; (case hg => exact hCz))
                | (refine wpList_store_to (by rfl) 35 _ _ rfl gb rfl (baseC C) rfl 35 (baseC B) (base_size _) rfl (base_one _) ?hg wY ?hW ?_; (case hg => exact hBz); (case hW => exact hwY); clear hwY))
              go_roundw
              case rel => exact ⟨n + 1, false, [], C, none, 0, by omega, by go_num, rfl, rfl, Nat.le_refl _, by decide, hOy, by decide, hBA2, hCo.1, hBy, hby⟩
              case measure => simp [intOf]; omega
        · have hk1 : ((z.kind : Int) == 1) = false := by rw [beq_eq_false_iff_ne]; omega
          have hk2 : ((z.kind : Int) == 2) = false := by rw [beq_eq_false_iff_ne]; omega
          have hk4 : ((z.kind : Int) == 4) = false := by rw [beq_eq_false_iff_ne]; omega
          have hp1 : ¬ ((z.kind : Int) = 1) := by omega
          have hp2 : ¬ ((z.kind : Int) = 2) := by omega
          have hp4 : ¬ ((z.kind : Int) = 4) := by omega
          generalize z.kind = kd at *
          go_wp2_with (first
            | (refine wpList_load_any (by rfl) 42 _ rfl _ rfl (opL y) _ ?hg Try.underlying42 rfl (op_size y) ?_; (case hg => exact hci))
            | (refine wpList_alloc_has (by rfl) 42 rfl (opC op0) zop_zero ?_)
            | (refine wpList_store_to (by rfl) 42 _ _ rfl wr.heap.size rfl (opC y) rfl 42 (opC op0) (op_size _) rfl (op_one _) ?hg w3 ?hW ?_; (case hg => exact Has.new _ _ _); (case hW => exact hw3); clear hw3; generalize wr.heap.size = go at *)
            | (refine wpList_load_has (by rfl) 42 _ rfl (go) rfl 42 (opC (z)) _ Try.underlying42 rfl (op_size _) ?hg ?_; (case hg => first | exact hY6)))
          go_roundw
          case rel => exact ⟨n + 1, th, D, B, bo, cap, by omega, by go_num, rfl, rfl, hDc, hcm, hOw6, hD16, hBA.skip, hBo, hB6, hb6⟩
          case measure => simp [intOf]; omega
    · have e5 : n = l.length := by omega
      subst e5
      go_wp2_with fail
      go_ret
      exact ⟨rfl, hb⟩
end Go.Proofs.Ytjajfeplgilejaa
