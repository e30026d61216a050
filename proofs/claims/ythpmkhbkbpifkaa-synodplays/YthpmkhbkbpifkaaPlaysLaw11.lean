/- paddocklaw11.SynodPlays returns true, for whatever monitor, increment and row of steps. -/
import Derived.Test.YthpmkhbkbpifkaaSynUse
import Derived.Test.YthpmkhbkbpifkaaSynSt11
import Derived.Test.YthpmkhbkbpifkaaRefProm
import Derived.Test.YthpmkhbkbpifkaaAny
namespace Go.Proofs.Ythpmkhbkbpifkaa
set_option linter.unusedSimpArgs false
set_option linter.unusedVariables false
set_option maxRecDepth 100000
open Go.RowKit

theorem yields_bal_neT {ops : Array Oper} {o : Oper} {a : Act} {S : World → Prop} (b : BalV) (hb : BalOk b) (hw : Region.wanted o (yielded ops a.tmps) = true) (x y : Operand) (ty' : TypeId) (ho : o.op = .binOp .neq 31 x y ty') (hx : a.eval x = .agg (balC b)) (hy : a.eval y = .agg (balC b)) : YieldsIf Try.prog ops S o (.bool false) a := by
  have := yields_bal_ne (S := S) b b hb hb hw x y ty' ho hx hy
  rw [(sameBal_is b b).2 rfl] at this
  exact this
theorem yields_inc_neT {ops : Array Oper} {o : Oper} {a : Act} {S : World → Prop} (b : IncV) (hb : IncOk b) (hw : Region.wanted o (yielded ops a.tmps) = true) (x y : Operand) (ty' : TypeId) (ho : o.op = .binOp .neq 23 x y ty') (hx : a.eval x = .agg (incC b)) (hy : a.eval y = .agg (incC b)) : YieldsIf Try.prog ops S o (.bool false) a := by
  have := yields_inc_ne (S := S) b b hb hb hw x y ty' ho hx hy
  rw [(sameInc_is b b).2 rfl] at this
  exact this

theorem yields_build_2' {ops : Array Oper} {S : World → Prop} {o : Oper} {a : Act} (hw : Region.wanted o (yielded ops a.tmps) = true) (t : TypeId) (i j : Nat) (x y : Operand) (ho : o.op = .build t #[(i, x), (j, y)]) (p q : Value) (hx : a.eval x = p) (hy : a.eval y = q) (c : Array Value) (hf : Try.prog.built t [(i, p), (j, q)] = some c) : YieldsIf Try.prog ops S o (.agg c) a := by
  refine .inl ⟨hw, fun w _ => ?_⟩
  unfold execOp
  simp [ho, hx, hy, run_build w t _ c hf, Sem.run_bind]

theorem yields_pickF {P : Program} {ops : Array Oper} {S : World → Prop} {o : Oper} {a : Act} (hw : Region.wanted o (yielded ops a.tmps) = true) (c x y : Operand) (ho : o.op = .pick c x y) (b : Bool) (hc : a.eval c = .bool b) (v : Value) (hv : cond b (a.eval x) (a.eval y) = v) : YieldsIf P ops S o v a := by
  refine .inl ⟨hw, fun w _ => ?_⟩
  generalize a.eval = ev at hc hv ⊢
  unfold execOp
  subst hv
  cases b <;> simp [ho, hc, Sem.run_bind, go_sem]
theorem yields_mv {P : Program} {ops : Array Oper} {S : World → Prop} {o : Oper} {a : Act} (v : Value) (hw : Region.wanted o (yielded ops a.tmps) = true) (x : Operand) (ho : o.op = .move x) (hx : a.eval x = v) : YieldsIf P ops S o v a := by
  subst hx
  exact yields_move hw x ho
theorem yields_nilc {P : Program} {ops : Array Oper} {S : World → Prop} {o : Oper} {a : Act} (hw : Region.wanted o (yielded ops a.tmps) = true) (x : Operand) (ho : o.op = .nilCheck x) (A : Addr) (hx : a.eval x = .pointer (some A)) : YieldsIf P ops S o (.pointer (some A)) a := by
  refine .inl ⟨hw, fun w _ => ?_⟩
  generalize a.eval = ev at hx ⊢
  unfold execOp
  simp [ho, hx, Sem.run_bind, go_sem]

set_option maxHeartbeats 40000000 in
theorem plays_walk (k : Nat) (x : IncV) (ao : Option Addr) (c : Nat) (l : List PStV) (w : World) (hk : k < 256) (hx : IncOk x) (hSl : Sl w ao c 11 (pstR l)) (hl : ∀ s ∈ l, PStOk s) :
    Calls Try.prog 3 #[.int .u8 (k : Int), .agg (incC x), .slice ao l.length c] w fun e w' => e = .returned (.bool true) ∧ Below w.heap.size w w' := by
  have hle := pst_le hSl
  have hcap := hSl.cap
  obtain ⟨w1, hw1, hX, hb⟩ := one_var w 23 (incC x)
  go_enter Try.func3, Try.ntmps3
  go_wp2_with fail
  refine (known_any _).mono ?_
  rintro e w2 ⟨rfl, hq⟩
  replace hX := hX.later hq
  replace hb := hb.trans (hq.mono hb.size)
  clear hq hw1
  by_cases hlen : l.length ≤ 60
  · have hlenI : (l.length : Int) ≤ 60 := by omega
    go_wp2_with fail
    let F5 : Act → Act → World → Prop := fun a a' w' => ∃ p r : Nat, a' = (((((((((a.put (some 21) (.int .u8 (k : Int))).put (some 22) (.agg (incC x))).put (some 23) (.pointer (some ⟨p, 0, none⟩))).put (some 24) (.int .u8 (k : Int))).put (some 25) (.agg (incC x))).put (some 26) (.agg (refpC (newM k x)))).put (some 27) (.pointer (some ⟨r, 0, none⟩))).put (some 7) (.pointer (some ⟨p, 0, none⟩))).put (some 8) (.pointer (some ⟨r, 0, none⟩))) ∧ Pro w' p (newM k x) ∧ Has w' r 34 (refpC (newM k x)) ∧ p ≠ r ∧ w.heap.size ≤ p ∧ w.heap.size ≤ r ∧ Below w.heap.size w w'
    refine wp_region_plan_mid (fun W => Has W w.heap.size 23 (incC x) ∧ Below w.heap.size w W) (Plan.of [(0, true), (1, true), (3, true), (4, true), (5, true)] (.either 2 (Plan.of [(7, true), (6, false), (8, true)] .done) 6 (Plan.of [(2, false), (7, true), (8, true)] .done))) F5 (by kernel_rfl) (by kernel_rfl) (by kernel_rfl) (by kernel_rfl) ⟨hX.drew, hb.drew⟩ ?_ ?_
    · replace hX := hX.drew
      replace hb := hb.drew
      generalize w2.drew = w3 at *
      iterate 1
        first
          | (refine plan_pass _ rfl (by rfl) ?_)
          | (refine plan_take _ _ rfl (.inl ⟨by rfl, fun W hS => by clear hS; go_simp; try with_reducible rfl⟩) ?_)
        try simp only [Act.put, List.setIfInBounds_toArray, List.set_cons_zero, List.set_cons_succ]
      refine plan_take _ _ rfl (yields_inc x (by rfl) _ rfl w.heap.size rfl (fun _ h => h.1)) ?_
      try simp only [Act.put, List.setIfInBounds_toArray, List.set_cons_zero, List.set_cons_succ]
      iterate 1
        first
          | (refine plan_pass _ rfl (by rfl) ?_)
          | (refine plan_take _ _ rfl (.inl ⟨by rfl, fun W hS => by clear hS; go_simp; try with_reducible rfl⟩) ?_)
        try simp only [Act.put, List.setIfInBounds_toArray, List.set_cons_zero, List.set_cons_succ]
      refine plan_take _ _ rfl (yields_inc x (by rfl) _ rfl w.heap.size rfl (fun _ h => h.1)) ?_
      try simp only [Act.put, List.setIfInBounds_toArray, List.set_cons_zero, List.set_cons_succ]
      refine plan_take _ (.agg (refpC (newM k x))) rfl (yields_build_2' (by rfl) 34 0 1 _ _ rfl (.int .u8 (k : Int)) (.agg (incC x)) rfl rfl _ (rp_new k x)) ?_
      try simp only [Act.put, List.setIfInBounds_toArray, List.set_cons_zero, List.set_cons_succ]
      refine plan_either ?_ ?_
      · refine plan_run _ rfl (fun K hK => ?_)
        go_simp
        refine (pnew_any k x _ hk hx).mono ?_
        rintro e w4 ⟨p, rfl, hp, hP, hq⟩
        have hX4 := hX.later hq
        have hb4 := hb.trans (hq.mono hb.size)
        refine hK.out _ _ ⟨hX4, hb4⟩ ?_
        clear hK K
        try simp only [Act.put, List.setIfInBounds_toArray, List.set_cons_zero, List.set_cons_succ]
        iterate 1
          first
            | (refine plan_pass _ rfl (by rfl) ?_)
            | (refine plan_take _ _ rfl (.inl ⟨by rfl, fun W hS => by clear hS; go_simp; try with_reducible rfl⟩) ?_)
          try simp only [Act.put, List.setIfInBounds_toArray, List.set_cons_zero, List.set_cons_succ]
        obtain ⟨w5, hw5, hR, hq5⟩ := one_var w4 34 (refpC (newM k x))
        have hpl := hP.lt
        refine plan_run _ rfl (fun K hK => ?_)
        go_simp
        try rw [hw5]
        refine hK.out _ _ ⟨hX4.later hq5, hb4.trans (hq5.mono hb4.size)⟩ ?_
        clear hK K
        try simp only [Act.put, List.setIfInBounds_toArray, List.set_cons_zero, List.set_cons_succ]
        iterate 1
          first
            | (refine plan_pass _ rfl (by rfl) ?_)
            | (refine plan_take _ _ rfl (.inl ⟨by rfl, fun W hS => by clear hS; go_simp; try with_reducible rfl⟩) ?_)
          try simp only [Act.put, List.setIfInBounds_toArray, List.set_cons_zero, List.set_cons_succ]
        refine plan_done (mid_done ?_)
        exact ⟨p, w4.heap.size, (by simp only [Act.put, List.setIfInBounds_toArray, List.set_cons_zero, List.set_cons_succ]), hP.later hq5, hR, by omega, Nat.le_trans hb.size hp, hb4.size, hb4.trans (hq5.mono hb4.size)⟩
      · obtain ⟨w5, hw5, hR, hq5⟩ := one_var w3 34 (refpC (newM k x))
        refine plan_run _ rfl (fun K hK => ?_)
        go_simp
        try rw [hw5]
        have hX5 := hX.later hq5
        have hb5 := hb.trans (hq5.mono hb.size)
        refine hK.out _ _ ⟨hX5, hb5⟩ ?_
        clear hK K
        try simp only [Act.put, List.setIfInBounds_toArray, List.set_cons_zero, List.set_cons_succ]
        refine plan_run _ rfl (fun K hK => ?_)
        go_simp
        refine (pnew_any k x _ hk hx).mono ?_
        rintro e w4 ⟨p, rfl, hp, hP, hq⟩
        have hrl := hR.lt
        refine hK.out _ _ ⟨hX5.later hq, hb5.trans (hq.mono hb5.size)⟩ ?_
        clear hK K
        try simp only [Act.put, List.setIfInBounds_toArray, List.set_cons_zero, List.set_cons_succ]
        iterate 2
          first
            | (refine plan_pass _ rfl (by rfl) ?_)
            | (refine plan_take _ _ rfl (.inl ⟨by rfl, fun W hS => by clear hS; go_simp; try with_reducible rfl⟩) ?_)
          try simp only [Act.put, List.setIfInBounds_toArray, List.set_cons_zero, List.set_cons_succ]
        refine plan_done (mid_done ?_)
        exact ⟨p, w3.heap.size, (by simp only [Act.put, List.setIfInBounds_toArray, List.set_cons_zero, List.set_cons_succ]), hP, hR.later hq, by omega, Nat.le_trans hb5.size hp, hb.size, hb5.trans (hq.mono hb5.size)⟩
    · clear hX hb
      rintro _ w3 ⟨p, r, rfl, hP, hR, hpr, hp, hr, hb⟩
      try simp only [Act.put, List.setIfInBounds_toArray, List.set_cons_zero, List.set_cons_succ]
      clear F5
      go_wp2
      go_loopw [9] (fun i wr => ∃ (n : Nat) (v : ProV), n ≤ l.length ∧ i = .int .i64 n ∧ Pro wr p v ∧ Has wr r 34 (refpC v) ∧ Below w.heap.size w wr) (fun i _ => l.length - (intOf i).toNat)
      case atStart => exact ⟨0, _, Nat.zero_le _, rfl, hP, hR, hb⟩
      case round =>
        clear hP hR hb
        obtain ⟨n, v, hn, rfl, hP, hR, hb⟩ := hrel
        by_cases hlt : n < l.length
        · have hnI : (n : Int) < (l.length : Int) := by omega
          cases ao with
          | none => have h1 := hSl.nil rfl; omega
          | some ad =>
            have hst := pst_at (hSl.later hb) n hlt
            have hs := hl l[n] (List.getElem_mem hlt)
            generalize l[n] = s at *
            have hltp := hP.lt
            have hltr := hR.lt
            obtain ⟨w4, hw4, hS4, hq⟩ := new_var wr 36 (pstL pst0).toArray (pstL s).toArray
            have hE := ((Env.start hb).later hq).add hS4
            have hAp := (Apart.nil p).add (show wr.heap.size ≠ p by omega) 36 (pstL s).toArray
            have hAr := (Apart.nil r).add (show wr.heap.size ≠ r by omega) 36 (pstL s).toArray
            replace hP := hP.later hq
            replace hR := hR.later hq
            clear hq
            have rB := pst_b hS4
            have zo := pst_own hS4
            obtain ⟨w5, hw5, hB5, hq⟩ := new_var w4 31 (balC bal0) (balC s.b)
            have hlt4 := hS4.lt
            have hlp4 := hP.lt
            have hlr4 := hR.lt
            replace hE := hE.later hq
            replace zo := pst_own (hE.get 0 rfl)
            replace hP := hP.later hq
            replace hR := hR.later hq
            have zw := pst_what (hE.get 0 rfl)
            cases hown : s.own with
            | false =>
              replace zo := zo.trans (show _ = some (Value.bool false) by rw [← hown])
              obtain ⟨b, hbe⟩ : ∃ b, s.b = b := ⟨_, rfl⟩
              have hbo : BalOk b := hbe ▸ hs.b
              rw [hbe] at hw5 hB5 rB
              replace hE := hE.add hB5
              replace hAp := hAp.add (show w4.heap.size ≠ p by omega) 31 (balC b)
              replace hAr := hAr.add (show w4.heap.size ≠ r by omega) 31 (balC b)
              clear hbe hown hq
              by_cases hw0 : s.what ≤ 0
              · go_wp2_with ((with_reducible refine at_g0 ?_); first
                  | ((with_reducible refine at_all ?_); first
                    | (refine wpList_alloc_has (by rfl) 36 rfl _ pst_zero ?_; (try simp only [Act.put, List.setIfInBounds_toArray, List.set_cons_zero, List.set_cons_succ]))
                    | (refine alloc_bal (by rfl) rfl ?_; (try simp only [Act.put, List.setIfInBounds_toArray, List.set_cons_zero, List.set_cons_succ])))
                  | ((with_reducible refine at_sto ?_); first
                    | (refine wpList_store_has (by rfl) 36 _ _ rfl wr.heap.size rfl (pstL s).toArray rfl 36 (pstL pst0).toArray (pst_size _) rfl (pst_one _) ?hg ?_; (case hg => exact Has.new _ _ _); rw [hw4]; (try simp only [Act.put, List.setIfInBounds_toArray, List.set_cons_zero, List.set_cons_succ]))
                    | (refine store_bal b bal0 (by rfl) _ _ rfl w4.heap.size rfl rfl ?hg ?_; (case hg => exact Has.new _ _ _); rw [hw5]; (try simp only [Act.put, List.setIfInBounds_toArray, List.set_cons_zero, List.set_cons_succ])))
                  | ((with_reducible refine at_loa ?_); first
                    | (refine wpList_load_any (by rfl) 36 _ rfl _ rfl (pstL s) _ ?hg Try.underlying36 rfl (pst_size s) ?_; (case hg => exact hst); (try simp only [Act.put, List.setIfInBounds_toArray, List.set_cons_zero, List.set_cons_succ]))
                    | (refine wpList_load_mid' (by rfl) 31 _ rfl wr.heap.size 3 rfl (balC b).toList _ ?hg Try.underlying31 rfl (bal_size _) ?_; (case hg => exact rB); (try simp only [Act.put, List.setIfInBounds_toArray, List.set_cons_zero, List.set_cons_succ]))))
                clear hst rB zo zw hw4 hw5 hB5 hS4 hltp hltr hlt4 hlp4 hlr4
                generalize wr.heap.size = gs at *
                generalize w4.heap.size = gb at *
                have hwS : w5 = w5 := rfl
                clear hwS
                generalize w5 = wS at *
                have hvo := hP.ok
                obtain ⟨u, hu⟩ : ∃ u, startM v b = u := ⟨_, rfl⟩
                refine wp_region_plan (fun W => Env w W _) (Plan.of [(0, true), (1, true), (3, true), (4, true), (2, false), (5, false), (6, true)] .done) (by kernel_rfl) (by kernel_rfl) (by kernel_rfl) (by kernel_rfl) hE.drew ?_
                replace hE := hE.drew
                replace hP := hP.drew
                replace hR := hR.drew
                generalize wS.drew = wT at *
                iterate 1
                  first
                    | (refine plan_pass _ rfl (by rfl) ?_)
                    | (refine plan_take _ _ rfl (.inl ⟨by rfl, fun W hS => by clear hS; go_simp; try with_reducible rfl⟩) ?_)
                  try simp only [Act.put, List.setIfInBounds_toArray, List.set_cons_zero, List.set_cons_succ]
                refine plan_take _ _ rfl (yields_bal b (by rfl) _ rfl gb rfl (fun _ h => h.get 1 rfl)) ?_
                try simp only [Act.put, List.setIfInBounds_toArray, List.set_cons_zero, List.set_cons_succ]
                iterate 1
                  first
                    | (refine plan_pass _ rfl (by rfl) ?_)
                    | (refine plan_take _ _ rfl (.inl ⟨by rfl, fun W hS => by clear hS; go_simp; try with_reducible rfl⟩) ?_)
                  try simp only [Act.put, List.setIfInBounds_toArray, List.set_cons_zero, List.set_cons_succ]
                refine plan_take _ _ rfl (yields_bal b (by rfl) _ rfl gb rfl (fun _ h => h.get 1 rfl)) ?_
                try simp only [Act.put, List.setIfInBounds_toArray, List.set_cons_zero, List.set_cons_succ]
                have hk1 := pstart_any p v b wT hP hbo
                rw [hu] at hk1
                have hk2 := fun W h => rstart_any r v b W h hvo hbo
                simp only [hu] at hk2
                refine plan_run _ rfl (fun K hK => ?_)
                go_simp
                refine (hk1).mono ?_
                rintro e w7 ⟨rfl, hP7, hq⟩
                replace hR := hq.has hR (Ne.symm hpr)
                replace hE := hE.but hq hp hAp
                refine hK.out _ _ hE ?_
                clear hK K hq hP
                refine plan_run _ rfl (fun K hK => ?_)
                go_simp
                refine (hk2 _ hR).mono ?_
                rintro e w8 ⟨rfl, hR8, hq⟩
                replace hP7 := hP7.but hq hpr
                replace hE := hE.but hq hr hAr
                refine hK.out _ _ hE ?_
                clear hK K hq hR
                have huo := hP7.ok.b
                refine plan_take _ _ rfl (yields_bal_neT u.b huo (by rfl) _ _ _ rfl rfl rfl) ?_
                try simp only [Act.put, List.setIfInBounds_toArray, List.set_cons_zero, List.set_cons_succ]
                refine plan_done ?_
                clear hk1 hk2 hu huo hvo
                replace hb := hE.below
                clear hE hAp hAr
                have hP := hP7
                have hR := hR8
                clear hP7 hR8
                have hub := hP.ok.b
                have huv := hP.ok.value
                have hud := hP.ok.dec
                go_wp2_with fail
                refine (pvalue_any p u _ hP).mono ?_
                rintro e w10 ⟨y1, rfl, _, hy1, hq⟩
                replace hP := hP.later hq
                have hE := (Env.start (hb.trans (hq.mono hb.size))).add (hR.later hq)
                clear hq hR hb
                obtain ⟨w11, hw11, hY, hq⟩ := new_var w10 23 (incC inc0) (incC y1)
                replace hP := hP.later hq
                replace hE := (hE.later hq).add hY
                clear hq hY
                go_wp2_with (first
                  | ((with_reducible refine at_all ?_); (refine alloc_inc0 (by rfl) rfl ?_; (try simp only [Act.put, List.setIfInBounds_toArray, List.set_cons_zero, List.set_cons_succ])))
                  | ((with_reducible refine at_sto ?_); (refine store_inc y1 inc0 (by rfl) _ _ rfl w10.heap.size rfl rfl ?hg ?_; (case hg => exact Has.new _ _ _); rw [hw11]; (try simp only [Act.put, List.setIfInBounds_toArray, List.set_cons_zero, List.set_cons_succ]))))
                clear hw11
                generalize w10.heap.size = g1 at *
                refine (pdecided_any p u _ hP).mono ?_
                rintro e w13 ⟨y2, rfl, _, hy2, hq⟩
                replace hP := hP.later hq
                replace hE := hE.later hq
                clear hq
                obtain ⟨w14, hw14, hY, hq⟩ := new_var w13 23 (incC inc0) (incC y2)
                replace hP := hP.later hq
                replace hE := (hE.later hq).add hY
                clear hq hY
                go_wp2_with (first
                  | ((with_reducible refine at_all ?_); (refine alloc_inc0 (by rfl) rfl ?_; (try simp only [Act.put, List.setIfInBounds_toArray, List.set_cons_zero, List.set_cons_succ])))
                  | ((with_reducible refine at_sto ?_); (refine store_inc y2 inc0 (by rfl) _ _ rfl w13.heap.size rfl rfl ?hg ?_; (case hg => exact Has.new _ _ _); rw [hw14]; (try simp only [Act.put, List.setIfInBounds_toArray, List.set_cons_zero, List.set_cons_succ]))))
                clear hw14
                generalize w13.heap.size = g2 at *
                refine wp_region_plan (fun W => Env w W _) (Plan.of [(0, true), (2, true), (3, true), (4, true), (5, true), (1, false), (6, true), (7, true), (8, true), (9, true), (10, true), (11, true), (12, true), (13, true), (14, true), (15, true), (16, true), (17, true), (18, true), (19, true), (20, true), (21, true), (22, true), (23, true), (24, true), (25, true), (26, true), (27, true), (28, true), (29, true), (30, true), (31, true), (32, true), (33, true), (34, true), (35, true), (36, true), (37, true), (38, true), (39, true), (40, true), (41, true), (42, true), (43, true), (44, true)] .done) (by kernel_rfl) (by kernel_rfl) (by kernel_rfl) (by kernel_rfl) hE.drew ?_
                replace hE := hE.drew
                replace hP := hP.drew
                generalize w14.drew = w15 at *
                refine plan_take _ (.pointer (some ⟨p, 0, none⟩)) rfl (yields_mv _ (by rfl) _ rfl rfl) ?_
                try simp only [Act.put, List.setIfInBounds_toArray, List.set_cons_zero, List.set_cons_succ]
                refine plan_take _ (.pointer (some ⟨r, 0, none⟩)) rfl (yields_mv _ (by rfl) _ rfl rfl) ?_
                try simp only [Act.put, List.setIfInBounds_toArray, List.set_cons_zero, List.set_cons_succ]
                refine plan_take _ _ rfl (yields_nilc (by rfl) _ rfl _ rfl) ?_
                try simp only [Act.put, List.setIfInBounds_toArray, List.set_cons_zero, List.set_cons_succ]
                refine plan_take _ (.pointer (some ⟨r, 4, none⟩)) rfl (.inl ⟨by rfl, fun W hS => by clear hS; go_simp; try with_reducible rfl⟩) ?_
                try simp only [Act.put, List.setIfInBounds_toArray, List.set_cons_zero, List.set_cons_succ]
                refine plan_take _ _ rfl (yields_bal_mid u.b (by rfl) _ rfl r 4 rfl (fun _ h => rp_b (h.get 0 rfl))) ?_
                try simp only [Act.put, List.setIfInBounds_toArray, List.set_cons_zero, List.set_cons_succ]
                refine plan_run _ rfl (fun K hK => ?_)
                go_simp
                refine (pballot_any p u _ hP).mono ?_
                rintro e w16 ⟨rfl, hq⟩
                replace hP := hP.later hq
                replace hE := hE.later hq
                refine hK.out _ _ hE ?_
                clear hK K hq
                refine plan_take _ _ rfl (yields_bal_neT u.b hub (by rfl) _ _ _ rfl rfl rfl) ?_
                try simp only [Act.put, List.setIfInBounds_toArray, List.set_cons_zero, List.set_cons_succ]
                refine plan_take _ (.bool false) rfl (yields_mv _ (by rfl) _ rfl rfl) ?_
                try simp only [Act.put, List.setIfInBounds_toArray, List.set_cons_zero, List.set_cons_succ]
                refine plan_take _ (.bool u.hasV) rfl (yields_mv _ (by rfl) _ rfl rfl) ?_
                try simp only [Act.put, List.setIfInBounds_toArray, List.set_cons_zero, List.set_cons_succ]
                refine plan_take _ (.pointer (some ⟨r, 0, none⟩)) rfl (yields_mv _ (by rfl) _ rfl rfl) ?_
                try simp only [Act.put, List.setIfInBounds_toArray, List.set_cons_zero, List.set_cons_succ]
                refine plan_take _ _ rfl (yields_nilc (by rfl) _ rfl _ rfl) ?_
                try simp only [Act.put, List.setIfInBounds_toArray, List.set_cons_zero, List.set_cons_succ]
                refine plan_take _ (.pointer (some ⟨r, 18, none⟩)) rfl (.inl ⟨by rfl, fun W hS => by clear hS; go_simp; try with_reducible rfl⟩) ?_
                try simp only [Act.put, List.setIfInBounds_toArray, List.set_cons_zero, List.set_cons_succ]
                iterate 1
                  first
                    | (refine plan_pass _ rfl (by rfl) ?_)
                    | (refine plan_take _ _ rfl (.inl ⟨by rfl, fun W hS => by have z := rp_hasV (hS.get 0 rfl); go_simp; try with_reducible rfl⟩) ?_)
                  try simp only [Act.put, List.setIfInBounds_toArray, List.set_cons_zero, List.set_cons_succ]
                refine plan_take _ (.bool false) rfl (.inl ⟨by rfl, fun W hS => by clear hS; go_simp; try simp⟩) ?_
                try simp only [Act.put, List.setIfInBounds_toArray, List.set_cons_zero, List.set_cons_succ]
                refine plan_take _ (.bool false) rfl (yields_pickF (by rfl) _ _ _ rfl false rfl _ rfl) ?_
                try simp only [Act.put, List.setIfInBounds_toArray, List.set_cons_zero, List.set_cons_succ]
                refine plan_take _ (.bool false) rfl (yields_mv _ (by rfl) _ rfl rfl) ?_
                try simp only [Act.put, List.setIfInBounds_toArray, List.set_cons_zero, List.set_cons_succ]
                refine plan_take _ (.bool u.hasV) rfl (yields_mv _ (by rfl) _ rfl rfl) ?_
                try simp only [Act.put, List.setIfInBounds_toArray, List.set_cons_zero, List.set_cons_succ]
                refine plan_take _ (.bool u.hasV) rfl (yields_mv _ (by rfl) _ rfl rfl) ?_
                try simp only [Act.put, List.setIfInBounds_toArray, List.set_cons_zero, List.set_cons_succ]
                cases hV : u.hasV with
                | false =>
                  clear hy1
                  refine plan_pass _ rfl (by rfl) ?_
                  try simp only [Act.put, List.setIfInBounds_toArray, List.set_cons_zero, List.set_cons_succ]
                  refine plan_pass _ rfl (by rfl) ?_
                  try simp only [Act.put, List.setIfInBounds_toArray, List.set_cons_zero, List.set_cons_succ]
                  refine plan_pass _ rfl (by rfl) ?_
                  try simp only [Act.put, List.setIfInBounds_toArray, List.set_cons_zero, List.set_cons_succ]
                  refine plan_pass _ rfl (by rfl) ?_
                  try simp only [Act.put, List.setIfInBounds_toArray, List.set_cons_zero, List.set_cons_succ]
                  refine plan_pass _ rfl (by rfl) ?_
                  try simp only [Act.put, List.setIfInBounds_toArray, List.set_cons_zero, List.set_cons_succ]
                  refine plan_pass _ rfl (by rfl) ?_
                  try simp only [Act.put, List.setIfInBounds_toArray, List.set_cons_zero, List.set_cons_succ]
                  refine plan_take _ (.bool false) rfl (yields_pickF (by rfl) _ _ _ rfl false rfl _ rfl) ?_
                  try simp only [Act.put, List.setIfInBounds_toArray, List.set_cons_zero, List.set_cons_succ]
                  refine plan_take _ (.bool false) rfl (yields_pickF (by rfl) _ _ _ rfl false rfl _ rfl) ?_
                  try simp only [Act.put, List.setIfInBounds_toArray, List.set_cons_zero, List.set_cons_succ]
                  refine plan_take _ (.bool false) rfl (yields_mv _ (by rfl) _ rfl rfl) ?_
                  try simp only [Act.put, List.setIfInBounds_toArray, List.set_cons_zero, List.set_cons_succ]
                  refine plan_take _ (.bool u.hasD) rfl (yields_mv _ (by rfl) _ rfl rfl) ?_
                  try simp only [Act.put, List.setIfInBounds_toArray, List.set_cons_zero, List.set_cons_succ]
                  refine plan_take _ (.pointer (some ⟨r, 0, none⟩)) rfl (yields_mv _ (by rfl) _ rfl rfl) ?_
                  try simp only [Act.put, List.setIfInBounds_toArray, List.set_cons_zero, List.set_cons_succ]
                  refine plan_take _ _ rfl (yields_nilc (by rfl) _ rfl _ rfl) ?_
                  try simp only [Act.put, List.setIfInBounds_toArray, List.set_cons_zero, List.set_cons_succ]
                  refine plan_take _ (.pointer (some ⟨r, 26, none⟩)) rfl (.inl ⟨by rfl, fun W hS => by clear hS; go_simp; try with_reducible rfl⟩) ?_
                  try simp only [Act.put, List.setIfInBounds_toArray, List.set_cons_zero, List.set_cons_succ]
                  iterate 1
                    first
                      | (refine plan_pass _ rfl (by rfl) ?_)
                      | (refine plan_take _ _ rfl (.inl ⟨by rfl, fun W hS => by have z := rp_hasD (hS.get 0 rfl); go_simp; try with_reducible rfl⟩) ?_)
                    try simp only [Act.put, List.setIfInBounds_toArray, List.set_cons_zero, List.set_cons_succ]
                  refine plan_take _ (.bool false) rfl (.inl ⟨by rfl, fun W hS => by clear hS; go_simp; try simp⟩) ?_
                  try simp only [Act.put, List.setIfInBounds_toArray, List.set_cons_zero, List.set_cons_succ]
                  refine plan_take _ (.bool false) rfl (yields_pickF (by rfl) _ _ _ rfl false rfl _ rfl) ?_
                  try simp only [Act.put, List.setIfInBounds_toArray, List.set_cons_zero, List.set_cons_succ]
                  refine plan_take _ (.bool false) rfl (yields_mv _ (by rfl) _ rfl rfl) ?_
                  try simp only [Act.put, List.setIfInBounds_toArray, List.set_cons_zero, List.set_cons_succ]
                  refine plan_take _ (.bool u.hasD) rfl (yields_mv _ (by rfl) _ rfl rfl) ?_
                  try simp only [Act.put, List.setIfInBounds_toArray, List.set_cons_zero, List.set_cons_succ]
                  refine plan_take _ (.bool u.hasD) rfl (yields_mv _ (by rfl) _ rfl rfl) ?_
                  try simp only [Act.put, List.setIfInBounds_toArray, List.set_cons_zero, List.set_cons_succ]
                  cases hD : u.hasD with
                  | false =>
                    clear hy2
                    refine plan_pass _ rfl (by rfl) ?_
                    try simp only [Act.put, List.setIfInBounds_toArray, List.set_cons_zero, List.set_cons_succ]
                    refine plan_pass _ rfl (by rfl) ?_
                    try simp only [Act.put, List.setIfInBounds_toArray, List.set_cons_zero, List.set_cons_succ]
                    refine plan_pass _ rfl (by rfl) ?_
                    try simp only [Act.put, List.setIfInBounds_toArray, List.set_cons_zero, List.set_cons_succ]
                    refine plan_pass _ rfl (by rfl) ?_
                    try simp only [Act.put, List.setIfInBounds_toArray, List.set_cons_zero, List.set_cons_succ]
                    refine plan_pass _ rfl (by rfl) ?_
                    try simp only [Act.put, List.setIfInBounds_toArray, List.set_cons_zero, List.set_cons_succ]
                    refine plan_pass _ rfl (by rfl) ?_
                    try simp only [Act.put, List.setIfInBounds_toArray, List.set_cons_zero, List.set_cons_succ]
                    refine plan_take _ (.bool false) rfl (yields_pickF (by rfl) _ _ _ rfl false rfl _ rfl) ?_
                    try simp only [Act.put, List.setIfInBounds_toArray, List.set_cons_zero, List.set_cons_succ]
                    refine plan_take _ (.bool false) rfl (yields_pickF (by rfl) _ _ _ rfl false rfl _ rfl) ?_
                    try simp only [Act.put, List.setIfInBounds_toArray, List.set_cons_zero, List.set_cons_succ]
                    refine plan_done ?_
                    go_wp2
                    go_roundw
                    case rel => exact ⟨n + 1, u, by omega, by go_num, hP, hE.get 0 rfl, hE.below⟩
                    case measure => simp [intOf]; omega
                  | true =>
                    obtain rfl : u.dec = y2 := (hy2 hD).symm
                    clear hy2
                    refine plan_take _ _ rfl (yields_inc u.dec (by rfl) _ rfl g2 rfl (fun _ h => h.get 2 rfl)) ?_
                    try simp only [Act.put, List.setIfInBounds_toArray, List.set_cons_zero, List.set_cons_succ]
                    refine plan_take _ (.pointer (some ⟨r, 0, none⟩)) rfl (yields_mv _ (by rfl) _ rfl rfl) ?_
                    try simp only [Act.put, List.setIfInBounds_toArray, List.set_cons_zero, List.set_cons_succ]
                    refine plan_take _ _ rfl (yields_nilc (by rfl) _ rfl _ rfl) ?_
                    try simp only [Act.put, List.setIfInBounds_toArray, List.set_cons_zero, List.set_cons_succ]
                    refine plan_take _ (.pointer (some ⟨r, 23, none⟩)) rfl (.inl ⟨by rfl, fun W hS => by clear hS; go_simp; try with_reducible rfl⟩) ?_
                    try simp only [Act.put, List.setIfInBounds_toArray, List.set_cons_zero, List.set_cons_succ]
                    refine plan_take _ _ rfl (yields_inc_mid u.dec (by rfl) _ rfl r 23 rfl (fun _ h => rp_dec (h.get 0 rfl))) ?_
                    try simp only [Act.put, List.setIfInBounds_toArray, List.set_cons_zero, List.set_cons_succ]
                    refine plan_take _ _ rfl (yields_inc_neT u.dec hud (by rfl) _ _ _ rfl rfl rfl) ?_
                    try simp only [Act.put, List.setIfInBounds_toArray, List.set_cons_zero, List.set_cons_succ]
                    refine plan_take _ (.bool false) rfl (yields_pickF (by rfl) _ _ _ rfl true rfl _ rfl) ?_
                    try simp only [Act.put, List.setIfInBounds_toArray, List.set_cons_zero, List.set_cons_succ]
                    refine plan_take _ (.bool false) rfl (yields_pickF (by rfl) _ _ _ rfl false rfl _ rfl) ?_
                    try simp only [Act.put, List.setIfInBounds_toArray, List.set_cons_zero, List.set_cons_succ]
                    refine plan_done ?_
                    go_wp2
                    go_roundw
                    case rel => exact ⟨n + 1, u, by omega, by go_num, hP, hE.get 0 rfl, hE.below⟩
                    case measure => simp [intOf]; omega
                | true =>
                  obtain rfl : u.value = y1 := (hy1 hV).symm
                  clear hy1
                  refine plan_take _ _ rfl (yields_inc u.value (by rfl) _ rfl g1 rfl (fun _ h => h.get 1 rfl)) ?_
                  try simp only [Act.put, List.setIfInBounds_toArray, List.set_cons_zero, List.set_cons_succ]
                  refine plan_take _ (.pointer (some ⟨r, 0, none⟩)) rfl (yields_mv _ (by rfl) _ rfl rfl) ?_
                  try simp only [Act.put, List.setIfInBounds_toArray, List.set_cons_zero, List.set_cons_succ]
                  refine plan_take _ _ rfl (yields_nilc (by rfl) _ rfl _ rfl) ?_
                  try simp only [Act.put, List.setIfInBounds_toArray, List.set_cons_zero, List.set_cons_succ]
                  refine plan_take _ (.pointer (some ⟨r, 15, none⟩)) rfl (.inl ⟨by rfl, fun W hS => by clear hS; go_simp; try with_reducible rfl⟩) ?_
                  try simp only [Act.put, List.setIfInBounds_toArray, List.set_cons_zero, List.set_cons_succ]
                  refine plan_take _ _ rfl (yields_inc_mid u.value (by rfl) _ rfl r 15 rfl (fun _ h => rp_value (h.get 0 rfl))) ?_
                  try simp only [Act.put, List.setIfInBounds_toArray, List.set_cons_zero, List.set_cons_succ]
                  refine plan_take _ _ rfl (yields_inc_neT u.value huv (by rfl) _ _ _ rfl rfl rfl) ?_
                  try simp only [Act.put, List.setIfInBounds_toArray, List.set_cons_zero, List.set_cons_succ]
                  refine plan_take _ (.bool false) rfl (yields_pickF (by rfl) _ _ _ rfl true rfl _ rfl) ?_
                  try simp only [Act.put, List.setIfInBounds_toArray, List.set_cons_zero, List.set_cons_succ]
                  refine plan_take _ (.bool false) rfl (yields_pickF (by rfl) _ _ _ rfl false rfl _ rfl) ?_
                  try simp only [Act.put, List.setIfInBounds_toArray, List.set_cons_zero, List.set_cons_succ]
                  refine plan_take _ (.bool false) rfl (yields_mv _ (by rfl) _ rfl rfl) ?_
                  try simp only [Act.put, List.setIfInBounds_toArray, List.set_cons_zero, List.set_cons_succ]
                  refine plan_take _ (.bool u.hasD) rfl (yields_mv _ (by rfl) _ rfl rfl) ?_
                  try simp only [Act.put, List.setIfInBounds_toArray, List.set_cons_zero, List.set_cons_succ]
                  refine plan_take _ (.pointer (some ⟨r, 0, none⟩)) rfl (yields_mv _ (by rfl) _ rfl rfl) ?_
                  try simp only [Act.put, List.setIfInBounds_toArray, List.set_cons_zero, List.set_cons_succ]
                  refine plan_take _ _ rfl (yields_nilc (by rfl) _ rfl _ rfl) ?_
                  try simp only [Act.put, List.setIfInBounds_toArray, List.set_cons_zero, List.set_cons_succ]
                  refine plan_take _ (.pointer (some ⟨r, 26, none⟩)) rfl (.inl ⟨by rfl, fun W hS => by clear hS; go_simp; try with_reducible rfl⟩) ?_
                  try simp only [Act.put, List.setIfInBounds_toArray, List.set_cons_zero, List.set_cons_succ]
                  iterate 1
                    first
                      | (refine plan_pass _ rfl (by rfl) ?_)
                      | (refine plan_take _ _ rfl (.inl ⟨by rfl, fun W hS => by have z := rp_hasD (hS.get 0 rfl); go_simp; try with_reducible rfl⟩) ?_)
                    try simp only [Act.put, List.setIfInBounds_toArray, List.set_cons_zero, List.set_cons_succ]
                  refine plan_take _ (.bool false) rfl (.inl ⟨by rfl, fun W hS => by clear hS; go_simp; try simp⟩) ?_
                  try simp only [Act.put, List.setIfInBounds_toArray, List.set_cons_zero, List.set_cons_succ]
                  refine plan_take _ (.bool false) rfl (yields_pickF (by rfl) _ _ _ rfl false rfl _ rfl) ?_
                  try simp only [Act.put, List.setIfInBounds_toArray, List.set_cons_zero, List.set_cons_succ]
                  refine plan_take _ (.bool false) rfl (yields_mv _ (by rfl) _ rfl rfl) ?_
                  try simp only [Act.put, List.setIfInBounds_toArray, List.set_cons_zero, List.set_cons_succ]
                  refine plan_take _ (.bool u.hasD) rfl (yields_mv _ (by rfl) _ rfl rfl) ?_
                  try simp only [Act.put, List.setIfInBounds_toArray, List.set_cons_zero, List.set_cons_succ]
                  refine plan_take _ (.bool u.hasD) rfl (yields_mv _ (by rfl) _ rfl rfl) ?_
                  try simp only [Act.put, List.setIfInBounds_toArray, List.set_cons_zero, List.set_cons_succ]
                  cases hD : u.hasD with
                  | false =>
                    clear hy2
                    refine plan_pass _ rfl (by rfl) ?_
                    try simp only [Act.put, List.setIfInBounds_toArray, List.set_cons_zero, List.set_cons_succ]
                    refine plan_pass _ rfl (by rfl) ?_
                    try simp only [Act.put, List.setIfInBounds_toArray, List.set_cons_zero, List.set_cons_succ]
                    refine plan_pass _ rfl (by rfl) ?_
                    try simp only [Act.put, List.setIfInBounds_toArray, List.set_cons_zero, List.set_cons_succ]
                    refine plan_pass _ rfl (by rfl) ?_
                    try simp only [Act.put, List.setIfInBounds_toArray, List.set_cons_zero, List.set_cons_succ]
                    refine plan_pass _ rfl (by rfl) ?_
                    try simp only [Act.put, List.setIfInBounds_toArray, List.set_cons_zero, List.set_cons_succ]
                    refine plan_pass _ rfl (by rfl) ?_
                    try simp only [Act.put, List.setIfInBounds_toArray, List.set_cons_zero, List.set_cons_succ]
                    refine plan_take _ (.bool false) rfl (yields_pickF (by rfl) _ _ _ rfl false rfl _ rfl) ?_
                    try simp only [Act.put, List.setIfInBounds_toArray, List.set_cons_zero, List.set_cons_succ]
                    refine plan_take _ (.bool false) rfl (yields_pickF (by rfl) _ _ _ rfl false rfl _ rfl) ?_
                    try simp only [Act.put, List.setIfInBounds_toArray, List.set_cons_zero, List.set_cons_succ]
                    refine plan_done ?_
                    go_wp2
                    go_roundw
                    case rel => exact ⟨n + 1, u, by omega, by go_num, hP, hE.get 0 rfl, hE.below⟩
                    case measure => simp [intOf]; omega
                  | true =>
                    obtain rfl : u.dec = y2 := (hy2 hD).symm
                    clear hy2
                    refine plan_take _ _ rfl (yields_inc u.dec (by rfl) _ rfl g2 rfl (fun _ h => h.get 2 rfl)) ?_
                    try simp only [Act.put, List.setIfInBounds_toArray, List.set_cons_zero, List.set_cons_succ]
                    refine plan_take _ (.pointer (some ⟨r, 0, none⟩)) rfl (yields_mv _ (by rfl) _ rfl rfl) ?_
                    try simp only [Act.put, List.setIfInBounds_toArray, List.set_cons_zero, List.set_cons_succ]
                    refine plan_take _ _ rfl (yields_nilc (by rfl) _ rfl _ rfl) ?_
                    try simp only [Act.put, List.setIfInBounds_toArray, List.set_cons_zero, List.set_cons_succ]
                    refine plan_take _ (.pointer (some ⟨r, 23, none⟩)) rfl (.inl ⟨by rfl, fun W hS => by clear hS; go_simp; try with_reducible rfl⟩) ?_
                    try simp only [Act.put, List.setIfInBounds_toArray, List.set_cons_zero, List.set_cons_succ]
                    refine plan_take _ _ rfl (yields_inc_mid u.dec (by rfl) _ rfl r 23 rfl (fun _ h => rp_dec (h.get 0 rfl))) ?_
                    try simp only [Act.put, List.setIfInBounds_toArray, List.set_cons_zero, List.set_cons_succ]
                    refine plan_take _ _ rfl (yields_inc_neT u.dec hud (by rfl) _ _ _ rfl rfl rfl) ?_
                    try simp only [Act.put, List.setIfInBounds_toArray, List.set_cons_zero, List.set_cons_succ]
                    refine plan_take _ (.bool false) rfl (yields_pickF (by rfl) _ _ _ rfl true rfl _ rfl) ?_
                    try simp only [Act.put, List.setIfInBounds_toArray, List.set_cons_zero, List.set_cons_succ]
                    refine plan_take _ (.bool false) rfl (yields_pickF (by rfl) _ _ _ rfl false rfl _ rfl) ?_
                    try simp only [Act.put, List.setIfInBounds_toArray, List.set_cons_zero, List.set_cons_succ]
                    refine plan_done ?_
                    go_wp2
                    go_roundw
                    case rel => exact ⟨n + 1, u, by omega, by go_num, hP, hE.get 0 rfl, hE.below⟩
                    case measure => simp [intOf]; omega
              · have hw0I : (0 : Int) < s.what := by omega
                by_cases hw2 : s.what ≤ 2
                · go_wp2_with ((with_reducible refine at_g0 ?_); first
                    | ((with_reducible refine at_all ?_); first
                      | (refine wpList_alloc_has (by rfl) 36 rfl _ pst_zero ?_; (try simp only [Act.put, List.setIfInBounds_toArray, List.set_cons_zero, List.set_cons_succ]))
                      | (refine alloc_bal (by rfl) rfl ?_; (try simp only [Act.put, List.setIfInBounds_toArray, List.set_cons_zero, List.set_cons_succ])))
                    | ((with_reducible refine at_sto ?_); first
                      | (refine wpList_store_has (by rfl) 36 _ _ rfl wr.heap.size rfl (pstL s).toArray rfl 36 (pstL pst0).toArray (pst_size _) rfl (pst_one _) ?hg ?_; (case hg => exact Has.new _ _ _); rw [hw4]; (try simp only [Act.put, List.setIfInBounds_toArray, List.set_cons_zero, List.set_cons_succ]))
                      | (refine store_bal b bal0 (by rfl) _ _ rfl w4.heap.size rfl rfl ?hg ?_; (case hg => exact Has.new _ _ _); rw [hw5]; (try simp only [Act.put, List.setIfInBounds_toArray, List.set_cons_zero, List.set_cons_succ])))
                    | ((with_reducible refine at_loa ?_); first
                      | (refine wpList_load_any (by rfl) 36 _ rfl _ rfl (pstL s) _ ?hg Try.underlying36 rfl (pst_size s) ?_; (case hg => exact hst); (try simp only [Act.put, List.setIfInBounds_toArray, List.set_cons_zero, List.set_cons_succ]))
                      | (refine wpList_load_mid' (by rfl) 31 _ rfl wr.heap.size 3 rfl (balC b).toList _ ?hg Try.underlying31 rfl (bal_size _) ?_; (case hg => exact rB); (try simp only [Act.put, List.setIfInBounds_toArray, List.set_cons_zero, List.set_cons_succ]))))
                  clear hst rB zo zw hw4 hw5 hB5 hS4 hltp hltr hlt4 hlp4 hlr4
                  generalize wr.heap.size = gs at *
                  generalize w4.heap.size = gb at *
                  have hwS : w5 = w5 := rfl
                  clear hwS
                  generalize w5 = wS at *
                  have hvo := hP.ok
                  obtain ⟨u, res, hu⟩ : ∃ u res, promM v s.from' b s.acc s.x s.has = (u, res) := ⟨_, _, rfl⟩
                  refine wp_region_plan (fun W => Env w W _) (Plan.of [(0, true), (1, true), (2, true), (3, true), (4, true), (5, true), (6, true), (7, true), (8, true), (9, true), (11, true), (12, true), (13, true), (14, true), (15, true), (16, true), (17, true), (18, true), (19, true), (20, true), (10, false), (21, false), (22, true)] .done) (by kernel_rfl) (by kernel_rfl) (by kernel_rfl) (by kernel_rfl) hE.drew ?_
                  replace hE := hE.drew
                  replace hP := hP.drew
                  replace hR := hR.drew
                  generalize wS.drew = wT at *
                  iterate 2
                    first
                      | (refine plan_pass _ rfl (by rfl) ?_)
                      | (refine plan_take _ _ rfl (.inl ⟨by rfl, fun W hS => by clear hS; go_simp; try with_reducible rfl⟩) ?_)
                    try simp only [Act.put, List.setIfInBounds_toArray, List.set_cons_zero, List.set_cons_succ]
                  iterate 1
                    first
                      | (refine plan_pass _ rfl (by rfl) ?_)
                      | (refine plan_take _ _ rfl (.inl ⟨by rfl, fun W hS => by have z := pst_from (hS.get 0 rfl); go_simp; try with_reducible rfl⟩) ?_)
                    try simp only [Act.put, List.setIfInBounds_toArray, List.set_cons_zero, List.set_cons_succ]
                  refine plan_take _ _ rfl (yields_bal b (by rfl) _ rfl gb rfl (fun _ h => h.get 1 rfl)) ?_
                  try simp only [Act.put, List.setIfInBounds_toArray, List.set_cons_zero, List.set_cons_succ]
                  iterate 1
                    first
                      | (refine plan_pass _ rfl (by rfl) ?_)
                      | (refine plan_take _ _ rfl (.inl ⟨by rfl, fun W hS => by clear hS; go_simp; try with_reducible rfl⟩) ?_)
                    try simp only [Act.put, List.setIfInBounds_toArray, List.set_cons_zero, List.set_cons_succ]
                  refine plan_take _ _ rfl (yields_bal_mid s.acc (by rfl) _ rfl gs 5 rfl (fun _ h => pst_acc (h.get 0 rfl))) ?_
                  try simp only [Act.put, List.setIfInBounds_toArray, List.set_cons_zero, List.set_cons_succ]
                  iterate 1
                    first
                      | (refine plan_pass _ rfl (by rfl) ?_)
                      | (refine plan_take _ _ rfl (.inl ⟨by rfl, fun W hS => by clear hS; go_simp; try with_reducible rfl⟩) ?_)
                    try simp only [Act.put, List.setIfInBounds_toArray, List.set_cons_zero, List.set_cons_succ]
                  refine plan_take _ _ rfl (yields_inc_mid s.x (by rfl) _ rfl gs 7 rfl (fun _ h => pst_x (h.get 0 rfl))) ?_
                  try simp only [Act.put, List.setIfInBounds_toArray, List.set_cons_zero, List.set_cons_succ]
                  iterate 1
                    first
                      | (refine plan_pass _ rfl (by rfl) ?_)
                      | (refine plan_take _ _ rfl (.inl ⟨by rfl, fun W hS => by clear hS; go_simp; try with_reducible rfl⟩) ?_)
                    try simp only [Act.put, List.setIfInBounds_toArray, List.set_cons_zero, List.set_cons_succ]
                  iterate 1
                    first
                      | (refine plan_pass _ rfl (by rfl) ?_)
                      | (refine plan_take _ _ rfl (.inl ⟨by rfl, fun W hS => by have z := pst_has (hS.get 0 rfl); go_simp; try with_reducible rfl⟩) ?_)
                    try simp only [Act.put, List.setIfInBounds_toArray, List.set_cons_zero, List.set_cons_succ]
                  iterate 2
                    first
                      | (refine plan_pass _ rfl (by rfl) ?_)
                      | (refine plan_take _ _ rfl (.inl ⟨by rfl, fun W hS => by clear hS; go_simp; try with_reducible rfl⟩) ?_)
                    try simp only [Act.put, List.setIfInBounds_toArray, List.set_cons_zero, List.set_cons_succ]
                  iterate 1
                    first
                      | (refine plan_pass _ rfl (by rfl) ?_)
                      | (refine plan_take _ _ rfl (.inl ⟨by rfl, fun W hS => by have z := pst_from (hS.get 0 rfl); go_simp; try with_reducible rfl⟩) ?_)
                    try simp only [Act.put, List.setIfInBounds_toArray, List.set_cons_zero, List.set_cons_succ]
                  refine plan_take _ _ rfl (yields_bal b (by rfl) _ rfl gb rfl (fun _ h => h.get 1 rfl)) ?_
                  try simp only [Act.put, List.setIfInBounds_toArray, List.set_cons_zero, List.set_cons_succ]
                  iterate 1
                    first
                      | (refine plan_pass _ rfl (by rfl) ?_)
                      | (refine plan_take _ _ rfl (.inl ⟨by rfl, fun W hS => by clear hS; go_simp; try with_reducible rfl⟩) ?_)
                    try simp only [Act.put, List.setIfInBounds_toArray, List.set_cons_zero, List.set_cons_succ]
                  refine plan_take _ _ rfl (yields_bal_mid s.acc (by rfl) _ rfl gs 5 rfl (fun _ h => pst_acc (h.get 0 rfl))) ?_
                  try simp only [Act.put, List.setIfInBounds_toArray, List.set_cons_zero, List.set_cons_succ]
                  iterate 1
                    first
                      | (refine plan_pass _ rfl (by rfl) ?_)
                      | (refine plan_take _ _ rfl (.inl ⟨by rfl, fun W hS => by clear hS; go_simp; try with_reducible rfl⟩) ?_)
                    try simp only [Act.put, List.setIfInBounds_toArray, List.set_cons_zero, List.set_cons_succ]
                  refine plan_take _ _ rfl (yields_inc_mid s.x (by rfl) _ rfl gs 7 rfl (fun _ h => pst_x (h.get 0 rfl))) ?_
                  try simp only [Act.put, List.setIfInBounds_toArray, List.set_cons_zero, List.set_cons_succ]
                  iterate 1
                    first
                      | (refine plan_pass _ rfl (by rfl) ?_)
                      | (refine plan_take _ _ rfl (.inl ⟨by rfl, fun W hS => by clear hS; go_simp; try with_reducible rfl⟩) ?_)
                    try simp only [Act.put, List.setIfInBounds_toArray, List.set_cons_zero, List.set_cons_succ]
                  iterate 1
                    first
                      | (refine plan_pass _ rfl (by rfl) ?_)
                      | (refine plan_take _ _ rfl (.inl ⟨by rfl, fun W hS => by have z := pst_has (hS.get 0 rfl); go_simp; try with_reducible rfl⟩) ?_)
                    try simp only [Act.put, List.setIfInBounds_toArray, List.set_cons_zero, List.set_cons_succ]
                  have hk1 := ppromise_is p v s.from' b s.acc s.x s.has wT hu hP hs.from' hbo hs.acc hs.x
                  have hk2 := fun W h => rpromise_any r v s.from' b s.acc s.x s.has W h hvo hs.from' hbo hs.acc hs.x
                  simp only [hu] at hk2
                  refine plan_run _ rfl (fun K hK => ?_)
                  go_simp
                  refine (hk1).mono ?_
                  rintro e w7 ⟨rfl, hP7, hq⟩
                  replace hR := hq.has hR (Ne.symm hpr)
                  replace hE := hE.but hq hp hAp
                  refine hK.out _ _ hE ?_
                  clear hK K hq hP
                  refine plan_run _ rfl (fun K hK => ?_)
                  go_simp
                  refine (hk2 _ hR).mono ?_
                  rintro e w8 ⟨rfl, hR8, hq⟩
                  replace hP7 := hP7.but hq hpr
                  replace hE := hE.but hq hr hAr
                  refine hK.out _ _ hE ?_
                  clear hK K hq hR
                  refine plan_take _ (.bool false) rfl (.inl ⟨by rfl, fun W hS => by clear hS; go_simp; try simp⟩) ?_
                  try simp only [Act.put, List.setIfInBounds_toArray, List.set_cons_zero, List.set_cons_succ]
                  refine plan_done ?_
                  clear hk1 hk2 hu hvo
                  replace hb := hE.below
                  clear hE hAp hAr
                  have hP := hP7
                  have hR := hR8
                  clear hP7 hR8
                  have hub := hP.ok.b
                  have huv := hP.ok.value
                  have hud := hP.ok.dec
                  go_wp2_with fail
                  refine (pvalue_any p u _ hP).mono ?_
                  rintro e w10 ⟨y1, rfl, _, hy1, hq⟩
                  replace hP := hP.later hq
                  have hE := (Env.start (hb.trans (hq.mono hb.size))).add (hR.later hq)
                  clear hq hR hb
                  obtain ⟨w11, hw11, hY, hq⟩ := new_var w10 23 (incC inc0) (incC y1)
                  replace hP := hP.later hq
                  replace hE := (hE.later hq).add hY
                  clear hq hY
                  go_wp2_with (first
                    | ((with_reducible refine at_all ?_); (refine alloc_inc0 (by rfl) rfl ?_; (try simp only [Act.put, List.setIfInBounds_toArray, List.set_cons_zero, List.set_cons_succ])))
                    | ((with_reducible refine at_sto ?_); (refine store_inc y1 inc0 (by rfl) _ _ rfl w10.heap.size rfl rfl ?hg ?_; (case hg => exact Has.new _ _ _); rw [hw11]; (try simp only [Act.put, List.setIfInBounds_toArray, List.set_cons_zero, List.set_cons_succ]))))
                  clear hw11
                  generalize w10.heap.size = g1 at *
                  refine (pdecided_any p u _ hP).mono ?_
                  rintro e w13 ⟨y2, rfl, _, hy2, hq⟩
                  replace hP := hP.later hq
                  replace hE := hE.later hq
                  clear hq
                  obtain ⟨w14, hw14, hY, hq⟩ := new_var w13 23 (incC inc0) (incC y2)
                  replace hP := hP.later hq
                  replace hE := (hE.later hq).add hY
                  clear hq hY
                  go_wp2_with (first
                    | ((with_reducible refine at_all ?_); (refine alloc_inc0 (by rfl) rfl ?_; (try simp only [Act.put, List.setIfInBounds_toArray, List.set_cons_zero, List.set_cons_succ])))
                    | ((with_reducible refine at_sto ?_); (refine store_inc y2 inc0 (by rfl) _ _ rfl w13.heap.size rfl rfl ?hg ?_; (case hg => exact Has.new _ _ _); rw [hw14]; (try simp only [Act.put, List.setIfInBounds_toArray, List.set_cons_zero, List.set_cons_succ]))))
                  clear hw14
                  generalize w13.heap.size = g2 at *
                  refine wp_region_plan (fun W => Env w W _) (Plan.of [(0, true), (2, true), (3, true), (4, true), (5, true), (1, false), (6, true), (7, true), (8, true), (9, true), (10, true), (11, true), (12, true), (13, true), (14, true), (15, true), (16, true), (17, true), (18, true), (19, true), (20, true), (21, true), (22, true), (23, true), (24, true), (25, true), (26, true), (27, true), (28, true), (29, true), (30, true), (31, true), (32, true), (33, true), (34, true), (35, true), (36, true), (37, true), (38, true), (39, true), (40, true), (41, true), (42, true), (43, true), (44, true)] .done) (by kernel_rfl) (by kernel_rfl) (by kernel_rfl) (by kernel_rfl) hE.drew ?_
                  replace hE := hE.drew
                  replace hP := hP.drew
                  generalize w14.drew = w15 at *
                  refine plan_take _ (.pointer (some ⟨p, 0, none⟩)) rfl (yields_mv _ (by rfl) _ rfl rfl) ?_
                  try simp only [Act.put, List.setIfInBounds_toArray, List.set_cons_zero, List.set_cons_succ]
                  refine plan_take _ (.pointer (some ⟨r, 0, none⟩)) rfl (yields_mv _ (by rfl) _ rfl rfl) ?_
                  try simp only [Act.put, List.setIfInBounds_toArray, List.set_cons_zero, List.set_cons_succ]
                  refine plan_take _ _ rfl (yields_nilc (by rfl) _ rfl _ rfl) ?_
                  try simp only [Act.put, List.setIfInBounds_toArray, List.set_cons_zero, List.set_cons_succ]
                  refine plan_take _ (.pointer (some ⟨r, 4, none⟩)) rfl (.inl ⟨by rfl, fun W hS => by clear hS; go_simp; try with_reducible rfl⟩) ?_
                  try simp only [Act.put, List.setIfInBounds_toArray, List.set_cons_zero, List.set_cons_succ]
                  refine plan_take _ _ rfl (yields_bal_mid u.b (by rfl) _ rfl r 4 rfl (fun _ h => rp_b (h.get 0 rfl))) ?_
                  try simp only [Act.put, List.setIfInBounds_toArray, List.set_cons_zero, List.set_cons_succ]
                  refine plan_run _ rfl (fun K hK => ?_)
                  go_simp
                  refine (pballot_any p u _ hP).mono ?_
                  rintro e w16 ⟨rfl, hq⟩
                  replace hP := hP.later hq
                  replace hE := hE.later hq
                  refine hK.out _ _ hE ?_
                  clear hK K hq
                  refine plan_take _ _ rfl (yields_bal_neT u.b hub (by rfl) _ _ _ rfl rfl rfl) ?_
                  try simp only [Act.put, List.setIfInBounds_toArray, List.set_cons_zero, List.set_cons_succ]
                  refine plan_take _ (.bool false) rfl (yields_mv _ (by rfl) _ rfl rfl) ?_
                  try simp only [Act.put, List.setIfInBounds_toArray, List.set_cons_zero, List.set_cons_succ]
                  refine plan_take _ (.bool u.hasV) rfl (yields_mv _ (by rfl) _ rfl rfl) ?_
                  try simp only [Act.put, List.setIfInBounds_toArray, List.set_cons_zero, List.set_cons_succ]
                  refine plan_take _ (.pointer (some ⟨r, 0, none⟩)) rfl (yields_mv _ (by rfl) _ rfl rfl) ?_
                  try simp only [Act.put, List.setIfInBounds_toArray, List.set_cons_zero, List.set_cons_succ]
                  refine plan_take _ _ rfl (yields_nilc (by rfl) _ rfl _ rfl) ?_
                  try simp only [Act.put, List.setIfInBounds_toArray, List.set_cons_zero, List.set_cons_succ]
                  refine plan_take _ (.pointer (some ⟨r, 18, none⟩)) rfl (.inl ⟨by rfl, fun W hS => by clear hS; go_simp; try with_reducible rfl⟩) ?_
                  try simp only [Act.put, List.setIfInBounds_toArray, List.set_cons_zero, List.set_cons_succ]
                  iterate 1
                    first
                      | (refine plan_pass _ rfl (by rfl) ?_)
                      | (refine plan_take _ _ rfl (.inl ⟨by rfl, fun W hS => by have z := rp_hasV (hS.get 0 rfl); go_simp; try with_reducible rfl⟩) ?_)
                    try simp only [Act.put, List.setIfInBounds_toArray, List.set_cons_zero, List.set_cons_succ]
                  refine plan_take _ (.bool false) rfl (.inl ⟨by rfl, fun W hS => by clear hS; go_simp; try simp⟩) ?_
                  try simp only [Act.put, List.setIfInBounds_toArray, List.set_cons_zero, List.set_cons_succ]
                  refine plan_take _ (.bool false) rfl (yields_pickF (by rfl) _ _ _ rfl false rfl _ rfl) ?_
                  try simp only [Act.put, List.setIfInBounds_toArray, List.set_cons_zero, List.set_cons_succ]
                  refine plan_take _ (.bool false) rfl (yields_mv _ (by rfl) _ rfl rfl) ?_
                  try simp only [Act.put, List.setIfInBounds_toArray, List.set_cons_zero, List.set_cons_succ]
                  refine plan_take _ (.bool u.hasV) rfl (yields_mv _ (by rfl) _ rfl rfl) ?_
                  try simp only [Act.put, List.setIfInBounds_toArray, List.set_cons_zero, List.set_cons_succ]
                  refine plan_take _ (.bool u.hasV) rfl (yields_mv _ (by rfl) _ rfl rfl) ?_
                  try simp only [Act.put, List.setIfInBounds_toArray, List.set_cons_zero, List.set_cons_succ]
                  cases hV : u.hasV with
                  | false =>
                    clear hy1
                    refine plan_pass _ rfl (by rfl) ?_
                    try simp only [Act.put, List.setIfInBounds_toArray, List.set_cons_zero, List.set_cons_succ]
                    refine plan_pass _ rfl (by rfl) ?_
                    try simp only [Act.put, List.setIfInBounds_toArray, List.set_cons_zero, List.set_cons_succ]
                    refine plan_pass _ rfl (by rfl) ?_
                    try simp only [Act.put, List.setIfInBounds_toArray, List.set_cons_zero, List.set_cons_succ]
                    refine plan_pass _ rfl (by rfl) ?_
                    try simp only [Act.put, List.setIfInBounds_toArray, List.set_cons_zero, List.set_cons_succ]
                    refine plan_pass _ rfl (by rfl) ?_
                    try simp only [Act.put, List.setIfInBounds_toArray, List.set_cons_zero, List.set_cons_succ]
                    refine plan_pass _ rfl (by rfl) ?_
                    try simp only [Act.put, List.setIfInBounds_toArray, List.set_cons_zero, List.set_cons_succ]
                    refine plan_take _ (.bool false) rfl (yields_pickF (by rfl) _ _ _ rfl false rfl _ rfl) ?_
                    try simp only [Act.put, List.setIfInBounds_toArray, List.set_cons_zero, List.set_cons_succ]
                    refine plan_take _ (.bool false) rfl (yields_pickF (by rfl) _ _ _ rfl false rfl _ rfl) ?_
                    try simp only [Act.put, List.setIfInBounds_toArray, List.set_cons_zero, List.set_cons_succ]
                    refine plan_take _ (.bool false) rfl (yields_mv _ (by rfl) _ rfl rfl) ?_
                    try simp only [Act.put, List.setIfInBounds_toArray, List.set_cons_zero, List.set_cons_succ]
                    refine plan_take _ (.bool u.hasD) rfl (yields_mv _ (by rfl) _ rfl rfl) ?_
                    try simp only [Act.put, List.setIfInBounds_toArray, List.set_cons_zero, List.set_cons_succ]
                    refine plan_take _ (.pointer (some ⟨r, 0, none⟩)) rfl (yields_mv _ (by rfl) _ rfl rfl) ?_
                    try simp only [Act.put, List.setIfInBounds_toArray, List.set_cons_zero, List.set_cons_succ]
                    refine plan_take _ _ rfl (yields_nilc (by rfl) _ rfl _ rfl) ?_
                    try simp only [Act.put, List.setIfInBounds_toArray, List.set_cons_zero, List.set_cons_succ]
                    refine plan_take _ (.pointer (some ⟨r, 26, none⟩)) rfl (.inl ⟨by rfl, fun W hS => by clear hS; go_simp; try with_reducible rfl⟩) ?_
                    try simp only [Act.put, List.setIfInBounds_toArray, List.set_cons_zero, List.set_cons_succ]
                    iterate 1
                      first
                        | (refine plan_pass _ rfl (by rfl) ?_)
                        | (refine plan_take _ _ rfl (.inl ⟨by rfl, fun W hS => by have z := rp_hasD (hS.get 0 rfl); go_simp; try with_reducible rfl⟩) ?_)
                      try simp only [Act.put, List.setIfInBounds_toArray, List.set_cons_zero, List.set_cons_succ]
                    refine plan_take _ (.bool false) rfl (.inl ⟨by rfl, fun W hS => by clear hS; go_simp; try simp⟩) ?_
                    try simp only [Act.put, List.setIfInBounds_toArray, List.set_cons_zero, List.set_cons_succ]
                    refine plan_take _ (.bool false) rfl (yields_pickF (by rfl) _ _ _ rfl false rfl _ rfl) ?_
                    try simp only [Act.put, List.setIfInBounds_toArray, List.set_cons_zero, List.set_cons_succ]
                    refine plan_take _ (.bool false) rfl (yields_mv _ (by rfl) _ rfl rfl) ?_
                    try simp only [Act.put, List.setIfInBounds_toArray, List.set_cons_zero, List.set_cons_succ]
                    refine plan_take _ (.bool u.hasD) rfl (yields_mv _ (by rfl) _ rfl rfl) ?_
                    try simp only [Act.put, List.setIfInBounds_toArray, List.set_cons_zero, List.set_cons_succ]
                    refine plan_take _ (.bool u.hasD) rfl (yields_mv _ (by rfl) _ rfl rfl) ?_
                    try simp only [Act.put, List.setIfInBounds_toArray, List.set_cons_zero, List.set_cons_succ]
                    cases hD : u.hasD with
                    | false =>
                      clear hy2
                      refine plan_pass _ rfl (by rfl) ?_
                      try simp only [Act.put, List.setIfInBounds_toArray, List.set_cons_zero, List.set_cons_succ]
                      refine plan_pass _ rfl (by rfl) ?_
                      try simp only [Act.put, List.setIfInBounds_toArray, List.set_cons_zero, List.set_cons_succ]
                      refine plan_pass _ rfl (by rfl) ?_
                      try simp only [Act.put, List.setIfInBounds_toArray, List.set_cons_zero, List.set_cons_succ]
                      refine plan_pass _ rfl (by rfl) ?_
                      try simp only [Act.put, List.setIfInBounds_toArray, List.set_cons_zero, List.set_cons_succ]
                      refine plan_pass _ rfl (by rfl) ?_
                      try simp only [Act.put, List.setIfInBounds_toArray, List.set_cons_zero, List.set_cons_succ]
                      refine plan_pass _ rfl (by rfl) ?_
                      try simp only [Act.put, List.setIfInBounds_toArray, List.set_cons_zero, List.set_cons_succ]
                      refine plan_take _ (.bool false) rfl (yields_pickF (by rfl) _ _ _ rfl false rfl _ rfl) ?_
                      try simp only [Act.put, List.setIfInBounds_toArray, List.set_cons_zero, List.set_cons_succ]
                      refine plan_take _ (.bool false) rfl (yields_pickF (by rfl) _ _ _ rfl false rfl _ rfl) ?_
                      try simp only [Act.put, List.setIfInBounds_toArray, List.set_cons_zero, List.set_cons_succ]
                      refine plan_done ?_
                      go_wp2
                      go_roundw
                      case rel => exact ⟨n + 1, u, by omega, by go_num, hP, hE.get 0 rfl, hE.below⟩
                      case measure => simp [intOf]; omega
                    | true =>
                      obtain rfl : u.dec = y2 := (hy2 hD).symm
                      clear hy2
                      refine plan_take _ _ rfl (yields_inc u.dec (by rfl) _ rfl g2 rfl (fun _ h => h.get 2 rfl)) ?_
                      try simp only [Act.put, List.setIfInBounds_toArray, List.set_cons_zero, List.set_cons_succ]
                      refine plan_take _ (.pointer (some ⟨r, 0, none⟩)) rfl (yields_mv _ (by rfl) _ rfl rfl) ?_
                      try simp only [Act.put, List.setIfInBounds_toArray, List.set_cons_zero, List.set_cons_succ]
                      refine plan_take _ _ rfl (yields_nilc (by rfl) _ rfl _ rfl) ?_
                      try simp only [Act.put, List.setIfInBounds_toArray, List.set_cons_zero, List.set_cons_succ]
                      refine plan_take _ (.pointer (some ⟨r, 23, none⟩)) rfl (.inl ⟨by rfl, fun W hS => by clear hS; go_simp; try with_reducible rfl⟩) ?_
                      try simp only [Act.put, List.setIfInBounds_toArray, List.set_cons_zero, List.set_cons_succ]
                      refine plan_take _ _ rfl (yields_inc_mid u.dec (by rfl) _ rfl r 23 rfl (fun _ h => rp_dec (h.get 0 rfl))) ?_
                      try simp only [Act.put, List.setIfInBounds_toArray, List.set_cons_zero, List.set_cons_succ]
                      refine plan_take _ _ rfl (yields_inc_neT u.dec hud (by rfl) _ _ _ rfl rfl rfl) ?_
                      try simp only [Act.put, List.setIfInBounds_toArray, List.set_cons_zero, List.set_cons_succ]
                      refine plan_take _ (.bool false) rfl (yields_pickF (by rfl) _ _ _ rfl true rfl _ rfl) ?_
                      try simp only [Act.put, List.setIfInBounds_toArray, List.set_cons_zero, List.set_cons_succ]
                      refine plan_take _ (.bool false) rfl (yields_pickF (by rfl) _ _ _ rfl false rfl _ rfl) ?_
                      try simp only [Act.put, List.setIfInBounds_toArray, List.set_cons_zero, List.set_cons_succ]
                      refine plan_done ?_
                      go_wp2
                      go_roundw
                      case rel => exact ⟨n + 1, u, by omega, by go_num, hP, hE.get 0 rfl, hE.below⟩
                      case measure => simp [intOf]; omega
                  | true =>
                    obtain rfl : u.value = y1 := (hy1 hV).symm
                    clear hy1
                    refine plan_take _ _ rfl (yields_inc u.value (by rfl) _ rfl g1 rfl (fun _ h => h.get 1 rfl)) ?_
                    try simp only [Act.put, List.setIfInBounds_toArray, List.set_cons_zero, List.set_cons_succ]
                    refine plan_take _ (.pointer (some ⟨r, 0, none⟩)) rfl (yields_mv _ (by rfl) _ rfl rfl) ?_
                    try simp only [Act.put, List.setIfInBounds_toArray, List.set_cons_zero, List.set_cons_succ]
                    refine plan_take _ _ rfl (yields_nilc (by rfl) _ rfl _ rfl) ?_
                    try simp only [Act.put, List.setIfInBounds_toArray, List.set_cons_zero, List.set_cons_succ]
                    refine plan_take _ (.pointer (some ⟨r, 15, none⟩)) rfl (.inl ⟨by rfl, fun W hS => by clear hS; go_simp; try with_reducible rfl⟩) ?_
                    try simp only [Act.put, List.setIfInBounds_toArray, List.set_cons_zero, List.set_cons_succ]
                    refine plan_take _ _ rfl (yields_inc_mid u.value (by rfl) _ rfl r 15 rfl (fun _ h => rp_value (h.get 0 rfl))) ?_
                    try simp only [Act.put, List.setIfInBounds_toArray, List.set_cons_zero, List.set_cons_succ]
                    refine plan_take _ _ rfl (yields_inc_neT u.value huv (by rfl) _ _ _ rfl rfl rfl) ?_
                    try simp only [Act.put, List.setIfInBounds_toArray, List.set_cons_zero, List.set_cons_succ]
                    refine plan_take _ (.bool false) rfl (yields_pickF (by rfl) _ _ _ rfl true rfl _ rfl) ?_
                    try simp only [Act.put, List.setIfInBounds_toArray, List.set_cons_zero, List.set_cons_succ]
                    refine plan_take _ (.bool false) rfl (yields_pickF (by rfl) _ _ _ rfl false rfl _ rfl) ?_
                    try simp only [Act.put, List.setIfInBounds_toArray, List.set_cons_zero, List.set_cons_succ]
                    refine plan_take _ (.bool false) rfl (yields_mv _ (by rfl) _ rfl rfl) ?_
                    try simp only [Act.put, List.setIfInBounds_toArray, List.set_cons_zero, List.set_cons_succ]
                    refine plan_take _ (.bool u.hasD) rfl (yields_mv _ (by rfl) _ rfl rfl) ?_
                    try simp only [Act.put, List.setIfInBounds_toArray, List.set_cons_zero, List.set_cons_succ]
                    refine plan_take _ (.pointer (some ⟨r, 0, none⟩)) rfl (yields_mv _ (by rfl) _ rfl rfl) ?_
                    try simp only [Act.put, List.setIfInBounds_toArray, List.set_cons_zero, List.set_cons_succ]
                    refine plan_take _ _ rfl (yields_nilc (by rfl) _ rfl _ rfl) ?_
                    try simp only [Act.put, List.setIfInBounds_toArray, List.set_cons_zero, List.set_cons_succ]
                    refine plan_take _ (.pointer (some ⟨r, 26, none⟩)) rfl (.inl ⟨by rfl, fun W hS => by clear hS; go_simp; try with_reducible rfl⟩) ?_
                    try simp only [Act.put, List.setIfInBounds_toArray, List.set_cons_zero, List.set_cons_succ]
                    iterate 1
                      first
                        | (refine plan_pass _ rfl (by rfl) ?_)
                        | (refine plan_take _ _ rfl (.inl ⟨by rfl, fun W hS => by have z := rp_hasD (hS.get 0 rfl); go_simp; try with_reducible rfl⟩) ?_)
                      try simp only [Act.put, List.setIfInBounds_toArray, List.set_cons_zero, List.set_cons_succ]
                    refine plan_take _ (.bool false) rfl (.inl ⟨by rfl, fun W hS => by clear hS; go_simp; try simp⟩) ?_
                    try simp only [Act.put, List.setIfInBounds_toArray, List.set_cons_zero, List.set_cons_succ]
                    refine plan_take _ (.bool false) rfl (yields_pickF (by rfl) _ _ _ rfl false rfl _ rfl) ?_
                    try simp only [Act.put, List.setIfInBounds_toArray, List.set_cons_zero, List.set_cons_succ]
                    refine plan_take _ (.bool false) rfl (yields_mv _ (by rfl) _ rfl rfl) ?_
                    try simp only [Act.put, List.setIfInBounds_toArray, List.set_cons_zero, List.set_cons_succ]
                    refine plan_take _ (.bool u.hasD) rfl (yields_mv _ (by rfl) _ rfl rfl) ?_
                    try simp only [Act.put, List.setIfInBounds_toArray, List.set_cons_zero, List.set_cons_succ]
                    refine plan_take _ (.bool u.hasD) rfl (yields_mv _ (by rfl) _ rfl rfl) ?_
                    try simp only [Act.put, List.setIfInBounds_toArray, List.set_cons_zero, List.set_cons_succ]
                    cases hD : u.hasD with
                    | false =>
                      clear hy2
                      refine plan_pass _ rfl (by rfl) ?_
                      try simp only [Act.put, List.setIfInBounds_toArray, List.set_cons_zero, List.set_cons_succ]
                      refine plan_pass _ rfl (by rfl) ?_
                      try simp only [Act.put, List.setIfInBounds_toArray, List.set_cons_zero, List.set_cons_succ]
                      refine plan_pass _ rfl (by rfl) ?_
                      try simp only [Act.put, List.setIfInBounds_toArray, List.set_cons_zero, List.set_cons_succ]
                      refine plan_pass _ rfl (by rfl) ?_
                      try simp only [Act.put, List.setIfInBounds_toArray, List.set_cons_zero, List.set_cons_succ]
                      refine plan_pass _ rfl (by rfl) ?_
                      try simp only [Act.put, List.setIfInBounds_toArray, List.set_cons_zero, List.set_cons_succ]
                      refine plan_pass _ rfl (by rfl) ?_
                      try simp only [Act.put, List.setIfInBounds_toArray, List.set_cons_zero, List.set_cons_succ]
                      refine plan_take _ (.bool false) rfl (yields_pickF (by rfl) _ _ _ rfl false rfl _ rfl) ?_
                      try simp only [Act.put, List.setIfInBounds_toArray, List.set_cons_zero, List.set_cons_succ]
                      refine plan_take _ (.bool false) rfl (yields_pickF (by rfl) _ _ _ rfl false rfl _ rfl) ?_
                      try simp only [Act.put, List.setIfInBounds_toArray, List.set_cons_zero, List.set_cons_succ]
                      refine plan_done ?_
                      go_wp2
                      go_roundw
                      case rel => exact ⟨n + 1, u, by omega, by go_num, hP, hE.get 0 rfl, hE.below⟩
                      case measure => simp [intOf]; omega
                    | true =>
                      obtain rfl : u.dec = y2 := (hy2 hD).symm
                      clear hy2
                      refine plan_take _ _ rfl (yields_inc u.dec (by rfl) _ rfl g2 rfl (fun _ h => h.get 2 rfl)) ?_
                      try simp only [Act.put, List.setIfInBounds_toArray, List.set_cons_zero, List.set_cons_succ]
                      refine plan_take _ (.pointer (some ⟨r, 0, none⟩)) rfl (yields_mv _ (by rfl) _ rfl rfl) ?_
                      try simp only [Act.put, List.setIfInBounds_toArray, List.set_cons_zero, List.set_cons_succ]
                      refine plan_take _ _ rfl (yields_nilc (by rfl) _ rfl _ rfl) ?_
                      try simp only [Act.put, List.setIfInBounds_toArray, List.set_cons_zero, List.set_cons_succ]
                      refine plan_take _ (.pointer (some ⟨r, 23, none⟩)) rfl (.inl ⟨by rfl, fun W hS => by clear hS; go_simp; try with_reducible rfl⟩) ?_
                      try simp only [Act.put, List.setIfInBounds_toArray, List.set_cons_zero, List.set_cons_succ]
                      refine plan_take _ _ rfl (yields_inc_mid u.dec (by rfl) _ rfl r 23 rfl (fun _ h => rp_dec (h.get 0 rfl))) ?_
                      try simp only [Act.put, List.setIfInBounds_toArray, List.set_cons_zero, List.set_cons_succ]
                      refine plan_take _ _ rfl (yields_inc_neT u.dec hud (by rfl) _ _ _ rfl rfl rfl) ?_
                      try simp only [Act.put, List.setIfInBounds_toArray, List.set_cons_zero, List.set_cons_succ]
                      refine plan_take _ (.bool false) rfl (yields_pickF (by rfl) _ _ _ rfl true rfl _ rfl) ?_
                      try simp only [Act.put, List.setIfInBounds_toArray, List.set_cons_zero, List.set_cons_succ]
                      refine plan_take _ (.bool false) rfl (yields_pickF (by rfl) _ _ _ rfl false rfl _ rfl) ?_
                      try simp only [Act.put, List.setIfInBounds_toArray, List.set_cons_zero, List.set_cons_succ]
                      refine plan_done ?_
                      go_wp2
                      go_roundw
                      case rel => exact ⟨n + 1, u, by omega, by go_num, hP, hE.get 0 rfl, hE.below⟩
                      case measure => simp [intOf]; omega
                · have hw2I : (2 : Int) < s.what := by omega
                  go_wp2_with ((with_reducible refine at_g0 ?_); first
                    | ((with_reducible refine at_all ?_); first
                      | (refine wpList_alloc_has (by rfl) 36 rfl _ pst_zero ?_; (try simp only [Act.put, List.setIfInBounds_toArray, List.set_cons_zero, List.set_cons_succ]))
                      | (refine alloc_bal (by rfl) rfl ?_; (try simp only [Act.put, List.setIfInBounds_toArray, List.set_cons_zero, List.set_cons_succ])))
                    | ((with_reducible refine at_sto ?_); first
                      | (refine wpList_store_has (by rfl) 36 _ _ rfl wr.heap.size rfl (pstL s).toArray rfl 36 (pstL pst0).toArray (pst_size _) rfl (pst_one _) ?hg ?_; (case hg => exact Has.new _ _ _); rw [hw4]; (try simp only [Act.put, List.setIfInBounds_toArray, List.set_cons_zero, List.set_cons_succ]))
                      | (refine store_bal b bal0 (by rfl) _ _ rfl w4.heap.size rfl rfl ?hg ?_; (case hg => exact Has.new _ _ _); rw [hw5]; (try simp only [Act.put, List.setIfInBounds_toArray, List.set_cons_zero, List.set_cons_succ])))
                    | ((with_reducible refine at_loa ?_); first
                      | (refine wpList_load_any (by rfl) 36 _ rfl _ rfl (pstL s) _ ?hg Try.underlying36 rfl (pst_size s) ?_; (case hg => exact hst); (try simp only [Act.put, List.setIfInBounds_toArray, List.set_cons_zero, List.set_cons_succ]))
                      | (refine wpList_load_mid' (by rfl) 31 _ rfl wr.heap.size 3 rfl (balC b).toList _ ?hg Try.underlying31 rfl (bal_size _) ?_; (case hg => exact rB); (try simp only [Act.put, List.setIfInBounds_toArray, List.set_cons_zero, List.set_cons_succ]))))
                  clear hst rB zo zw hw4 hw5 hB5 hS4 hltp hltr hlt4 hlp4 hlr4
                  generalize wr.heap.size = gs at *
                  generalize w4.heap.size = gb at *
                  have hwS : w5 = w5 := rfl
                  clear hwS
                  generalize w5 = wS at *
                  have hvo := hP.ok
                  obtain ⟨u, res, hu⟩ : ∃ u res, accdM v s.from' b = (u, res) := ⟨_, _, rfl⟩
                  refine wp_region_plan (fun W => Env w W _) (Plan.of [(0, true), (1, true), (2, true), (3, true), (5, true), (6, true), (7, true), (8, true), (4, false), (9, false), (10, true)] .done) (by kernel_rfl) (by kernel_rfl) (by kernel_rfl) (by kernel_rfl) hE.drew ?_
                  replace hE := hE.drew
                  replace hP := hP.drew
                  replace hR := hR.drew
                  generalize wS.drew = wT at *
                  iterate 2
                    first
                      | (refine plan_pass _ rfl (by rfl) ?_)
                      | (refine plan_take _ _ rfl (.inl ⟨by rfl, fun W hS => by clear hS; go_simp; try with_reducible rfl⟩) ?_)
                    try simp only [Act.put, List.setIfInBounds_toArray, List.set_cons_zero, List.set_cons_succ]
                  iterate 1
                    first
                      | (refine plan_pass _ rfl (by rfl) ?_)
                      | (refine plan_take _ _ rfl (.inl ⟨by rfl, fun W hS => by have z := pst_from (hS.get 0 rfl); go_simp; try with_reducible rfl⟩) ?_)
                    try simp only [Act.put, List.setIfInBounds_toArray, List.set_cons_zero, List.set_cons_succ]
                  refine plan_take _ _ rfl (yields_bal b (by rfl) _ rfl gb rfl (fun _ h => h.get 1 rfl)) ?_
                  try simp only [Act.put, List.setIfInBounds_toArray, List.set_cons_zero, List.set_cons_succ]
                  iterate 2
                    first
                      | (refine plan_pass _ rfl (by rfl) ?_)
                      | (refine plan_take _ _ rfl (.inl ⟨by rfl, fun W hS => by clear hS; go_simp; try with_reducible rfl⟩) ?_)
                    try simp only [Act.put, List.setIfInBounds_toArray, List.set_cons_zero, List.set_cons_succ]
                  iterate 1
                    first
                      | (refine plan_pass _ rfl (by rfl) ?_)
                      | (refine plan_take _ _ rfl (.inl ⟨by rfl, fun W hS => by have z := pst_from (hS.get 0 rfl); go_simp; try with_reducible rfl⟩) ?_)
                    try simp only [Act.put, List.setIfInBounds_toArray, List.set_cons_zero, List.set_cons_succ]
                  refine plan_take _ _ rfl (yields_bal b (by rfl) _ rfl gb rfl (fun _ h => h.get 1 rfl)) ?_
                  try simp only [Act.put, List.setIfInBounds_toArray, List.set_cons_zero, List.set_cons_succ]
                  have hk1 := paccepted_is p v s.from' b wT hu hP hs.from' hbo
                  have hk2 := fun W h => raccepted_any r v s.from' b W h hvo hs.from' hbo
                  simp only [hu] at hk2
                  refine plan_run _ rfl (fun K hK => ?_)
                  go_simp
                  refine (hk1).mono ?_
                  rintro e w7 ⟨rfl, hP7, hq⟩
                  replace hR := hq.has hR (Ne.symm hpr)
                  replace hE := hE.but hq hp hAp
                  refine hK.out _ _ hE ?_
                  clear hK K hq hP
                  refine plan_run _ rfl (fun K hK => ?_)
                  go_simp
                  refine (hk2 _ hR).mono ?_
                  rintro e w8 ⟨rfl, hR8, hq⟩
                  replace hP7 := hP7.but hq hpr
                  replace hE := hE.but hq hr hAr
                  refine hK.out _ _ hE ?_
                  clear hK K hq hR
                  refine plan_take _ (.bool false) rfl (.inl ⟨by rfl, fun W hS => by clear hS; go_simp; try simp⟩) ?_
                  try simp only [Act.put, List.setIfInBounds_toArray, List.set_cons_zero, List.set_cons_succ]
                  refine plan_done ?_
                  clear hk1 hk2 hu hvo
                  replace hb := hE.below
                  clear hE hAp hAr
                  have hP := hP7
                  have hR := hR8
                  clear hP7 hR8
                  have hub := hP.ok.b
                  have huv := hP.ok.value
                  have hud := hP.ok.dec
                  go_wp2_with fail
                  refine (pvalue_any p u _ hP).mono ?_
                  rintro e w10 ⟨y1, rfl, _, hy1, hq⟩
                  replace hP := hP.later hq
                  have hE := (Env.start (hb.trans (hq.mono hb.size))).add (hR.later hq)
                  clear hq hR hb
                  obtain ⟨w11, hw11, hY, hq⟩ := new_var w10 23 (incC inc0) (incC y1)
                  replace hP := hP.later hq
                  replace hE := (hE.later hq).add hY
                  clear hq hY
                  go_wp2_with (first
                    | ((with_reducible refine at_all ?_); (refine alloc_inc0 (by rfl) rfl ?_; (try simp only [Act.put, List.setIfInBounds_toArray, List.set_cons_zero, List.set_cons_succ])))
                    | ((with_reducible refine at_sto ?_); (refine store_inc y1 inc0 (by rfl) _ _ rfl w10.heap.size rfl rfl ?hg ?_; (case hg => exact Has.new _ _ _); rw [hw11]; (try simp only [Act.put, List.setIfInBounds_toArray, List.set_cons_zero, List.set_cons_succ]))))
                  clear hw11
                  generalize w10.heap.size = g1 at *
                  refine (pdecided_any p u _ hP).mono ?_
                  rintro e w13 ⟨y2, rfl, _, hy2, hq⟩
                  replace hP := hP.later hq
                  replace hE := hE.later hq
                  clear hq
                  obtain ⟨w14, hw14, hY, hq⟩ := new_var w13 23 (incC inc0) (incC y2)
                  replace hP := hP.later hq
                  replace hE := (hE.later hq).add hY
                  clear hq hY
                  go_wp2_with (first
                    | ((with_reducible refine at_all ?_); (refine alloc_inc0 (by rfl) rfl ?_; (try simp only [Act.put, List.setIfInBounds_toArray, List.set_cons_zero, List.set_cons_succ])))
                    | ((with_reducible refine at_sto ?_); (refine store_inc y2 inc0 (by rfl) _ _ rfl w13.heap.size rfl rfl ?hg ?_; (case hg => exact Has.new _ _ _); rw [hw14]; (try simp only [Act.put, List.setIfInBounds_toArray, List.set_cons_zero, List.set_cons_succ]))))
                  clear hw14
                  generalize w13.heap.size = g2 at *
                  refine wp_region_plan (fun W => Env w W _) (Plan.of [(0, true), (2, true), (3, true), (4, true), (5, true), (1, false), (6, true), (7, true), (8, true), (9, true), (10, true), (11, true), (12, true), (13, true), (14, true), (15, true), (16, true), (17, true), (18, true), (19, true), (20, true), (21, true), (22, true), (23, true), (24, true), (25, true), (26, true), (27, true), (28, true), (29, true), (30, true), (31, true), (32, true), (33, true), (34, true), (35, true), (36, true), (37, true), (38, true), (39, true), (40, true), (41, true), (42, true), (43, true), (44, true)] .done) (by kernel_rfl) (by kernel_rfl) (by kernel_rfl) (by kernel_rfl) hE.drew ?_
                  replace hE := hE.drew
                  replace hP := hP.drew
                  generalize w14.drew = w15 at *
                  refine plan_take _ (.pointer (some ⟨p, 0, none⟩)) rfl (yields_mv _ (by rfl) _ rfl rfl) ?_
                  try simp only [Act.put, List.setIfInBounds_toArray, List.set_cons_zero, List.set_cons_succ]
                  refine plan_take _ (.pointer (some ⟨r, 0, none⟩)) rfl (yields_mv _ (by rfl) _ rfl rfl) ?_
                  try simp only [Act.put, List.setIfInBounds_toArray, List.set_cons_zero, List.set_cons_succ]
                  refine plan_take _ _ rfl (yields_nilc (by rfl) _ rfl _ rfl) ?_
                  try simp only [Act.put, List.setIfInBounds_toArray, List.set_cons_zero, List.set_cons_succ]
                  refine plan_take _ (.pointer (some ⟨r, 4, none⟩)) rfl (.inl ⟨by rfl, fun W hS => by clear hS; go_simp; try with_reducible rfl⟩) ?_
                  try simp only [Act.put, List.setIfInBounds_toArray, List.set_cons_zero, List.set_cons_succ]
                  refine plan_take _ _ rfl (yields_bal_mid u.b (by rfl) _ rfl r 4 rfl (fun _ h => rp_b (h.get 0 rfl))) ?_
                  try simp only [Act.put, List.setIfInBounds_toArray, List.set_cons_zero, List.set_cons_succ]
                  refine plan_run _ rfl (fun K hK => ?_)
                  go_simp
                  refine (pballot_any p u _ hP).mono ?_
                  rintro e w16 ⟨rfl, hq⟩
                  replace hP := hP.later hq
                  replace hE := hE.later hq
                  refine hK.out _ _ hE ?_
                  clear hK K hq
                  refine plan_take _ _ rfl (yields_bal_neT u.b hub (by rfl) _ _ _ rfl rfl rfl) ?_
                  try simp only [Act.put, List.setIfInBounds_toArray, List.set_cons_zero, List.set_cons_succ]
                  refine plan_take _ (.bool false) rfl (yields_mv _ (by rfl) _ rfl rfl) ?_
                  try simp only [Act.put, List.setIfInBounds_toArray, List.set_cons_zero, List.set_cons_succ]
                  refine plan_take _ (.bool u.hasV) rfl (yields_mv _ (by rfl) _ rfl rfl) ?_
                  try simp only [Act.put, List.setIfInBounds_toArray, List.set_cons_zero, List.set_cons_succ]
                  refine plan_take _ (.pointer (some ⟨r, 0, none⟩)) rfl (yields_mv _ (by rfl) _ rfl rfl) ?_
                  try simp only [Act.put, List.setIfInBounds_toArray, List.set_cons_zero, List.set_cons_succ]
                  refine plan_take _ _ rfl (yields_nilc (by rfl) _ rfl _ rfl) ?_
                  try simp only [Act.put, List.setIfInBounds_toArray, List.set_cons_zero, List.set_cons_succ]
                  refine plan_take _ (.pointer (some ⟨r, 18, none⟩)) rfl (.inl ⟨by rfl, fun W hS => by clear hS; go_simp; try with_reducible rfl⟩) ?_
                  try simp only [Act.put, List.setIfInBounds_toArray, List.set_cons_zero, List.set_cons_succ]
                  iterate 1
                    first
                      | (refine plan_pass _ rfl (by rfl) ?_)
                      | (refine plan_take _ _ rfl (.inl ⟨by rfl, fun W hS => by have z := rp_hasV (hS.get 0 rfl); go_simp; try with_reducible rfl⟩) ?_)
                    try simp only [Act.put, List.setIfInBounds_toArray, List.set_cons_zero, List.set_cons_succ]
                  refine plan_take _ (.bool false) rfl (.inl ⟨by rfl, fun W hS => by clear hS; go_simp; try simp⟩) ?_
                  try simp only [Act.put, List.setIfInBounds_toArray, List.set_cons_zero, List.set_cons_succ]
                  refine plan_take _ (.bool false) rfl (yields_pickF (by rfl) _ _ _ rfl false rfl _ rfl) ?_
                  try simp only [Act.put, List.setIfInBounds_toArray, List.set_cons_zero, List.set_cons_succ]
                  refine plan_take _ (.bool false) rfl (yields_mv _ (by rfl) _ rfl rfl) ?_
                  try simp only [Act.put, List.setIfInBounds_toArray, List.set_cons_zero, List.set_cons_succ]
                  refine plan_take _ (.bool u.hasV) rfl (yields_mv _ (by rfl) _ rfl rfl) ?_
                  try simp only [Act.put, List.setIfInBounds_toArray, List.set_cons_zero, List.set_cons_succ]
                  refine plan_take _ (.bool u.hasV) rfl (yields_mv _ (by rfl) _ rfl rfl) ?_
                  try simp only [Act.put, List.setIfInBounds_toArray, List.set_cons_zero, List.set_cons_succ]
                  cases hV : u.hasV with
                  | false =>
                    clear hy1
                    refine plan_pass _ rfl (by rfl) ?_
                    try simp only [Act.put, List.setIfInBounds_toArray, List.set_cons_zero, List.set_cons_succ]
                    refine plan_pass _ rfl (by rfl) ?_
                    try simp only [Act.put, List.setIfInBounds_toArray, List.set_cons_zero, List.set_cons_succ]
                    refine plan_pass _ rfl (by rfl) ?_
                    try simp only [Act.put, List.setIfInBounds_toArray, List.set_cons_zero, List.set_cons_succ]
                    refine plan_pass _ rfl (by rfl) ?_
                    try simp only [Act.put, List.setIfInBounds_toArray, List.set_cons_zero, List.set_cons_succ]
                    refine plan_pass _ rfl (by rfl) ?_
                    try simp only [Act.put, List.setIfInBounds_toArray, List.set_cons_zero, List.set_cons_succ]
                    refine plan_pass _ rfl (by rfl) ?_
                    try simp only [Act.put, List.setIfInBounds_toArray, List.set_cons_zero, List.set_cons_succ]
                    refine plan_take _ (.bool false) rfl (yields_pickF (by rfl) _ _ _ rfl false rfl _ rfl) ?_
                    try simp only [Act.put, List.setIfInBounds_toArray, List.set_cons_zero, List.set_cons_succ]
                    refine plan_take _ (.bool false) rfl (yields_pickF (by rfl) _ _ _ rfl false rfl _ rfl) ?_
                    try simp only [Act.put, List.setIfInBounds_toArray, List.set_cons_zero, List.set_cons_succ]
                    refine plan_take _ (.bool false) rfl (yields_mv _ (by rfl) _ rfl rfl) ?_
                    try simp only [Act.put, List.setIfInBounds_toArray, List.set_cons_zero, List.set_cons_succ]
                    refine plan_take _ (.bool u.hasD) rfl (yields_mv _ (by rfl) _ rfl rfl) ?_
                    try simp only [Act.put, List.setIfInBounds_toArray, List.set_cons_zero, List.set_cons_succ]
                    refine plan_take _ (.pointer (some ⟨r, 0, none⟩)) rfl (yields_mv _ (by rfl) _ rfl rfl) ?_
                    try simp only [Act.put, List.setIfInBounds_toArray, List.set_cons_zero, List.set_cons_succ]
                    refine plan_take _ _ rfl (yields_nilc (by rfl) _ rfl _ rfl) ?_
                    try simp only [Act.put, List.setIfInBounds_toArray, List.set_cons_zero, List.set_cons_succ]
                    refine plan_take _ (.pointer (some ⟨r, 26, none⟩)) rfl (.inl ⟨by rfl, fun W hS => by clear hS; go_simp; try with_reducible rfl⟩) ?_
                    try simp only [Act.put, List.setIfInBounds_toArray, List.set_cons_zero, List.set_cons_succ]
                    iterate 1
                      first
                        | (refine plan_pass _ rfl (by rfl) ?_)
                        | (refine plan_take _ _ rfl (.inl ⟨by rfl, fun W hS => by have z := rp_hasD (hS.get 0 rfl); go_simp; try with_reducible rfl⟩) ?_)
                      try simp only [Act.put, List.setIfInBounds_toArray, List.set_cons_zero, List.set_cons_succ]
                    refine plan_take _ (.bool false) rfl (.inl ⟨by rfl, fun W hS => by clear hS; go_simp; try simp⟩) ?_
                    try simp only [Act.put, List.setIfInBounds_toArray, List.set_cons_zero, List.set_cons_succ]
                    refine plan_take _ (.bool false) rfl (yields_pickF (by rfl) _ _ _ rfl false rfl _ rfl) ?_
                    try simp only [Act.put, List.setIfInBounds_toArray, List.set_cons_zero, List.set_cons_succ]
                    refine plan_take _ (.bool false) rfl (yields_mv _ (by rfl) _ rfl rfl) ?_
                    try simp only [Act.put, List.setIfInBounds_toArray, List.set_cons_zero, List.set_cons_succ]
                    refine plan_take _ (.bool u.hasD) rfl (yields_mv _ (by rfl) _ rfl rfl) ?_
                    try simp only [Act.put, List.setIfInBounds_toArray, List.set_cons_zero, List.set_cons_succ]
                    refine plan_take _ (.bool u.hasD) rfl (yields_mv _ (by rfl) _ rfl rfl) ?_
                    try simp only [Act.put, List.setIfInBounds_toArray, List.set_cons_zero, List.set_cons_succ]
                    cases hD : u.hasD with
                    | false =>
                      clear hy2
                      refine plan_pass _ rfl (by rfl) ?_
                      try simp only [Act.put, List.setIfInBounds_toArray, List.set_cons_zero, List.set_cons_succ]
                      refine plan_pass _ rfl (by rfl) ?_
                      try simp only [Act.put, List.setIfInBounds_toArray, List.set_cons_zero, List.set_cons_succ]
                      refine plan_pass _ rfl (by rfl) ?_
                      try simp only [Act.put, List.setIfInBounds_toArray, List.set_cons_zero, List.set_cons_succ]
                      refine plan_pass _ rfl (by rfl) ?_
                      try simp only [Act.put, List.setIfInBounds_toArray, List.set_cons_zero, List.set_cons_succ]
                      refine plan_pass _ rfl (by rfl) ?_
                      try simp only [Act.put, List.setIfInBounds_toArray, List.set_cons_zero, List.set_cons_succ]
                      refine plan_pass _ rfl (by rfl) ?_
                      try simp only [Act.put, List.setIfInBounds_toArray, List.set_cons_zero, List.set_cons_succ]
                      refine plan_take _ (.bool false) rfl (yields_pickF (by rfl) _ _ _ rfl false rfl _ rfl) ?_
                      try simp only [Act.put, List.setIfInBounds_toArray, List.set_cons_zero, List.set_cons_succ]
                      refine plan_take _ (.bool false) rfl (yields_pickF (by rfl) _ _ _ rfl false rfl _ rfl) ?_
                      try simp only [Act.put, List.setIfInBounds_toArray, List.set_cons_zero, List.set_cons_succ]
                      refine plan_done ?_
                      go_wp2
                      go_roundw
                      case rel => exact ⟨n + 1, u, by omega, by go_num, hP, hE.get 0 rfl, hE.below⟩
                      case measure => simp [intOf]; omega
                    | true =>
                      obtain rfl : u.dec = y2 := (hy2 hD).symm
                      clear hy2
                      refine plan_take _ _ rfl (yields_inc u.dec (by rfl) _ rfl g2 rfl (fun _ h => h.get 2 rfl)) ?_
                      try simp only [Act.put, List.setIfInBounds_toArray, List.set_cons_zero, List.set_cons_succ]
                      refine plan_take _ (.pointer (some ⟨r, 0, none⟩)) rfl (yields_mv _ (by rfl) _ rfl rfl) ?_
                      try simp only [Act.put, List.setIfInBounds_toArray, List.set_cons_zero, List.set_cons_succ]
                      refine plan_take _ _ rfl (yields_nilc (by rfl) _ rfl _ rfl) ?_
                      try simp only [Act.put, List.setIfInBounds_toArray, List.set_cons_zero, List.set_cons_succ]
                      refine plan_take _ (.pointer (some ⟨r, 23, none⟩)) rfl (.inl ⟨by rfl, fun W hS => by clear hS; go_simp; try with_reducible rfl⟩) ?_
                      try simp only [Act.put, List.setIfInBounds_toArray, List.set_cons_zero, List.set_cons_succ]
                      refine plan_take _ _ rfl (yields_inc_mid u.dec (by rfl) _ rfl r 23 rfl (fun _ h => rp_dec (h.get 0 rfl))) ?_
                      try simp only [Act.put, List.setIfInBounds_toArray, List.set_cons_zero, List.set_cons_succ]
                      refine plan_take _ _ rfl (yields_inc_neT u.dec hud (by rfl) _ _ _ rfl rfl rfl) ?_
                      try simp only [Act.put, List.setIfInBounds_toArray, List.set_cons_zero, List.set_cons_succ]
                      refine plan_take _ (.bool false) rfl (yields_pickF (by rfl) _ _ _ rfl true rfl _ rfl) ?_
                      try simp only [Act.put, List.setIfInBounds_toArray, List.set_cons_zero, List.set_cons_succ]
                      refine plan_take _ (.bool false) rfl (yields_pickF (by rfl) _ _ _ rfl false rfl _ rfl) ?_
                      try simp only [Act.put, List.setIfInBounds_toArray, List.set_cons_zero, List.set_cons_succ]
                      refine plan_done ?_
                      go_wp2
                      go_roundw
                      case rel => exact ⟨n + 1, u, by omega, by go_num, hP, hE.get 0 rfl, hE.below⟩
                      case measure => simp [intOf]; omega
                  | true =>
                    obtain rfl : u.value = y1 := (hy1 hV).symm
                    clear hy1
                    refine plan_take _ _ rfl (yields_inc u.value (by rfl) _ rfl g1 rfl (fun _ h => h.get 1 rfl)) ?_
                    try simp only [Act.put, List.setIfInBounds_toArray, List.set_cons_zero, List.set_cons_succ]
                    refine plan_take _ (.pointer (some ⟨r, 0, none⟩)) rfl (yields_mv _ (by rfl) _ rfl rfl) ?_
                    try simp only [Act.put, List.setIfInBounds_toArray, List.set_cons_zero, List.set_cons_succ]
                    refine plan_take _ _ rfl (yields_nilc (by rfl) _ rfl _ rfl) ?_
                    try simp only [Act.put, List.setIfInBounds_toArray, List.set_cons_zero, List.set_cons_succ]
                    refine plan_take _ (.pointer (some ⟨r, 15, none⟩)) rfl (.inl ⟨by rfl, fun W hS => by clear hS; go_simp; try with_reducible rfl⟩) ?_
                    try simp only [Act.put, List.setIfInBounds_toArray, List.set_cons_zero, List.set_cons_succ]
                    refine plan_take _ _ rfl (yields_inc_mid u.value (by rfl) _ rfl r 15 rfl (fun _ h => rp_value (h.get 0 rfl))) ?_
                    try simp only [Act.put, List.setIfInBounds_toArray, List.set_cons_zero, List.set_cons_succ]
                    refine plan_take _ _ rfl (yields_inc_neT u.value huv (by rfl) _ _ _ rfl rfl rfl) ?_
                    try simp only [Act.put, List.setIfInBounds_toArray, List.set_cons_zero, List.set_cons_succ]
                    refine plan_take _ (.bool false) rfl (yields_pickF (by rfl) _ _ _ rfl true rfl _ rfl) ?_
                    try simp only [Act.put, List.setIfInBounds_toArray, List.set_cons_zero, List.set_cons_succ]
                    refine plan_take _ (.bool false) rfl (yields_pickF (by rfl) _ _ _ rfl false rfl _ rfl) ?_
                    try simp only [Act.put, List.setIfInBounds_toArray, List.set_cons_zero, List.set_cons_succ]
                    refine plan_take _ (.bool false) rfl (yields_mv _ (by rfl) _ rfl rfl) ?_
                    try simp only [Act.put, List.setIfInBounds_toArray, List.set_cons_zero, List.set_cons_succ]
                    refine plan_take _ (.bool u.hasD) rfl (yields_mv _ (by rfl) _ rfl rfl) ?_
                    try simp only [Act.put, List.setIfInBounds_toArray, List.set_cons_zero, List.set_cons_succ]
                    refine plan_take _ (.pointer (some ⟨r, 0, none⟩)) rfl (yields_mv _ (by rfl) _ rfl rfl) ?_
                    try simp only [Act.put, List.setIfInBounds_toArray, List.set_cons_zero, List.set_cons_succ]
                    refine plan_take _ _ rfl (yields_nilc (by rfl) _ rfl _ rfl) ?_
                    try simp only [Act.put, List.setIfInBounds_toArray, List.set_cons_zero, List.set_cons_succ]
                    refine plan_take _ (.pointer (some ⟨r, 26, none⟩)) rfl (.inl ⟨by rfl, fun W hS => by clear hS; go_simp; try with_reducible rfl⟩) ?_
                    try simp only [Act.put, List.setIfInBounds_toArray, List.set_cons_zero, List.set_cons_succ]
                    iterate 1
                      first
                        | (refine plan_pass _ rfl (by rfl) ?_)
                        | (refine plan_take _ _ rfl (.inl ⟨by rfl, fun W hS => by have z := rp_hasD (hS.get 0 rfl); go_simp; try with_reducible rfl⟩) ?_)
                      try simp only [Act.put, List.setIfInBounds_toArray, List.set_cons_zero, List.set_cons_succ]
                    refine plan_take _ (.bool false) rfl (.inl ⟨by rfl, fun W hS => by clear hS; go_simp; try simp⟩) ?_
                    try simp only [Act.put, List.setIfInBounds_toArray, List.set_cons_zero, List.set_cons_succ]
                    refine plan_take _ (.bool false) rfl (yields_pickF (by rfl) _ _ _ rfl false rfl _ rfl) ?_
                    try simp only [Act.put, List.setIfInBounds_toArray, List.set_cons_zero, List.set_cons_succ]
                    refine plan_take _ (.bool false) rfl (yields_mv _ (by rfl) _ rfl rfl) ?_
                    try simp only [Act.put, List.setIfInBounds_toArray, List.set_cons_zero, List.set_cons_succ]
                    refine plan_take _ (.bool u.hasD) rfl (yields_mv _ (by rfl) _ rfl rfl) ?_
                    try simp only [Act.put, List.setIfInBounds_toArray, List.set_cons_zero, List.set_cons_succ]
                    refine plan_take _ (.bool u.hasD) rfl (yields_mv _ (by rfl) _ rfl rfl) ?_
                    try simp only [Act.put, List.setIfInBounds_toArray, List.set_cons_zero, List.set_cons_succ]
                    cases hD : u.hasD with
                    | false =>
                      clear hy2
                      refine plan_pass _ rfl (by rfl) ?_
                      try simp only [Act.put, List.setIfInBounds_toArray, List.set_cons_zero, List.set_cons_succ]
                      refine plan_pass _ rfl (by rfl) ?_
                      try simp only [Act.put, List.setIfInBounds_toArray, List.set_cons_zero, List.set_cons_succ]
                      refine plan_pass _ rfl (by rfl) ?_
                      try simp only [Act.put, List.setIfInBounds_toArray, List.set_cons_zero, List.set_cons_succ]
                      refine plan_pass _ rfl (by rfl) ?_
                      try simp only [Act.put, List.setIfInBounds_toArray, List.set_cons_zero, List.set_cons_succ]
                      refine plan_pass _ rfl (by rfl) ?_
                      try simp only [Act.put, List.setIfInBounds_toArray, List.set_cons_zero, List.set_cons_succ]
                      refine plan_pass _ rfl (by rfl) ?_
                      try simp only [Act.put, List.setIfInBounds_toArray, List.set_cons_zero, List.set_cons_succ]
                      refine plan_take _ (.bool false) rfl (yields_pickF (by rfl) _ _ _ rfl false rfl _ rfl) ?_
                      try simp only [Act.put, List.setIfInBounds_toArray, List.set_cons_zero, List.set_cons_succ]
                      refine plan_take _ (.bool false) rfl (yields_pickF (by rfl) _ _ _ rfl false rfl _ rfl) ?_
                      try simp only [Act.put, List.setIfInBounds_toArray, List.set_cons_zero, List.set_cons_succ]
                      refine plan_done ?_
                      go_wp2
                      go_roundw
                      case rel => exact ⟨n + 1, u, by omega, by go_num, hP, hE.get 0 rfl, hE.below⟩
                      case measure => simp [intOf]; omega
                    | true =>
                      obtain rfl : u.dec = y2 := (hy2 hD).symm
                      clear hy2
                      refine plan_take _ _ rfl (yields_inc u.dec (by rfl) _ rfl g2 rfl (fun _ h => h.get 2 rfl)) ?_
                      try simp only [Act.put, List.setIfInBounds_toArray, List.set_cons_zero, List.set_cons_succ]
                      refine plan_take _ (.pointer (some ⟨r, 0, none⟩)) rfl (yields_mv _ (by rfl) _ rfl rfl) ?_
                      try simp only [Act.put, List.setIfInBounds_toArray, List.set_cons_zero, List.set_cons_succ]
                      refine plan_take _ _ rfl (yields_nilc (by rfl) _ rfl _ rfl) ?_
                      try simp only [Act.put, List.setIfInBounds_toArray, List.set_cons_zero, List.set_cons_succ]
                      refine plan_take _ (.pointer (some ⟨r, 23, none⟩)) rfl (.inl ⟨by rfl, fun W hS => by clear hS; go_simp; try with_reducible rfl⟩) ?_
                      try simp only [Act.put, List.setIfInBounds_toArray, List.set_cons_zero, List.set_cons_succ]
                      refine plan_take _ _ rfl (yields_inc_mid u.dec (by rfl) _ rfl r 23 rfl (fun _ h => rp_dec (h.get 0 rfl))) ?_
                      try simp only [Act.put, List.setIfInBounds_toArray, List.set_cons_zero, List.set_cons_succ]
                      refine plan_take _ _ rfl (yields_inc_neT u.dec hud (by rfl) _ _ _ rfl rfl rfl) ?_
                      try simp only [Act.put, List.setIfInBounds_toArray, List.set_cons_zero, List.set_cons_succ]
                      refine plan_take _ (.bool false) rfl (yields_pickF (by rfl) _ _ _ rfl true rfl _ rfl) ?_
                      try simp only [Act.put, List.setIfInBounds_toArray, List.set_cons_zero, List.set_cons_succ]
                      refine plan_take _ (.bool false) rfl (yields_pickF (by rfl) _ _ _ rfl false rfl _ rfl) ?_
                      try simp only [Act.put, List.setIfInBounds_toArray, List.set_cons_zero, List.set_cons_succ]
                      refine plan_done ?_
                      go_wp2
                      go_roundw
                      case rel => exact ⟨n + 1, u, by omega, by go_num, hP, hE.get 0 rfl, hE.below⟩
                      case measure => simp [intOf]; omega
            | true =>
              replace zo := zo.trans (show _ = some (Value.bool true) by rw [← hown])
              obtain ⟨b, hbe⟩ : ∃ b, v.b = b := ⟨_, rfl⟩
              have hbo : BalOk b := hbe ▸ hP.ok.b
              obtain ⟨c0, hc0⟩ : ∃ b, s.b = b := ⟨_, rfl⟩
              rw [hc0] at hw5 hB5 rB
              have rR := rp_b hR
              rw [hbe] at rR
              obtain ⟨wS, hw6⟩ : ∃ W, w5.setRow w4.heap.size (balC b) = W := ⟨_, rfl⟩
              have hB6 : Has wS w4.heap.size 31 (balC b) := hw6 ▸ hB5.row (balC b)
              replace hP : Pro wS p v := hw6 ▸ hP.row_other (show p ≠ w4.heap.size by omega) (balC b)
              replace hR : Has wS r 34 (refpC v) := hw6 ▸ hR.row_other (show r ≠ w4.heap.size by omega) (balC b)
              have hE6 := hE.row_other w4.heap.size (show w.heap.size ≤ w4.heap.size by omega) (fun e he => by rw [List.mem_singleton.1 he]; show wr.heap.size ≠ w4.heap.size; omega) (balC b)
              rw [hw6] at hE6
              replace zw := pst_what (hE6.get 0 rfl)
              replace hE := hE6.add hB6
              replace hAp := hAp.add (show w4.heap.size ≠ p by omega) 31 (balC b)
              replace hAr := hAr.add (show w4.heap.size ≠ r by omega) 31 (balC b)
              clear hbe hown hc0 hq hE6 hB6
              by_cases hw0 : s.what ≤ 0
              · go_wp2_with ((with_reducible refine at_g0 ?_); first
                  | ((with_reducible refine at_all ?_); first
                    | (refine wpList_alloc_has (by rfl) 36 rfl _ pst_zero ?_; (try simp only [Act.put, List.setIfInBounds_toArray, List.set_cons_zero, List.set_cons_succ]))
                    | (refine alloc_bal (by rfl) rfl ?_; (try simp only [Act.put, List.setIfInBounds_toArray, List.set_cons_zero, List.set_cons_succ])))
                  | ((with_reducible refine at_sto ?_); first
                    | (refine wpList_store_has (by rfl) 36 _ _ rfl wr.heap.size rfl (pstL s).toArray rfl 36 (pstL pst0).toArray (pst_size _) rfl (pst_one _) ?hg ?_; (case hg => exact Has.new _ _ _); rw [hw4]; (try simp only [Act.put, List.setIfInBounds_toArray, List.set_cons_zero, List.set_cons_succ]))
                    | (refine store_bal c0 bal0 (by rfl) _ _ rfl w4.heap.size rfl rfl ?hg ?_; (case hg => exact Has.new _ _ _); rw [hw5]; (try simp only [Act.put, List.setIfInBounds_toArray, List.set_cons_zero, List.set_cons_succ]))
                    | (refine store_bal b c0 (by rfl) _ _ rfl w4.heap.size rfl rfl ?hg ?_; (case hg => exact hB5); rw [hw6]; (try simp only [Act.put, List.setIfInBounds_toArray, List.set_cons_zero, List.set_cons_succ])))
                  | ((with_reducible refine at_loa ?_); first
                    | (refine wpList_load_any (by rfl) 36 _ rfl _ rfl (pstL s) _ ?hg Try.underlying36 rfl (pst_size s) ?_; (case hg => exact hst); (try simp only [Act.put, List.setIfInBounds_toArray, List.set_cons_zero, List.set_cons_succ]))
                    | (refine wpList_load_mid' (by rfl) 31 _ rfl wr.heap.size 3 rfl (balC c0).toList _ ?hg Try.underlying31 rfl (bal_size _) ?_; (case hg => exact rB); (try simp only [Act.put, List.setIfInBounds_toArray, List.set_cons_zero, List.set_cons_succ]))
                    | (refine wpList_load_mid' (by rfl) 31 _ rfl r 4 rfl (balC b).toList _ ?hg Try.underlying31 rfl (bal_size _) ?_; (case hg => exact rR); (try simp only [Act.put, List.setIfInBounds_toArray, List.set_cons_zero, List.set_cons_succ]))))
                clear hst rB zo zw hw4 hw5 hB5 rR hw6 hS4 hltp hltr hlt4 hlp4 hlr4
                generalize wr.heap.size = gs at *
                generalize w4.heap.size = gb at *
                have hvo := hP.ok
                obtain ⟨u, hu⟩ : ∃ u, startM v b = u := ⟨_, rfl⟩
                refine wp_region_plan (fun W => Env w W _) (Plan.of [(0, true), (1, true), (3, true), (4, true), (2, false), (5, false), (6, true)] .done) (by kernel_rfl) (by kernel_rfl) (by kernel_rfl) (by kernel_rfl) hE.drew ?_
                replace hE := hE.drew
                replace hP := hP.drew
                replace hR := hR.drew
                generalize wS.drew = wT at *
                iterate 1
                  first
                    | (refine plan_pass _ rfl (by rfl) ?_)
                    | (refine plan_take _ _ rfl (.inl ⟨by rfl, fun W hS => by clear hS; go_simp; try with_reducible rfl⟩) ?_)
                  try simp only [Act.put, List.setIfInBounds_toArray, List.set_cons_zero, List.set_cons_succ]
                refine plan_take _ _ rfl (yields_bal b (by rfl) _ rfl gb rfl (fun _ h => h.get 1 rfl)) ?_
                try simp only [Act.put, List.setIfInBounds_toArray, List.set_cons_zero, List.set_cons_succ]
                iterate 1
                  first
                    | (refine plan_pass _ rfl (by rfl) ?_)
                    | (refine plan_take _ _ rfl (.inl ⟨by rfl, fun W hS => by clear hS; go_simp; try with_reducible rfl⟩) ?_)
                  try simp only [Act.put, List.setIfInBounds_toArray, List.set_cons_zero, List.set_cons_succ]
                refine plan_take _ _ rfl (yields_bal b (by rfl) _ rfl gb rfl (fun _ h => h.get 1 rfl)) ?_
                try simp only [Act.put, List.setIfInBounds_toArray, List.set_cons_zero, List.set_cons_succ]
                have hk1 := pstart_any p v b wT hP hbo
                rw [hu] at hk1
                have hk2 := fun W h => rstart_any r v b W h hvo hbo
                simp only [hu] at hk2
                refine plan_run _ rfl (fun K hK => ?_)
                go_simp
                refine (hk1).mono ?_
                rintro e w7 ⟨rfl, hP7, hq⟩
                replace hR := hq.has hR (Ne.symm hpr)
                replace hE := hE.but hq hp hAp
                refine hK.out _ _ hE ?_
                clear hK K hq hP
                refine plan_run _ rfl (fun K hK => ?_)
                go_simp
                refine (hk2 _ hR).mono ?_
                rintro e w8 ⟨rfl, hR8, hq⟩
                replace hP7 := hP7.but hq hpr
                replace hE := hE.but hq hr hAr
                refine hK.out _ _ hE ?_
                clear hK K hq hR
                have huo := hP7.ok.b
                refine plan_take _ _ rfl (yields_bal_neT u.b huo (by rfl) _ _ _ rfl rfl rfl) ?_
                try simp only [Act.put, List.setIfInBounds_toArray, List.set_cons_zero, List.set_cons_succ]
                refine plan_done ?_
                clear hk1 hk2 hu huo hvo
                replace hb := hE.below
                clear hE hAp hAr
                have hP := hP7
                have hR := hR8
                clear hP7 hR8
                have hub := hP.ok.b
                have huv := hP.ok.value
                have hud := hP.ok.dec
                go_wp2_with fail
                refine (pvalue_any p u _ hP).mono ?_
                rintro e w10 ⟨y1, rfl, _, hy1, hq⟩
                replace hP := hP.later hq
                have hE := (Env.start (hb.trans (hq.mono hb.size))).add (hR.later hq)
                clear hq hR hb
                obtain ⟨w11, hw11, hY, hq⟩ := new_var w10 23 (incC inc0) (incC y1)
                replace hP := hP.later hq
                replace hE := (hE.later hq).add hY
                clear hq hY
                go_wp2_with (first
                  | ((with_reducible refine at_all ?_); (refine alloc_inc0 (by rfl) rfl ?_; (try simp only [Act.put, List.setIfInBounds_toArray, List.set_cons_zero, List.set_cons_succ])))
                  | ((with_reducible refine at_sto ?_); (refine store_inc y1 inc0 (by rfl) _ _ rfl w10.heap.size rfl rfl ?hg ?_; (case hg => exact Has.new _ _ _); rw [hw11]; (try simp only [Act.put, List.setIfInBounds_toArray, List.set_cons_zero, List.set_cons_succ]))))
                clear hw11
                generalize w10.heap.size = g1 at *
                refine (pdecided_any p u _ hP).mono ?_
                rintro e w13 ⟨y2, rfl, _, hy2, hq⟩
                replace hP := hP.later hq
                replace hE := hE.later hq
                clear hq
                obtain ⟨w14, hw14, hY, hq⟩ := new_var w13 23 (incC inc0) (incC y2)
                replace hP := hP.later hq
                replace hE := (hE.later hq).add hY
                clear hq hY
                go_wp2_with (first
                  | ((with_reducible refine at_all ?_); (refine alloc_inc0 (by rfl) rfl ?_; (try simp only [Act.put, List.setIfInBounds_toArray, List.set_cons_zero, List.set_cons_succ])))
                  | ((with_reducible refine at_sto ?_); (refine store_inc y2 inc0 (by rfl) _ _ rfl w13.heap.size rfl rfl ?hg ?_; (case hg => exact Has.new _ _ _); rw [hw14]; (try simp only [Act.put, List.setIfInBounds_toArray, List.set_cons_zero, List.set_cons_succ]))))
                clear hw14
                generalize w13.heap.size = g2 at *
                refine wp_region_plan (fun W => Env w W _) (Plan.of [(0, true), (2, true), (3, true), (4, true), (5, true), (1, false), (6, true), (7, true), (8, true), (9, true), (10, true), (11, true), (12, true), (13, true), (14, true), (15, true), (16, true), (17, true), (18, true), (19, true), (20, true), (21, true), (22, true), (23, true), (24, true), (25, true), (26, true), (27, true), (28, true), (29, true), (30, true), (31, true), (32, true), (33, true), (34, true), (35, true), (36, true), (37, true), (38, true), (39, true), (40, true), (41, true), (42, true), (43, true), (44, true)] .done) (by kernel_rfl) (by kernel_rfl) (by kernel_rfl) (by kernel_rfl) hE.drew ?_
                replace hE := hE.drew
                replace hP := hP.drew
                generalize w14.drew = w15 at *
                refine plan_take _ (.pointer (some ⟨p, 0, none⟩)) rfl (yields_mv _ (by rfl) _ rfl rfl) ?_
                try simp only [Act.put, List.setIfInBounds_toArray, List.set_cons_zero, List.set_cons_succ]
                refine plan_take _ (.pointer (some ⟨r, 0, none⟩)) rfl (yields_mv _ (by rfl) _ rfl rfl) ?_
                try simp only [Act.put, List.setIfInBounds_toArray, List.set_cons_zero, List.set_cons_succ]
                refine plan_take _ _ rfl (yields_nilc (by rfl) _ rfl _ rfl) ?_
                try simp only [Act.put, List.setIfInBounds_toArray, List.set_cons_zero, List.set_cons_succ]
                refine plan_take _ (.pointer (some ⟨r, 4, none⟩)) rfl (.inl ⟨by rfl, fun W hS => by clear hS; go_simp; try with_reducible rfl⟩) ?_
                try simp only [Act.put, List.setIfInBounds_toArray, List.set_cons_zero, List.set_cons_succ]
                refine plan_take _ _ rfl (yields_bal_mid u.b (by rfl) _ rfl r 4 rfl (fun _ h => rp_b (h.get 0 rfl))) ?_
                try simp only [Act.put, List.setIfInBounds_toArray, List.set_cons_zero, List.set_cons_succ]
                refine plan_run _ rfl (fun K hK => ?_)
                go_simp
                refine (pballot_any p u _ hP).mono ?_
                rintro e w16 ⟨rfl, hq⟩
                replace hP := hP.later hq
                replace hE := hE.later hq
                refine hK.out _ _ hE ?_
                clear hK K hq
                refine plan_take _ _ rfl (yields_bal_neT u.b hub (by rfl) _ _ _ rfl rfl rfl) ?_
                try simp only [Act.put, List.setIfInBounds_toArray, List.set_cons_zero, List.set_cons_succ]
                refine plan_take _ (.bool false) rfl (yields_mv _ (by rfl) _ rfl rfl) ?_
                try simp only [Act.put, List.setIfInBounds_toArray, List.set_cons_zero, List.set_cons_succ]
                refine plan_take _ (.bool u.hasV) rfl (yields_mv _ (by rfl) _ rfl rfl) ?_
                try simp only [Act.put, List.setIfInBounds_toArray, List.set_cons_zero, List.set_cons_succ]
                refine plan_take _ (.pointer (some ⟨r, 0, none⟩)) rfl (yields_mv _ (by rfl) _ rfl rfl) ?_
                try simp only [Act.put, List.setIfInBounds_toArray, List.set_cons_zero, List.set_cons_succ]
                refine plan_take _ _ rfl (yields_nilc (by rfl) _ rfl _ rfl) ?_
                try simp only [Act.put, List.setIfInBounds_toArray, List.set_cons_zero, List.set_cons_succ]
                refine plan_take _ (.pointer (some ⟨r, 18, none⟩)) rfl (.inl ⟨by rfl, fun W hS => by clear hS; go_simp; try with_reducible rfl⟩) ?_
                try simp only [Act.put, List.setIfInBounds_toArray, List.set_cons_zero, List.set_cons_succ]
                iterate 1
                  first
                    | (refine plan_pass _ rfl (by rfl) ?_)
                    | (refine plan_take _ _ rfl (.inl ⟨by rfl, fun W hS => by have z := rp_hasV (hS.get 0 rfl); go_simp; try with_reducible rfl⟩) ?_)
                  try simp only [Act.put, List.setIfInBounds_toArray, List.set_cons_zero, List.set_cons_succ]
                refine plan_take _ (.bool false) rfl (.inl ⟨by rfl, fun W hS => by clear hS; go_simp; try simp⟩) ?_
                try simp only [Act.put, List.setIfInBounds_toArray, List.set_cons_zero, List.set_cons_succ]
                refine plan_take _ (.bool false) rfl (yields_pickF (by rfl) _ _ _ rfl false rfl _ rfl) ?_
                try simp only [Act.put, List.setIfInBounds_toArray, List.set_cons_zero, List.set_cons_succ]
                refine plan_take _ (.bool false) rfl (yields_mv _ (by rfl) _ rfl rfl) ?_
                try simp only [Act.put, List.setIfInBounds_toArray, List.set_cons_zero, List.set_cons_succ]
                refine plan_take _ (.bool u.hasV) rfl (yields_mv _ (by rfl) _ rfl rfl) ?_
                try simp only [Act.put, List.setIfInBounds_toArray, List.set_cons_zero, List.set_cons_succ]
                refine plan_take _ (.bool u.hasV) rfl (yields_mv _ (by rfl) _ rfl rfl) ?_
                try simp only [Act.put, List.setIfInBounds_toArray, List.set_cons_zero, List.set_cons_succ]
                cases hV : u.hasV with
                | false =>
                  clear hy1
                  refine plan_pass _ rfl (by rfl) ?_
                  try simp only [Act.put, List.setIfInBounds_toArray, List.set_cons_zero, List.set_cons_succ]
                  refine plan_pass _ rfl (by rfl) ?_
                  try simp only [Act.put, List.setIfInBounds_toArray, List.set_cons_zero, List.set_cons_succ]
                  refine plan_pass _ rfl (by rfl) ?_
                  try simp only [Act.put, List.setIfInBounds_toArray, List.set_cons_zero, List.set_cons_succ]
                  refine plan_pass _ rfl (by rfl) ?_
                  try simp only [Act.put, List.setIfInBounds_toArray, List.set_cons_zero, List.set_cons_succ]
                  refine plan_pass _ rfl (by rfl) ?_
                  try simp only [Act.put, List.setIfInBounds_toArray, List.set_cons_zero, List.set_cons_succ]
                  refine plan_pass _ rfl (by rfl) ?_
                  try simp only [Act.put, List.setIfInBounds_toArray, List.set_cons_zero, List.set_cons_succ]
                  refine plan_take _ (.bool false) rfl (yields_pickF (by rfl) _ _ _ rfl false rfl _ rfl) ?_
                  try simp only [Act.put, List.setIfInBounds_toArray, List.set_cons_zero, List.set_cons_succ]
                  refine plan_take _ (.bool false) rfl (yields_pickF (by rfl) _ _ _ rfl false rfl _ rfl) ?_
                  try simp only [Act.put, List.setIfInBounds_toArray, List.set_cons_zero, List.set_cons_succ]
                  refine plan_take _ (.bool false) rfl (yields_mv _ (by rfl) _ rfl rfl) ?_
                  try simp only [Act.put, List.setIfInBounds_toArray, List.set_cons_zero, List.set_cons_succ]
                  refine plan_take _ (.bool u.hasD) rfl (yields_mv _ (by rfl) _ rfl rfl) ?_
                  try simp only [Act.put, List.setIfInBounds_toArray, List.set_cons_zero, List.set_cons_succ]
                  refine plan_take _ (.pointer (some ⟨r, 0, none⟩)) rfl (yields_mv _ (by rfl) _ rfl rfl) ?_
                  try simp only [Act.put, List.setIfInBounds_toArray, List.set_cons_zero, List.set_cons_succ]
                  refine plan_take _ _ rfl (yields_nilc (by rfl) _ rfl _ rfl) ?_
                  try simp only [Act.put, List.setIfInBounds_toArray, List.set_cons_zero, List.set_cons_succ]
                  refine plan_take _ (.pointer (some ⟨r, 26, none⟩)) rfl (.inl ⟨by rfl, fun W hS => by clear hS; go_simp; try with_reducible rfl⟩) ?_
                  try simp only [Act.put, List.setIfInBounds_toArray, List.set_cons_zero, List.set_cons_succ]
                  iterate 1
                    first
                      | (refine plan_pass _ rfl (by rfl) ?_)
                      | (refine plan_take _ _ rfl (.inl ⟨by rfl, fun W hS => by have z := rp_hasD (hS.get 0 rfl); go_simp; try with_reducible rfl⟩) ?_)
                    try simp only [Act.put, List.setIfInBounds_toArray, List.set_cons_zero, List.set_cons_succ]
                  refine plan_take _ (.bool false) rfl (.inl ⟨by rfl, fun W hS => by clear hS; go_simp; try simp⟩) ?_
                  try simp only [Act.put, List.setIfInBounds_toArray, List.set_cons_zero, List.set_cons_succ]
                  refine plan_take _ (.bool false) rfl (yields_pickF (by rfl) _ _ _ rfl false rfl _ rfl) ?_
                  try simp only [Act.put, List.setIfInBounds_toArray, List.set_cons_zero, List.set_cons_succ]
                  refine plan_take _ (.bool false) rfl (yields_mv _ (by rfl) _ rfl rfl) ?_
                  try simp only [Act.put, List.setIfInBounds_toArray, List.set_cons_zero, List.set_cons_succ]
                  refine plan_take _ (.bool u.hasD) rfl (yields_mv _ (by rfl) _ rfl rfl) ?_
                  try simp only [Act.put, List.setIfInBounds_toArray, List.set_cons_zero, List.set_cons_succ]
                  refine plan_take _ (.bool u.hasD) rfl (yields_mv _ (by rfl) _ rfl rfl) ?_
                  try simp only [Act.put, List.setIfInBounds_toArray, List.set_cons_zero, List.set_cons_succ]
                  cases hD : u.hasD with
                  | false =>
                    clear hy2
                    refine plan_pass _ rfl (by rfl) ?_
                    try simp only [Act.put, List.setIfInBounds_toArray, List.set_cons_zero, List.set_cons_succ]
                    refine plan_pass _ rfl (by rfl) ?_
                    try simp only [Act.put, List.setIfInBounds_toArray, List.set_cons_zero, List.set_cons_succ]
                    refine plan_pass _ rfl (by rfl) ?_
                    try simp only [Act.put, List.setIfInBounds_toArray, List.set_cons_zero, List.set_cons_succ]
                    refine plan_pass _ rfl (by rfl) ?_
                    try simp only [Act.put, List.setIfInBounds_toArray, List.set_cons_zero, List.set_cons_succ]
                    refine plan_pass _ rfl (by rfl) ?_
                    try simp only [Act.put, List.setIfInBounds_toArray, List.set_cons_zero, List.set_cons_succ]
                    refine plan_pass _ rfl (by rfl) ?_
                    try simp only [Act.put, List.setIfInBounds_toArray, List.set_cons_zero, List.set_cons_succ]
                    refine plan_take _ (.bool false) rfl (yields_pickF (by rfl) _ _ _ rfl false rfl _ rfl) ?_
                    try simp only [Act.put, List.setIfInBounds_toArray, List.set_cons_zero, List.set_cons_succ]
                    refine plan_take _ (.bool false) rfl (yields_pickF (by rfl) _ _ _ rfl false rfl _ rfl) ?_
                    try simp only [Act.put, List.setIfInBounds_toArray, List.set_cons_zero, List.set_cons_succ]
                    refine plan_done ?_
                    go_wp2
                    go_roundw
                    case rel => exact ⟨n + 1, u, by omega, by go_num, hP, hE.get 0 rfl, hE.below⟩
                    case measure => simp [intOf]; omega
                  | true =>
                    obtain rfl : u.dec = y2 := (hy2 hD).symm
                    clear hy2
                    refine plan_take _ _ rfl (yields_inc u.dec (by rfl) _ rfl g2 rfl (fun _ h => h.get 2 rfl)) ?_
                    try simp only [Act.put, List.setIfInBounds_toArray, List.set_cons_zero, List.set_cons_succ]
                    refine plan_take _ (.pointer (some ⟨r, 0, none⟩)) rfl (yields_mv _ (by rfl) _ rfl rfl) ?_
                    try simp only [Act.put, List.setIfInBounds_toArray, List.set_cons_zero, List.set_cons_succ]
                    refine plan_take _ _ rfl (yields_nilc (by rfl) _ rfl _ rfl) ?_
                    try simp only [Act.put, List.setIfInBounds_toArray, List.set_cons_zero, List.set_cons_succ]
                    refine plan_take _ (.pointer (some ⟨r, 23, none⟩)) rfl (.inl ⟨by rfl, fun W hS => by clear hS; go_simp; try with_reducible rfl⟩) ?_
                    try simp only [Act.put, List.setIfInBounds_toArray, List.set_cons_zero, List.set_cons_succ]
                    refine plan_take _ _ rfl (yields_inc_mid u.dec (by rfl) _ rfl r 23 rfl (fun _ h => rp_dec (h.get 0 rfl))) ?_
                    try simp only [Act.put, List.setIfInBounds_toArray, List.set_cons_zero, List.set_cons_succ]
                    refine plan_take _ _ rfl (yields_inc_neT u.dec hud (by rfl) _ _ _ rfl rfl rfl) ?_
                    try simp only [Act.put, List.setIfInBounds_toArray, List.set_cons_zero, List.set_cons_succ]
                    refine plan_take _ (.bool false) rfl (yields_pickF (by rfl) _ _ _ rfl true rfl _ rfl) ?_
                    try simp only [Act.put, List.setIfInBounds_toArray, List.set_cons_zero, List.set_cons_succ]
                    refine plan_take _ (.bool false) rfl (yields_pickF (by rfl) _ _ _ rfl false rfl _ rfl) ?_
                    try simp only [Act.put, List.setIfInBounds_toArray, List.set_cons_zero, List.set_cons_succ]
                    refine plan_done ?_
                    go_wp2
                    go_roundw
                    case rel => exact ⟨n + 1, u, by omega, by go_num, hP, hE.get 0 rfl, hE.below⟩
                    case measure => simp [intOf]; omega
                | true =>
                  obtain rfl : u.value = y1 := (hy1 hV).symm
                  clear hy1
                  refine plan_take _ _ rfl (yields_inc u.value (by rfl) _ rfl g1 rfl (fun _ h => h.get 1 rfl)) ?_
                  try simp only [Act.put, List.setIfInBounds_toArray, List.set_cons_zero, List.set_cons_succ]
                  refine plan_take _ (.pointer (some ⟨r, 0, none⟩)) rfl (yields_mv _ (by rfl) _ rfl rfl) ?_
                  try simp only [Act.put, List.setIfInBounds_toArray, List.set_cons_zero, List.set_cons_succ]
                  refine plan_take _ _ rfl (yields_nilc (by rfl) _ rfl _ rfl) ?_
                  try simp only [Act.put, List.setIfInBounds_toArray, List.set_cons_zero, List.set_cons_succ]
                  refine plan_take _ (.pointer (some ⟨r, 15, none⟩)) rfl (.inl ⟨by rfl, fun W hS => by clear hS; go_simp; try with_reducible rfl⟩) ?_
                  try simp only [Act.put, List.setIfInBounds_toArray, List.set_cons_zero, List.set_cons_succ]
                  refine plan_take _ _ rfl (yields_inc_mid u.value (by rfl) _ rfl r 15 rfl (fun _ h => rp_value (h.get 0 rfl))) ?_
                  try simp only [Act.put, List.setIfInBounds_toArray, List.set_cons_zero, List.set_cons_succ]
                  refine plan_take _ _ rfl (yields_inc_neT u.value huv (by rfl) _ _ _ rfl rfl rfl) ?_
                  try simp only [Act.put, List.setIfInBounds_toArray, List.set_cons_zero, List.set_cons_succ]
                  refine plan_take _ (.bool false) rfl (yields_pickF (by rfl) _ _ _ rfl true rfl _ rfl) ?_
                  try simp only [Act.put, List.setIfInBounds_toArray, List.set_cons_zero, List.set_cons_succ]
                  refine plan_take _ (.bool false) rfl (yields_pickF (by rfl) _ _ _ rfl false rfl _ rfl) ?_
                  try simp only [Act.put, List.setIfInBounds_toArray, List.set_cons_zero, List.set_cons_succ]
                  refine plan_take _ (.bool false) rfl (yields_mv _ (by rfl) _ rfl rfl) ?_
                  try simp only [Act.put, List.setIfInBounds_toArray, List.set_cons_zero, List.set_cons_succ]
                  refine plan_take _ (.bool u.hasD) rfl (yields_mv _ (by rfl) _ rfl rfl) ?_
                  try simp only [Act.put, List.setIfInBounds_toArray, List.set_cons_zero, List.set_cons_succ]
                  refine plan_take _ (.pointer (some ⟨r, 0, none⟩)) rfl (yields_mv _ (by rfl) _ rfl rfl) ?_
                  try simp only [Act.put, List.setIfInBounds_toArray, List.set_cons_zero, List.set_cons_succ]
                  refine plan_take _ _ rfl (yields_nilc (by rfl) _ rfl _ rfl) ?_
                  try simp only [Act.put, List.setIfInBounds_toArray, List.set_cons_zero, List.set_cons_succ]
                  refine plan_take _ (.pointer (some ⟨r, 26, none⟩)) rfl (.inl ⟨by rfl, fun W hS => by clear hS; go_simp; try with_reducible rfl⟩) ?_
                  try simp only [Act.put, List.setIfInBounds_toArray, List.set_cons_zero, List.set_cons_succ]
                  iterate 1
                    first
                      | (refine plan_pass _ rfl (by rfl) ?_)
                      | (refine plan_take _ _ rfl (.inl ⟨by rfl, fun W hS => by have z := rp_hasD (hS.get 0 rfl); go_simp; try with_reducible rfl⟩) ?_)
                    try simp only [Act.put, List.setIfInBounds_toArray, List.set_cons_zero, List.set_cons_succ]
                  refine plan_take _ (.bool false) rfl (.inl ⟨by rfl, fun W hS => by clear hS; go_simp; try simp⟩) ?_
                  try simp only [Act.put, List.setIfInBounds_toArray, List.set_cons_zero, List.set_cons_succ]
                  refine plan_take _ (.bool false) rfl (yields_pickF (by rfl) _ _ _ rfl false rfl _ rfl) ?_
                  try simp only [Act.put, List.setIfInBounds_toArray, List.set_cons_zero, List.set_cons_succ]
                  refine plan_take _ (.bool false) rfl (yields_mv _ (by rfl) _ rfl rfl) ?_
                  try simp only [Act.put, List.setIfInBounds_toArray, List.set_cons_zero, List.set_cons_succ]
                  refine plan_take _ (.bool u.hasD) rfl (yields_mv _ (by rfl) _ rfl rfl) ?_
                  try simp only [Act.put, List.setIfInBounds_toArray, List.set_cons_zero, List.set_cons_succ]
                  refine plan_take _ (.bool u.hasD) rfl (yields_mv _ (by rfl) _ rfl rfl) ?_
                  try simp only [Act.put, List.setIfInBounds_toArray, List.set_cons_zero, List.set_cons_succ]
                  cases hD : u.hasD with
                  | false =>
                    clear hy2
                    refine plan_pass _ rfl (by rfl) ?_
                    try simp only [Act.put, List.setIfInBounds_toArray, List.set_cons_zero, List.set_cons_succ]
                    refine plan_pass _ rfl (by rfl) ?_
                    try simp only [Act.put, List.setIfInBounds_toArray, List.set_cons_zero, List.set_cons_succ]
                    refine plan_pass _ rfl (by rfl) ?_
                    try simp only [Act.put, List.setIfInBounds_toArray, List.set_cons_zero, List.set_cons_succ]
                    refine plan_pass _ rfl (by rfl) ?_
                    try simp only [Act.put, List.setIfInBounds_toArray, List.set_cons_zero, List.set_cons_succ]
                    refine plan_pass _ rfl (by rfl) ?_
                    try simp only [Act.put, List.setIfInBounds_toArray, List.set_cons_zero, List.set_cons_succ]
                    refine plan_pass _ rfl (by rfl) ?_
                    try simp only [Act.put, List.setIfInBounds_toArray, List.set_cons_zero, List.set_cons_succ]
                    refine plan_take _ (.bool false) rfl (yields_pickF (by rfl) _ _ _ rfl false rfl _ rfl) ?_
                    try simp only [Act.put, List.setIfInBounds_toArray, List.set_cons_zero, List.set_cons_succ]
                    refine plan_take _ (.bool false) rfl (yields_pickF (by rfl) _ _ _ rfl false rfl _ rfl) ?_
                    try simp only [Act.put, List.setIfInBounds_toArray, List.set_cons_zero, List.set_cons_succ]
                    refine plan_done ?_
                    go_wp2
                    go_roundw
                    case rel => exact ⟨n + 1, u, by omega, by go_num, hP, hE.get 0 rfl, hE.below⟩
                    case measure => simp [intOf]; omega
                  | true =>
                    obtain rfl : u.dec = y2 := (hy2 hD).symm
                    clear hy2
                    refine plan_take _ _ rfl (yields_inc u.dec (by rfl) _ rfl g2 rfl (fun _ h => h.get 2 rfl)) ?_
                    try simp only [Act.put, List.setIfInBounds_toArray, List.set_cons_zero, List.set_cons_succ]
                    refine plan_take _ (.pointer (some ⟨r, 0, none⟩)) rfl (yields_mv _ (by rfl) _ rfl rfl) ?_
                    try simp only [Act.put, List.setIfInBounds_toArray, List.set_cons_zero, List.set_cons_succ]
                    refine plan_take _ _ rfl (yields_nilc (by rfl) _ rfl _ rfl) ?_
                    try simp only [Act.put, List.setIfInBounds_toArray, List.set_cons_zero, List.set_cons_succ]
                    refine plan_take _ (.pointer (some ⟨r, 23, none⟩)) rfl (.inl ⟨by rfl, fun W hS => by clear hS; go_simp; try with_reducible rfl⟩) ?_
                    try simp only [Act.put, List.setIfInBounds_toArray, List.set_cons_zero, List.set_cons_succ]
                    refine plan_take _ _ rfl (yields_inc_mid u.dec (by rfl) _ rfl r 23 rfl (fun _ h => rp_dec (h.get 0 rfl))) ?_
                    try simp only [Act.put, List.setIfInBounds_toArray, List.set_cons_zero, List.set_cons_succ]
                    refine plan_take _ _ rfl (yields_inc_neT u.dec hud (by rfl) _ _ _ rfl rfl rfl) ?_
                    try simp only [Act.put, List.setIfInBounds_toArray, List.set_cons_zero, List.set_cons_succ]
                    refine plan_take _ (.bool false) rfl (yields_pickF (by rfl) _ _ _ rfl true rfl _ rfl) ?_
                    try simp only [Act.put, List.setIfInBounds_toArray, List.set_cons_zero, List.set_cons_succ]
                    refine plan_take _ (.bool false) rfl (yields_pickF (by rfl) _ _ _ rfl false rfl _ rfl) ?_
                    try simp only [Act.put, List.setIfInBounds_toArray, List.set_cons_zero, List.set_cons_succ]
                    refine plan_done ?_
                    go_wp2
                    go_roundw
                    case rel => exact ⟨n + 1, u, by omega, by go_num, hP, hE.get 0 rfl, hE.below⟩
                    case measure => simp [intOf]; omega
              · have hw0I : (0 : Int) < s.what := by omega
                by_cases hw2 : s.what ≤ 2
                · go_wp2_with ((with_reducible refine at_g0 ?_); first
                    | ((with_reducible refine at_all ?_); first
                      | (refine wpList_alloc_has (by rfl) 36 rfl _ pst_zero ?_; (try simp only [Act.put, List.setIfInBounds_toArray, List.set_cons_zero, List.set_cons_succ]))
                      | (refine alloc_bal (by rfl) rfl ?_; (try simp only [Act.put, List.setIfInBounds_toArray, List.set_cons_zero, List.set_cons_succ])))
                    | ((with_reducible refine at_sto ?_); first
                      | (refine wpList_store_has (by rfl) 36 _ _ rfl wr.heap.size rfl (pstL s).toArray rfl 36 (pstL pst0).toArray (pst_size _) rfl (pst_one _) ?hg ?_; (case hg => exact Has.new _ _ _); rw [hw4]; (try simp only [Act.put, List.setIfInBounds_toArray, List.set_cons_zero, List.set_cons_succ]))
                      | (refine store_bal c0 bal0 (by rfl) _ _ rfl w4.heap.size rfl rfl ?hg ?_; (case hg => exact Has.new _ _ _); rw [hw5]; (try simp only [Act.put, List.setIfInBounds_toArray, List.set_cons_zero, List.set_cons_succ]))
                      | (refine store_bal b c0 (by rfl) _ _ rfl w4.heap.size rfl rfl ?hg ?_; (case hg => exact hB5); rw [hw6]; (try simp only [Act.put, List.setIfInBounds_toArray, List.set_cons_zero, List.set_cons_succ])))
                    | ((with_reducible refine at_loa ?_); first
                      | (refine wpList_load_any (by rfl) 36 _ rfl _ rfl (pstL s) _ ?hg Try.underlying36 rfl (pst_size s) ?_; (case hg => exact hst); (try simp only [Act.put, List.setIfInBounds_toArray, List.set_cons_zero, List.set_cons_succ]))
                      | (refine wpList_load_mid' (by rfl) 31 _ rfl wr.heap.size 3 rfl (balC c0).toList _ ?hg Try.underlying31 rfl (bal_size _) ?_; (case hg => exact rB); (try simp only [Act.put, List.setIfInBounds_toArray, List.set_cons_zero, List.set_cons_succ]))
                      | (refine wpList_load_mid' (by rfl) 31 _ rfl r 4 rfl (balC b).toList _ ?hg Try.underlying31 rfl (bal_size _) ?_; (case hg => exact rR); (try simp only [Act.put, List.setIfInBounds_toArray, List.set_cons_zero, List.set_cons_succ]))))
                  clear hst rB zo zw hw4 hw5 hB5 rR hw6 hS4 hltp hltr hlt4 hlp4 hlr4
                  generalize wr.heap.size = gs at *
                  generalize w4.heap.size = gb at *
                  have hvo := hP.ok
                  obtain ⟨u, res, hu⟩ : ∃ u res, promM v s.from' b s.acc s.x s.has = (u, res) := ⟨_, _, rfl⟩
                  refine wp_region_plan (fun W => Env w W _) (Plan.of [(0, true), (1, true), (2, true), (3, true), (4, true), (5, true), (6, true), (7, true), (8, true), (9, true), (11, true), (12, true), (13, true), (14, true), (15, true), (16, true), (17, true), (18, true), (19, true), (20, true), (10, false), (21, false), (22, true)] .done) (by kernel_rfl) (by kernel_rfl) (by kernel_rfl) (by kernel_rfl) hE.drew ?_
                  replace hE := hE.drew
                  replace hP := hP.drew
                  replace hR := hR.drew
                  generalize wS.drew = wT at *
                  iterate 2
                    first
                      | (refine plan_pass _ rfl (by rfl) ?_)
                      | (refine plan_take _ _ rfl (.inl ⟨by rfl, fun W hS => by clear hS; go_simp; try with_reducible rfl⟩) ?_)
                    try simp only [Act.put, List.setIfInBounds_toArray, List.set_cons_zero, List.set_cons_succ]
                  iterate 1
                    first
                      | (refine plan_pass _ rfl (by rfl) ?_)
                      | (refine plan_take _ _ rfl (.inl ⟨by rfl, fun W hS => by have z := pst_from (hS.get 0 rfl); go_simp; try with_reducible rfl⟩) ?_)
                    try simp only [Act.put, List.setIfInBounds_toArray, List.set_cons_zero, List.set_cons_succ]
                  refine plan_take _ _ rfl (yields_bal b (by rfl) _ rfl gb rfl (fun _ h => h.get 1 rfl)) ?_
                  try simp only [Act.put, List.setIfInBounds_toArray, List.set_cons_zero, List.set_cons_succ]
                  iterate 1
                    first
                      | (refine plan_pass _ rfl (by rfl) ?_)
                      | (refine plan_take _ _ rfl (.inl ⟨by rfl, fun W hS => by clear hS; go_simp; try with_reducible rfl⟩) ?_)
                    try simp only [Act.put, List.setIfInBounds_toArray, List.set_cons_zero, List.set_cons_succ]
                  refine plan_take _ _ rfl (yields_bal_mid s.acc (by rfl) _ rfl gs 5 rfl (fun _ h => pst_acc (h.get 0 rfl))) ?_
                  try simp only [Act.put, List.setIfInBounds_toArray, List.set_cons_zero, List.set_cons_succ]
                  iterate 1
                    first
                      | (refine plan_pass _ rfl (by rfl) ?_)
                      | (refine plan_take _ _ rfl (.inl ⟨by rfl, fun W hS => by clear hS; go_simp; try with_reducible rfl⟩) ?_)
                    try simp only [Act.put, List.setIfInBounds_toArray, List.set_cons_zero, List.set_cons_succ]
                  refine plan_take _ _ rfl (yields_inc_mid s.x (by rfl) _ rfl gs 7 rfl (fun _ h => pst_x (h.get 0 rfl))) ?_
                  try simp only [Act.put, List.setIfInBounds_toArray, List.set_cons_zero, List.set_cons_succ]
                  iterate 1
                    first
                      | (refine plan_pass _ rfl (by rfl) ?_)
                      | (refine plan_take _ _ rfl (.inl ⟨by rfl, fun W hS => by clear hS; go_simp; try with_reducible rfl⟩) ?_)
                    try simp only [Act.put, List.setIfInBounds_toArray, List.set_cons_zero, List.set_cons_succ]
                  iterate 1
                    first
                      | (refine plan_pass _ rfl (by rfl) ?_)
                      | (refine plan_take _ _ rfl (.inl ⟨by rfl, fun W hS => by have z := pst_has (hS.get 0 rfl); go_simp; try with_reducible rfl⟩) ?_)
                    try simp only [Act.put, List.setIfInBounds_toArray, List.set_cons_zero, List.set_cons_succ]
                  iterate 2
                    first
                      | (refine plan_pass _ rfl (by rfl) ?_)
                      | (refine plan_take _ _ rfl (.inl ⟨by rfl, fun W hS => by clear hS; go_simp; try with_reducible rfl⟩) ?_)
                    try simp only [Act.put, List.setIfInBounds_toArray, List.set_cons_zero, List.set_cons_succ]
                  iterate 1
                    first
                      | (refine plan_pass _ rfl (by rfl) ?_)
                      | (refine plan_take _ _ rfl (.inl ⟨by rfl, fun W hS => by have z := pst_from (hS.get 0 rfl); go_simp; try with_reducible rfl⟩) ?_)
                    try simp only [Act.put, List.setIfInBounds_toArray, List.set_cons_zero, List.set_cons_succ]
                  refine plan_take _ _ rfl (yields_bal b (by rfl) _ rfl gb rfl (fun _ h => h.get 1 rfl)) ?_
                  try simp only [Act.put, List.setIfInBounds_toArray, List.set_cons_zero, List.set_cons_succ]
                  iterate 1
                    first
                      | (refine plan_pass _ rfl (by rfl) ?_)
                      | (refine plan_take _ _ rfl (.inl ⟨by rfl, fun W hS => by clear hS; go_simp; try with_reducible rfl⟩) ?_)
                    try simp only [Act.put, List.setIfInBounds_toArray, List.set_cons_zero, List.set_cons_succ]
                  refine plan_take _ _ rfl (yields_bal_mid s.acc (by rfl) _ rfl gs 5 rfl (fun _ h => pst_acc (h.get 0 rfl))) ?_
                  try simp only [Act.put, List.setIfInBounds_toArray, List.set_cons_zero, List.set_cons_succ]
                  iterate 1
                    first
                      | (refine plan_pass _ rfl (by rfl) ?_)
                      | (refine plan_take _ _ rfl (.inl ⟨by rfl, fun W hS => by clear hS; go_simp; try with_reducible rfl⟩) ?_)
                    try simp only [Act.put, List.setIfInBounds_toArray, List.set_cons_zero, List.set_cons_succ]
                  refine plan_take _ _ rfl (yields_inc_mid s.x (by rfl) _ rfl gs 7 rfl (fun _ h => pst_x (h.get 0 rfl))) ?_
                  try simp only [Act.put, List.setIfInBounds_toArray, List.set_cons_zero, List.set_cons_succ]
                  iterate 1
                    first
                      | (refine plan_pass _ rfl (by rfl) ?_)
                      | (refine plan_take _ _ rfl (.inl ⟨by rfl, fun W hS => by clear hS; go_simp; try with_reducible rfl⟩) ?_)
                    try simp only [Act.put, List.setIfInBounds_toArray, List.set_cons_zero, List.set_cons_succ]
                  iterate 1
                    first
                      | (refine plan_pass _ rfl (by rfl) ?_)
                      | (refine plan_take _ _ rfl (.inl ⟨by rfl, fun W hS => by have z := pst_has (hS.get 0 rfl); go_simp; try with_reducible rfl⟩) ?_)
                    try simp only [Act.put, List.setIfInBounds_toArray, List.set_cons_zero, List.set_cons_succ]
                  have hk1 := ppromise_is p v s.from' b s.acc s.x s.has wT hu hP hs.from' hbo hs.acc hs.x
                  have hk2 := fun W h => rpromise_any r v s.from' b s.acc s.x s.has W h hvo hs.from' hbo hs.acc hs.x
                  simp only [hu] at hk2
                  refine plan_run _ rfl (fun K hK => ?_)
                  go_simp
                  refine (hk1).mono ?_
                  rintro e w7 ⟨rfl, hP7, hq⟩
                  replace hR := hq.has hR (Ne.symm hpr)
                  replace hE := hE.but hq hp hAp
                  refine hK.out _ _ hE ?_
                  clear hK K hq hP
                  refine plan_run _ rfl (fun K hK => ?_)
                  go_simp
                  refine (hk2 _ hR).mono ?_
                  rintro e w8 ⟨rfl, hR8, hq⟩
                  replace hP7 := hP7.but hq hpr
                  replace hE := hE.but hq hr hAr
                  refine hK.out _ _ hE ?_
                  clear hK K hq hR
                  refine plan_take _ (.bool false) rfl (.inl ⟨by rfl, fun W hS => by clear hS; go_simp; try simp⟩) ?_
                  try simp only [Act.put, List.setIfInBounds_toArray, List.set_cons_zero, List.set_cons_succ]
                  refine plan_done ?_
                  clear hk1 hk2 hu hvo
                  replace hb := hE.below
                  clear hE hAp hAr
                  have hP := hP7
                  have hR := hR8
                  clear hP7 hR8
                  have hub := hP.ok.b
                  have huv := hP.ok.value
                  have hud := hP.ok.dec
                  go_wp2_with fail
                  refine (pvalue_any p u _ hP).mono ?_
                  rintro e w10 ⟨y1, rfl, _, hy1, hq⟩
                  replace hP := hP.later hq
                  have hE := (Env.start (hb.trans (hq.mono hb.size))).add (hR.later hq)
                  clear hq hR hb
                  obtain ⟨w11, hw11, hY, hq⟩ := new_var w10 23 (incC inc0) (incC y1)
                  replace hP := hP.later hq
                  replace hE := (hE.later hq).add hY
                  clear hq hY
                  go_wp2_with (first
                    | ((with_reducible refine at_all ?_); (refine alloc_inc0 (by rfl) rfl ?_; (try simp only [Act.put, List.setIfInBounds_toArray, List.set_cons_zero, List.set_cons_succ])))
                    | ((with_reducible refine at_sto ?_); (refine store_inc y1 inc0 (by rfl) _ _ rfl w10.heap.size rfl rfl ?hg ?_; (case hg => exact Has.new _ _ _); rw [hw11]; (try simp only [Act.put, List.setIfInBounds_toArray, List.set_cons_zero, List.set_cons_succ]))))
                  clear hw11
                  generalize w10.heap.size = g1 at *
                  refine (pdecided_any p u _ hP).mono ?_
                  rintro e w13 ⟨y2, rfl, _, hy2, hq⟩
                  replace hP := hP.later hq
                  replace hE := hE.later hq
                  clear hq
                  obtain ⟨w14, hw14, hY, hq⟩ := new_var w13 23 (incC inc0) (incC y2)
                  replace hP := hP.later hq
                  replace hE := (hE.later hq).add hY
                  clear hq hY
                  go_wp2_with (first
                    | ((with_reducible refine at_all ?_); (refine alloc_inc0 (by rfl) rfl ?_; (try simp only [Act.put, List.setIfInBounds_toArray, List.set_cons_zero, List.set_cons_succ])))
                    | ((with_reducible refine at_sto ?_); (refine store_inc y2 inc0 (by rfl) _ _ rfl w13.heap.size rfl rfl ?hg ?_; (case hg => exact Has.new _ _ _); rw [hw14]; (try simp only [Act.put, List.setIfInBounds_toArray, List.set_cons_zero, List.set_cons_succ]))))
                  clear hw14
                  generalize w13.heap.size = g2 at *
                  refine wp_region_plan (fun W => Env w W _) (Plan.of [(0, true), (2, true), (3, true), (4, true), (5, true), (1, false), (6, true), (7, true), (8, true), (9, true), (10, true), (11, true), (12, true), (13, true), (14, true), (15, true), (16, true), (17, true), (18, true), (19, true), (20, true), (21, true), (22, true), (23, true), (24, true), (25, true), (26, true), (27, true), (28, true), (29, true), (30, true), (31, true), (32, true), (33, true), (34, true), (35, true), (36, true), (37, true), (38, true), (39, true), (40, true), (41, true), (42, true), (43, true), (44, true)] .done) (by kernel_rfl) (by kernel_rfl) (by kernel_rfl) (by kernel_rfl) hE.drew ?_
                  replace hE := hE.drew
                  replace hP := hP.drew
                  generalize w14.drew = w15 at *
                  refine plan_take _ (.pointer (some ⟨p, 0, none⟩)) rfl (yields_mv _ (by rfl) _ rfl rfl) ?_
                  try simp only [Act.put, List.setIfInBounds_toArray, List.set_cons_zero, List.set_cons_succ]
                  refine plan_take _ (.pointer (some ⟨r, 0, none⟩)) rfl (yields_mv _ (by rfl) _ rfl rfl) ?_
                  try simp only [Act.put, List.setIfInBounds_toArray, List.set_cons_zero, List.set_cons_succ]
                  refine plan_take _ _ rfl (yields_nilc (by rfl) _ rfl _ rfl) ?_
                  try simp only [Act.put, List.setIfInBounds_toArray, List.set_cons_zero, List.set_cons_succ]
                  refine plan_take _ (.pointer (some ⟨r, 4, none⟩)) rfl (.inl ⟨by rfl, fun W hS => by clear hS; go_simp; try with_reducible rfl⟩) ?_
                  try simp only [Act.put, List.setIfInBounds_toArray, List.set_cons_zero, List.set_cons_succ]
                  refine plan_take _ _ rfl (yields_bal_mid u.b (by rfl) _ rfl r 4 rfl (fun _ h => rp_b (h.get 0 rfl))) ?_
                  try simp only [Act.put, List.setIfInBounds_toArray, List.set_cons_zero, List.set_cons_succ]
                  refine plan_run _ rfl (fun K hK => ?_)
                  go_simp
                  refine (pballot_any p u _ hP).mono ?_
                  rintro e w16 ⟨rfl, hq⟩
                  replace hP := hP.later hq
                  replace hE := hE.later hq
                  refine hK.out _ _ hE ?_
                  clear hK K hq
                  refine plan_take _ _ rfl (yields_bal_neT u.b hub (by rfl) _ _ _ rfl rfl rfl) ?_
                  try simp only [Act.put, List.setIfInBounds_toArray, List.set_cons_zero, List.set_cons_succ]
                  refine plan_take _ (.bool false) rfl (yields_mv _ (by rfl) _ rfl rfl) ?_
                  try simp only [Act.put, List.setIfInBounds_toArray, List.set_cons_zero, List.set_cons_succ]
                  refine plan_take _ (.bool u.hasV) rfl (yields_mv _ (by rfl) _ rfl rfl) ?_
                  try simp only [Act.put, List.setIfInBounds_toArray, List.set_cons_zero, List.set_cons_succ]
                  refine plan_take _ (.pointer (some ⟨r, 0, none⟩)) rfl (yields_mv _ (by rfl) _ rfl rfl) ?_
                  try simp only [Act.put, List.setIfInBounds_toArray, List.set_cons_zero, List.set_cons_succ]
                  refine plan_take _ _ rfl (yields_nilc (by rfl) _ rfl _ rfl) ?_
                  try simp only [Act.put, List.setIfInBounds_toArray, List.set_cons_zero, List.set_cons_succ]
                  refine plan_take _ (.pointer (some ⟨r, 18, none⟩)) rfl (.inl ⟨by rfl, fun W hS => by clear hS; go_simp; try with_reducible rfl⟩) ?_
                  try simp only [Act.put, List.setIfInBounds_toArray, List.set_cons_zero, List.set_cons_succ]
                  iterate 1
                    first
                      | (refine plan_pass _ rfl (by rfl) ?_)
                      | (refine plan_take _ _ rfl (.inl ⟨by rfl, fun W hS => by have z := rp_hasV (hS.get 0 rfl); go_simp; try with_reducible rfl⟩) ?_)
                    try simp only [Act.put, List.setIfInBounds_toArray, List.set_cons_zero, List.set_cons_succ]
                  refine plan_take _ (.bool false) rfl (.inl ⟨by rfl, fun W hS => by clear hS; go_simp; try simp⟩) ?_
                  try simp only [Act.put, List.setIfInBounds_toArray, List.set_cons_zero, List.set_cons_succ]
                  refine plan_take _ (.bool false) rfl (yields_pickF (by rfl) _ _ _ rfl false rfl _ rfl) ?_
                  try simp only [Act.put, List.setIfInBounds_toArray, List.set_cons_zero, List.set_cons_succ]
                  refine plan_take _ (.bool false) rfl (yields_mv _ (by rfl) _ rfl rfl) ?_
                  try simp only [Act.put, List.setIfInBounds_toArray, List.set_cons_zero, List.set_cons_succ]
                  refine plan_take _ (.bool u.hasV) rfl (yields_mv _ (by rfl) _ rfl rfl) ?_
                  try simp only [Act.put, List.setIfInBounds_toArray, List.set_cons_zero, List.set_cons_succ]
                  refine plan_take _ (.bool u.hasV) rfl (yields_mv _ (by rfl) _ rfl rfl) ?_
                  try simp only [Act.put, List.setIfInBounds_toArray, List.set_cons_zero, List.set_cons_succ]
                  cases hV : u.hasV with
                  | false =>
                    clear hy1
                    refine plan_pass _ rfl (by rfl) ?_
                    try simp only [Act.put, List.setIfInBounds_toArray, List.set_cons_zero, List.set_cons_succ]
                    refine plan_pass _ rfl (by rfl) ?_
                    try simp only [Act.put, List.setIfInBounds_toArray, List.set_cons_zero, List.set_cons_succ]
                    refine plan_pass _ rfl (by rfl) ?_
                    try simp only [Act.put, List.setIfInBounds_toArray, List.set_cons_zero, List.set_cons_succ]
                    refine plan_pass _ rfl (by rfl) ?_
                    try simp only [Act.put, List.setIfInBounds_toArray, List.set_cons_zero, List.set_cons_succ]
                    refine plan_pass _ rfl (by rfl) ?_
                    try simp only [Act.put, List.setIfInBounds_toArray, List.set_cons_zero, List.set_cons_succ]
                    refine plan_pass _ rfl (by rfl) ?_
                    try simp only [Act.put, List.setIfInBounds_toArray, List.set_cons_zero, List.set_cons_succ]
                    refine plan_take _ (.bool false) rfl (yields_pickF (by rfl) _ _ _ rfl false rfl _ rfl) ?_
                    try simp only [Act.put, List.setIfInBounds_toArray, List.set_cons_zero, List.set_cons_succ]
                    refine plan_take _ (.bool false) rfl (yields_pickF (by rfl) _ _ _ rfl false rfl _ rfl) ?_
                    try simp only [Act.put, List.setIfInBounds_toArray, List.set_cons_zero, List.set_cons_succ]
                    refine plan_take _ (.bool false) rfl (yields_mv _ (by rfl) _ rfl rfl) ?_
                    try simp only [Act.put, List.setIfInBounds_toArray, List.set_cons_zero, List.set_cons_succ]
                    refine plan_take _ (.bool u.hasD) rfl (yields_mv _ (by rfl) _ rfl rfl) ?_
                    try simp only [Act.put, List.setIfInBounds_toArray, List.set_cons_zero, List.set_cons_succ]
                    refine plan_take _ (.pointer (some ⟨r, 0, none⟩)) rfl (yields_mv _ (by rfl) _ rfl rfl) ?_
                    try simp only [Act.put, List.setIfInBounds_toArray, List.set_cons_zero, List.set_cons_succ]
                    refine plan_take _ _ rfl (yields_nilc (by rfl) _ rfl _ rfl) ?_
                    try simp only [Act.put, List.setIfInBounds_toArray, List.set_cons_zero, List.set_cons_succ]
                    refine plan_take _ (.pointer (some ⟨r, 26, none⟩)) rfl (.inl ⟨by rfl, fun W hS => by clear hS; go_simp; try with_reducible rfl⟩) ?_
                    try simp only [Act.put, List.setIfInBounds_toArray, List.set_cons_zero, List.set_cons_succ]
                    iterate 1
                      first
                        | (refine plan_pass _ rfl (by rfl) ?_)
                        | (refine plan_take _ _ rfl (.inl ⟨by rfl, fun W hS => by have z := rp_hasD (hS.get 0 rfl); go_simp; try with_reducible rfl⟩) ?_)
                      try simp only [Act.put, List.setIfInBounds_toArray, List.set_cons_zero, List.set_cons_succ]
                    refine plan_take _ (.bool false) rfl (.inl ⟨by rfl, fun W hS => by clear hS; go_simp; try simp⟩) ?_
                    try simp only [Act.put, List.setIfInBounds_toArray, List.set_cons_zero, List.set_cons_succ]
                    refine plan_take _ (.bool false) rfl (yields_pickF (by rfl) _ _ _ rfl false rfl _ rfl) ?_
                    try simp only [Act.put, List.setIfInBounds_toArray, List.set_cons_zero, List.set_cons_succ]
                    refine plan_take _ (.bool false) rfl (yields_mv _ (by rfl) _ rfl rfl) ?_
                    try simp only [Act.put, List.setIfInBounds_toArray, List.set_cons_zero, List.set_cons_succ]
                    refine plan_take _ (.bool u.hasD) rfl (yields_mv _ (by rfl) _ rfl rfl) ?_
                    try simp only [Act.put, List.setIfInBounds_toArray, List.set_cons_zero, List.set_cons_succ]
                    refine plan_take _ (.bool u.hasD) rfl (yields_mv _ (by rfl) _ rfl rfl) ?_
                    try simp only [Act.put, List.setIfInBounds_toArray, List.set_cons_zero, List.set_cons_succ]
                    cases hD : u.hasD with
                    | false =>
                      clear hy2
                      refine plan_pass _ rfl (by rfl) ?_
                      try simp only [Act.put, List.setIfInBounds_toArray, List.set_cons_zero, List.set_cons_succ]
                      refine plan_pass _ rfl (by rfl) ?_
                      try simp only [Act.put, List.setIfInBounds_toArray, List.set_cons_zero, List.set_cons_succ]
                      refine plan_pass _ rfl (by rfl) ?_
                      try simp only [Act.put, List.setIfInBounds_toArray, List.set_cons_zero, List.set_cons_succ]
                      refine plan_pass _ rfl (by rfl) ?_
                      try simp only [Act.put, List.setIfInBounds_toArray, List.set_cons_zero, List.set_cons_succ]
                      refine plan_pass _ rfl (by rfl) ?_
                      try simp only [Act.put, List.setIfInBounds_toArray, List.set_cons_zero, List.set_cons_succ]
                      refine plan_pass _ rfl (by rfl) ?_
                      try simp only [Act.put, List.setIfInBounds_toArray, List.set_cons_zero, List.set_cons_succ]
                      refine plan_take _ (.bool false) rfl (yields_pickF (by rfl) _ _ _ rfl false rfl _ rfl) ?_
                      try simp only [Act.put, List.setIfInBounds_toArray, List.set_cons_zero, List.set_cons_succ]
                      refine plan_take _ (.bool false) rfl (yields_pickF (by rfl) _ _ _ rfl false rfl _ rfl) ?_
                      try simp only [Act.put, List.setIfInBounds_toArray, List.set_cons_zero, List.set_cons_succ]
                      refine plan_done ?_
                      go_wp2
                      go_roundw
                      case rel => exact ⟨n + 1, u, by omega, by go_num, hP, hE.get 0 rfl, hE.below⟩
                      case measure => simp [intOf]; omega
                    | true =>
                      obtain rfl : u.dec = y2 := (hy2 hD).symm
                      clear hy2
                      refine plan_take _ _ rfl (yields_inc u.dec (by rfl) _ rfl g2 rfl (fun _ h => h.get 2 rfl)) ?_
                      try simp only [Act.put, List.setIfInBounds_toArray, List.set_cons_zero, List.set_cons_succ]
                      refine plan_take _ (.pointer (some ⟨r, 0, none⟩)) rfl (yields_mv _ (by rfl) _ rfl rfl) ?_
                      try simp only [Act.put, List.setIfInBounds_toArray, List.set_cons_zero, List.set_cons_succ]
                      refine plan_take _ _ rfl (yields_nilc (by rfl) _ rfl _ rfl) ?_
                      try simp only [Act.put, List.setIfInBounds_toArray, List.set_cons_zero, List.set_cons_succ]
                      refine plan_take _ (.pointer (some ⟨r, 23, none⟩)) rfl (.inl ⟨by rfl, fun W hS => by clear hS; go_simp; try with_reducible rfl⟩) ?_
                      try simp only [Act.put, List.setIfInBounds_toArray, List.set_cons_zero, List.set_cons_succ]
                      refine plan_take _ _ rfl (yields_inc_mid u.dec (by rfl) _ rfl r 23 rfl (fun _ h => rp_dec (h.get 0 rfl))) ?_
                      try simp only [Act.put, List.setIfInBounds_toArray, List.set_cons_zero, List.set_cons_succ]
                      refine plan_take _ _ rfl (yields_inc_neT u.dec hud (by rfl) _ _ _ rfl rfl rfl) ?_
                      try simp only [Act.put, List.setIfInBounds_toArray, List.set_cons_zero, List.set_cons_succ]
                      refine plan_take _ (.bool false) rfl (yields_pickF (by rfl) _ _ _ rfl true rfl _ rfl) ?_
                      try simp only [Act.put, List.setIfInBounds_toArray, List.set_cons_zero, List.set_cons_succ]
                      refine plan_take _ (.bool false) rfl (yields_pickF (by rfl) _ _ _ rfl false rfl _ rfl) ?_
                      try simp only [Act.put, List.setIfInBounds_toArray, List.set_cons_zero, List.set_cons_succ]
                      refine plan_done ?_
                      go_wp2
                      go_roundw
                      case rel => exact ⟨n + 1, u, by omega, by go_num, hP, hE.get 0 rfl, hE.below⟩
                      case measure => simp [intOf]; omega
                  | true =>
                    obtain rfl : u.value = y1 := (hy1 hV).symm
                    clear hy1
                    refine plan_take _ _ rfl (yields_inc u.value (by rfl) _ rfl g1 rfl (fun _ h => h.get 1 rfl)) ?_
                    try simp only [Act.put, List.setIfInBounds_toArray, List.set_cons_zero, List.set_cons_succ]
                    refine plan_take _ (.pointer (some ⟨r, 0, none⟩)) rfl (yields_mv _ (by rfl) _ rfl rfl) ?_
                    try simp only [Act.put, List.setIfInBounds_toArray, List.set_cons_zero, List.set_cons_succ]
                    refine plan_take _ _ rfl (yields_nilc (by rfl) _ rfl _ rfl) ?_
                    try simp only [Act.put, List.setIfInBounds_toArray, List.set_cons_zero, List.set_cons_succ]
                    refine plan_take _ (.pointer (some ⟨r, 15, none⟩)) rfl (.inl ⟨by rfl, fun W hS => by clear hS; go_simp; try with_reducible rfl⟩) ?_
                    try simp only [Act.put, List.setIfInBounds_toArray, List.set_cons_zero, List.set_cons_succ]
                    refine plan_take _ _ rfl (yields_inc_mid u.value (by rfl) _ rfl r 15 rfl (fun _ h => rp_value (h.get 0 rfl))) ?_
                    try simp only [Act.put, List.setIfInBounds_toArray, List.set_cons_zero, List.set_cons_succ]
                    refine plan_take _ _ rfl (yields_inc_neT u.value huv (by rfl) _ _ _ rfl rfl rfl) ?_
                    try simp only [Act.put, List.setIfInBounds_toArray, List.set_cons_zero, List.set_cons_succ]
                    refine plan_take _ (.bool false) rfl (yields_pickF (by rfl) _ _ _ rfl true rfl _ rfl) ?_
                    try simp only [Act.put, List.setIfInBounds_toArray, List.set_cons_zero, List.set_cons_succ]
                    refine plan_take _ (.bool false) rfl (yields_pickF (by rfl) _ _ _ rfl false rfl _ rfl) ?_
                    try simp only [Act.put, List.setIfInBounds_toArray, List.set_cons_zero, List.set_cons_succ]
                    refine plan_take _ (.bool false) rfl (yields_mv _ (by rfl) _ rfl rfl) ?_
                    try simp only [Act.put, List.setIfInBounds_toArray, List.set_cons_zero, List.set_cons_succ]
                    refine plan_take _ (.bool u.hasD) rfl (yields_mv _ (by rfl) _ rfl rfl) ?_
                    try simp only [Act.put, List.setIfInBounds_toArray, List.set_cons_zero, List.set_cons_succ]
                    refine plan_take _ (.pointer (some ⟨r, 0, none⟩)) rfl (yields_mv _ (by rfl) _ rfl rfl) ?_
                    try simp only [Act.put, List.setIfInBounds_toArray, List.set_cons_zero, List.set_cons_succ]
                    refine plan_take _ _ rfl (yields_nilc (by rfl) _ rfl _ rfl) ?_
                    try simp only [Act.put, List.setIfInBounds_toArray, List.set_cons_zero, List.set_cons_succ]
                    refine plan_take _ (.pointer (some ⟨r, 26, none⟩)) rfl (.inl ⟨by rfl, fun W hS => by clear hS; go_simp; try with_reducible rfl⟩) ?_
                    try simp only [Act.put, List.setIfInBounds_toArray, List.set_cons_zero, List.set_cons_succ]
                    iterate 1
                      first
                        | (refine plan_pass _ rfl (by rfl) ?_)
                        | (refine plan_take _ _ rfl (.inl ⟨by rfl, fun W hS => by have z := rp_hasD (hS.get 0 rfl); go_simp; try with_reducible rfl⟩) ?_)
                      try simp only [Act.put, List.setIfInBounds_toArray, List.set_cons_zero, List.set_cons_succ]
                    refine plan_take _ (.bool false) rfl (.inl ⟨by rfl, fun W hS => by clear hS; go_simp; try simp⟩) ?_
                    try simp only [Act.put, List.setIfInBounds_toArray, List.set_cons_zero, List.set_cons_succ]
                    refine plan_take _ (.bool false) rfl (yields_pickF (by rfl) _ _ _ rfl false rfl _ rfl) ?_
                    try simp only [Act.put, List.setIfInBounds_toArray, List.set_cons_zero, List.set_cons_succ]
                    refine plan_take _ (.bool false) rfl (yields_mv _ (by rfl) _ rfl rfl) ?_
                    try simp only [Act.put, List.setIfInBounds_toArray, List.set_cons_zero, List.set_cons_succ]
                    refine plan_take _ (.bool u.hasD) rfl (yields_mv _ (by rfl) _ rfl rfl) ?_
                    try simp only [Act.put, List.setIfInBounds_toArray, List.set_cons_zero, List.set_cons_succ]
                    refine plan_take _ (.bool u.hasD) rfl (yields_mv _ (by rfl) _ rfl rfl) ?_
                    try simp only [Act.put, List.setIfInBounds_toArray, List.set_cons_zero, List.set_cons_succ]
                    cases hD : u.hasD with
                    | false =>
                      clear hy2
                      refine plan_pass _ rfl (by rfl) ?_
                      try simp only [Act.put, List.setIfInBounds_toArray, List.set_cons_zero, List.set_cons_succ]
                      refine plan_pass _ rfl (by rfl) ?_
                      try simp only [Act.put, List.setIfInBounds_toArray, List.set_cons_zero, List.set_cons_succ]
                      refine plan_pass _ rfl (by rfl) ?_
                      try simp only [Act.put, List.setIfInBounds_toArray, List.set_cons_zero, List.set_cons_succ]
                      refine plan_pass _ rfl (by rfl) ?_
                      try simp only [Act.put, List.setIfInBounds_toArray, List.set_cons_zero, List.set_cons_succ]
                      refine plan_pass _ rfl (by rfl) ?_
                      try simp only [Act.put, List.setIfInBounds_toArray, List.set_cons_zero, List.set_cons_succ]
                      refine plan_pass _ rfl (by rfl) ?_
                      try simp only [Act.put, List.setIfInBounds_toArray, List.set_cons_zero, List.set_cons_succ]
                      refine plan_take _ (.bool false) rfl (yields_pickF (by rfl) _ _ _ rfl false rfl _ rfl) ?_
                      try simp only [Act.put, List.setIfInBounds_toArray, List.set_cons_zero, List.set_cons_succ]
                      refine plan_take _ (.bool false) rfl (yields_pickF (by rfl) _ _ _ rfl false rfl _ rfl) ?_
                      try simp only [Act.put, List.setIfInBounds_toArray, List.set_cons_zero, List.set_cons_succ]
                      refine plan_done ?_
                      go_wp2
                      go_roundw
                      case rel => exact ⟨n + 1, u, by omega, by go_num, hP, hE.get 0 rfl, hE.below⟩
                      case measure => simp [intOf]; omega
                    | true =>
                      obtain rfl : u.dec = y2 := (hy2 hD).symm
                      clear hy2
                      refine plan_take _ _ rfl (yields_inc u.dec (by rfl) _ rfl g2 rfl (fun _ h => h.get 2 rfl)) ?_
                      try simp only [Act.put, List.setIfInBounds_toArray, List.set_cons_zero, List.set_cons_succ]
                      refine plan_take _ (.pointer (some ⟨r, 0, none⟩)) rfl (yields_mv _ (by rfl) _ rfl rfl) ?_
                      try simp only [Act.put, List.setIfInBounds_toArray, List.set_cons_zero, List.set_cons_succ]
                      refine plan_take _ _ rfl (yields_nilc (by rfl) _ rfl _ rfl) ?_
                      try simp only [Act.put, List.setIfInBounds_toArray, List.set_cons_zero, List.set_cons_succ]
                      refine plan_take _ (.pointer (some ⟨r, 23, none⟩)) rfl (.inl ⟨by rfl, fun W hS => by clear hS; go_simp; try with_reducible rfl⟩) ?_
                      try simp only [Act.put, List.setIfInBounds_toArray, List.set_cons_zero, List.set_cons_succ]
                      refine plan_take _ _ rfl (yields_inc_mid u.dec (by rfl) _ rfl r 23 rfl (fun _ h => rp_dec (h.get 0 rfl))) ?_
                      try simp only [Act.put, List.setIfInBounds_toArray, List.set_cons_zero, List.set_cons_succ]
                      refine plan_take _ _ rfl (yields_inc_neT u.dec hud (by rfl) _ _ _ rfl rfl rfl) ?_
                      try simp only [Act.put, List.setIfInBounds_toArray, List.set_cons_zero, List.set_cons_succ]
                      refine plan_take _ (.bool false) rfl (yields_pickF (by rfl) _ _ _ rfl true rfl _ rfl) ?_
                      try simp only [Act.put, List.setIfInBounds_toArray, List.set_cons_zero, List.set_cons_succ]
                      refine plan_take _ (.bool false) rfl (yields_pickF (by rfl) _ _ _ rfl false rfl _ rfl) ?_
                      try simp only [Act.put, List.setIfInBounds_toArray, List.set_cons_zero, List.set_cons_succ]
                      refine plan_done ?_
                      go_wp2
                      go_roundw
                      case rel => exact ⟨n + 1, u, by omega, by go_num, hP, hE.get 0 rfl, hE.below⟩
                      case measure => simp [intOf]; omega
                · have hw2I : (2 : Int) < s.what := by omega
                  go_wp2_with ((with_reducible refine at_g0 ?_); first
                    | ((with_reducible refine at_all ?_); first
                      | (refine wpList_alloc_has (by rfl) 36 rfl _ pst_zero ?_; (try simp only [Act.put, List.setIfInBounds_toArray, List.set_cons_zero, List.set_cons_succ]))
                      | (refine alloc_bal (by rfl) rfl ?_; (try simp only [Act.put, List.setIfInBounds_toArray, List.set_cons_zero, List.set_cons_succ])))
                    | ((with_reducible refine at_sto ?_); first
                      | (refine wpList_store_has (by rfl) 36 _ _ rfl wr.heap.size rfl (pstL s).toArray rfl 36 (pstL pst0).toArray (pst_size _) rfl (pst_one _) ?hg ?_; (case hg => exact Has.new _ _ _); rw [hw4]; (try simp only [Act.put, List.setIfInBounds_toArray, List.set_cons_zero, List.set_cons_succ]))
                      | (refine store_bal c0 bal0 (by rfl) _ _ rfl w4.heap.size rfl rfl ?hg ?_; (case hg => exact Has.new _ _ _); rw [hw5]; (try simp only [Act.put, List.setIfInBounds_toArray, List.set_cons_zero, List.set_cons_succ]))
                      | (refine store_bal b c0 (by rfl) _ _ rfl w4.heap.size rfl rfl ?hg ?_; (case hg => exact hB5); rw [hw6]; (try simp only [Act.put, List.setIfInBounds_toArray, List.set_cons_zero, List.set_cons_succ])))
                    | ((with_reducible refine at_loa ?_); first
                      | (refine wpList_load_any (by rfl) 36 _ rfl _ rfl (pstL s) _ ?hg Try.underlying36 rfl (pst_size s) ?_; (case hg => exact hst); (try simp only [Act.put, List.setIfInBounds_toArray, List.set_cons_zero, List.set_cons_succ]))
                      | (refine wpList_load_mid' (by rfl) 31 _ rfl wr.heap.size 3 rfl (balC c0).toList _ ?hg Try.underlying31 rfl (bal_size _) ?_; (case hg => exact rB); (try simp only [Act.put, List.setIfInBounds_toArray, List.set_cons_zero, List.set_cons_succ]))
                      | (refine wpList_load_mid' (by rfl) 31 _ rfl r 4 rfl (balC b).toList _ ?hg Try.underlying31 rfl (bal_size _) ?_; (case hg => exact rR); (try simp only [Act.put, List.setIfInBounds_toArray, List.set_cons_zero, List.set_cons_succ]))))
                  clear hst rB zo zw hw4 hw5 hB5 rR hw6 hS4 hltp hltr hlt4 hlp4 hlr4
                  generalize wr.heap.size = gs at *
                  generalize w4.heap.size = gb at *
                  have hvo := hP.ok
                  obtain ⟨u, res, hu⟩ : ∃ u res, accdM v s.from' b = (u, res) := ⟨_, _, rfl⟩
                  refine wp_region_plan (fun W => Env w W _) (Plan.of [(0, true), (1, true), (2, true), (3, true), (5, true), (6, true), (7, true), (8, true), (4, false), (9, false), (10, true)] .done) (by kernel_rfl) (by kernel_rfl) (by kernel_rfl) (by kernel_rfl) hE.drew ?_
                  replace hE := hE.drew
                  replace hP := hP.drew
                  replace hR := hR.drew
                  generalize wS.drew = wT at *
                  iterate 2
                    first
                      | (refine plan_pass _ rfl (by rfl) ?_)
                      | (refine plan_take _ _ rfl (.inl ⟨by rfl, fun W hS => by clear hS; go_simp; try with_reducible rfl⟩) ?_)
                    try simp only [Act.put, List.setIfInBounds_toArray, List.set_cons_zero, List.set_cons_succ]
                  iterate 1
                    first
                      | (refine plan_pass _ rfl (by rfl) ?_)
                      | (refine plan_take _ _ rfl (.inl ⟨by rfl, fun W hS => by have z := pst_from (hS.get 0 rfl); go_simp; try with_reducible rfl⟩) ?_)
                    try simp only [Act.put, List.setIfInBounds_toArray, List.set_cons_zero, List.set_cons_succ]
                  refine plan_take _ _ rfl (yields_bal b (by rfl) _ rfl gb rfl (fun _ h => h.get 1 rfl)) ?_
                  try simp only [Act.put, List.setIfInBounds_toArray, List.set_cons_zero, List.set_cons_succ]
                  iterate 2
                    first
                      | (refine plan_pass _ rfl (by rfl) ?_)
                      | (refine plan_take _ _ rfl (.inl ⟨by rfl, fun W hS => by clear hS; go_simp; try with_reducible rfl⟩) ?_)
                    try simp only [Act.put, List.setIfInBounds_toArray, List.set_cons_zero, List.set_cons_succ]
                  iterate 1
                    first
                      | (refine plan_pass _ rfl (by rfl) ?_)
                      | (refine plan_take _ _ rfl (.inl ⟨by rfl, fun W hS => by have z := pst_from (hS.get 0 rfl); go_simp; try with_reducible rfl⟩) ?_)
                    try simp only [Act.put, List.setIfInBounds_toArray, List.set_cons_zero, List.set_cons_succ]
                  refine plan_take _ _ rfl (yields_bal b (by rfl) _ rfl gb rfl (fun _ h => h.get 1 rfl)) ?_
                  try simp only [Act.put, List.setIfInBounds_toArray, List.set_cons_zero, List.set_cons_succ]
                  have hk1 := paccepted_is p v s.from' b wT hu hP hs.from' hbo
                  have hk2 := fun W h => raccepted_any r v s.from' b W h hvo hs.from' hbo
                  simp only [hu] at hk2
                  refine plan_run _ rfl (fun K hK => ?_)
                  go_simp
                  refine (hk1).mono ?_
                  rintro e w7 ⟨rfl, hP7, hq⟩
                  replace hR := hq.has hR (Ne.symm hpr)
                  replace hE := hE.but hq hp hAp
                  refine hK.out _ _ hE ?_
                  clear hK K hq hP
                  refine plan_run _ rfl (fun K hK => ?_)
                  go_simp
                  refine (hk2 _ hR).mono ?_
                  rintro e w8 ⟨rfl, hR8, hq⟩
                  replace hP7 := hP7.but hq hpr
                  replace hE := hE.but hq hr hAr
                  refine hK.out _ _ hE ?_
                  clear hK K hq hR
                  refine plan_take _ (.bool false) rfl (.inl ⟨by rfl, fun W hS => by clear hS; go_simp; try simp⟩) ?_
                  try simp only [Act.put, List.setIfInBounds_toArray, List.set_cons_zero, List.set_cons_succ]
                  refine plan_done ?_
                  clear hk1 hk2 hu hvo
                  replace hb := hE.below
                  clear hE hAp hAr
                  have hP := hP7
                  have hR := hR8
                  clear hP7 hR8
                  have hub := hP.ok.b
                  have huv := hP.ok.value
                  have hud := hP.ok.dec
                  go_wp2_with fail
                  refine (pvalue_any p u _ hP).mono ?_
                  rintro e w10 ⟨y1, rfl, _, hy1, hq⟩
                  replace hP := hP.later hq
                  have hE := (Env.start (hb.trans (hq.mono hb.size))).add (hR.later hq)
                  clear hq hR hb
                  obtain ⟨w11, hw11, hY, hq⟩ := new_var w10 23 (incC inc0) (incC y1)
                  replace hP := hP.later hq
                  replace hE := (hE.later hq).add hY
                  clear hq hY
                  go_wp2_with (first
                    | ((with_reducible refine at_all ?_); (refine alloc_inc0 (by rfl) rfl ?_; (try simp only [Act.put, List.setIfInBounds_toArray, List.set_cons_zero, List.set_cons_succ])))
                    | ((with_reducible refine at_sto ?_); (refine store_inc y1 inc0 (by rfl) _ _ rfl w10.heap.size rfl rfl ?hg ?_; (case hg => exact Has.new _ _ _); rw [hw11]; (try simp only [Act.put, List.setIfInBounds_toArray, List.set_cons_zero, List.set_cons_succ]))))
                  clear hw11
                  generalize w10.heap.size = g1 at *
                  refine (pdecided_any p u _ hP).mono ?_
                  rintro e w13 ⟨y2, rfl, _, hy2, hq⟩
                  replace hP := hP.later hq
                  replace hE := hE.later hq
                  clear hq
                  obtain ⟨w14, hw14, hY, hq⟩ := new_var w13 23 (incC inc0) (incC y2)
                  replace hP := hP.later hq
                  replace hE := (hE.later hq).add hY
                  clear hq hY
                  go_wp2_with (first
                    | ((with_reducible refine at_all ?_); (refine alloc_inc0 (by rfl) rfl ?_; (try simp only [Act.put, List.setIfInBounds_toArray, List.set_cons_zero, List.set_cons_succ])))
                    | ((with_reducible refine at_sto ?_); (refine store_inc y2 inc0 (by rfl) _ _ rfl w13.heap.size rfl rfl ?hg ?_; (case hg => exact Has.new _ _ _); rw [hw14]; (try simp only [Act.put, List.setIfInBounds_toArray, List.set_cons_zero, List.set_cons_succ]))))
                  clear hw14
                  generalize w13.heap.size = g2 at *
                  refine wp_region_plan (fun W => Env w W _) (Plan.of [(0, true), (2, true), (3, true), (4, true), (5, true), (1, false), (6, true), (7, true), (8, true), (9, true), (10, true), (11, true), (12, true), (13, true), (14, true), (15, true), (16, true), (17, true), (18, true), (19, true), (20, true), (21, true), (22, true), (23, true), (24, true), (25, true), (26, true), (27, true), (28, true), (29, true), (30, true), (31, true), (32, true), (33, true), (34, true), (35, true), (36, true), (37, true), (38, true), (39, true), (40, true), (41, true), (42, true), (43, true), (44, true)] .done) (by kernel_rfl) (by kernel_rfl) (by kernel_rfl) (by kernel_rfl) hE.drew ?_
                  replace hE := hE.drew
                  replace hP := hP.drew
                  generalize w14.drew = w15 at *
                  refine plan_take _ (.pointer (some ⟨p, 0, none⟩)) rfl (yields_mv _ (by rfl) _ rfl rfl) ?_
                  try simp only [Act.put, List.setIfInBounds_toArray, List.set_cons_zero, List.set_cons_succ]
                  refine plan_take _ (.pointer (some ⟨r, 0, none⟩)) rfl (yields_mv _ (by rfl) _ rfl rfl) ?_
                  try simp only [Act.put, List.setIfInBounds_toArray, List.set_cons_zero, List.set_cons_succ]
                  refine plan_take _ _ rfl (yields_nilc (by rfl) _ rfl _ rfl) ?_
                  try simp only [Act.put, List.setIfInBounds_toArray, List.set_cons_zero, List.set_cons_succ]
                  refine plan_take _ (.pointer (some ⟨r, 4, none⟩)) rfl (.inl ⟨by rfl, fun W hS => by clear hS; go_simp; try with_reducible rfl⟩) ?_
                  try simp only [Act.put, List.setIfInBounds_toArray, List.set_cons_zero, List.set_cons_succ]
                  refine plan_take _ _ rfl (yields_bal_mid u.b (by rfl) _ rfl r 4 rfl (fun _ h => rp_b (h.get 0 rfl))) ?_
                  try simp only [Act.put, List.setIfInBounds_toArray, List.set_cons_zero, List.set_cons_succ]
                  refine plan_run _ rfl (fun K hK => ?_)
                  go_simp
                  refine (pballot_any p u _ hP).mono ?_
                  rintro e w16 ⟨rfl, hq⟩
                  replace hP := hP.later hq
                  replace hE := hE.later hq
                  refine hK.out _ _ hE ?_
                  clear hK K hq
                  refine plan_take _ _ rfl (yields_bal_neT u.b hub (by rfl) _ _ _ rfl rfl rfl) ?_
                  try simp only [Act.put, List.setIfInBounds_toArray, List.set_cons_zero, List.set_cons_succ]
                  refine plan_take _ (.bool false) rfl (yields_mv _ (by rfl) _ rfl rfl) ?_
                  try simp only [Act.put, List.setIfInBounds_toArray, List.set_cons_zero, List.set_cons_succ]
                  refine plan_take _ (.bool u.hasV) rfl (yields_mv _ (by rfl) _ rfl rfl) ?_
                  try simp only [Act.put, List.setIfInBounds_toArray, List.set_cons_zero, List.set_cons_succ]
                  refine plan_take _ (.pointer (some ⟨r, 0, none⟩)) rfl (yields_mv _ (by rfl) _ rfl rfl) ?_
                  try simp only [Act.put, List.setIfInBounds_toArray, List.set_cons_zero, List.set_cons_succ]
                  refine plan_take _ _ rfl (yields_nilc (by rfl) _ rfl _ rfl) ?_
                  try simp only [Act.put, List.setIfInBounds_toArray, List.set_cons_zero, List.set_cons_succ]
                  refine plan_take _ (.pointer (some ⟨r, 18, none⟩)) rfl (.inl ⟨by rfl, fun W hS => by clear hS; go_simp; try with_reducible rfl⟩) ?_
                  try simp only [Act.put, List.setIfInBounds_toArray, List.set_cons_zero, List.set_cons_succ]
                  iterate 1
                    first
                      | (refine plan_pass _ rfl (by rfl) ?_)
                      | (refine plan_take _ _ rfl (.inl ⟨by rfl, fun W hS => by have z := rp_hasV (hS.get 0 rfl); go_simp; try with_reducible rfl⟩) ?_)
                    try simp only [Act.put, List.setIfInBounds_toArray, List.set_cons_zero, List.set_cons_succ]
                  refine plan_take _ (.bool false) rfl (.inl ⟨by rfl, fun W hS => by clear hS; go_simp; try simp⟩) ?_
                  try simp only [Act.put, List.setIfInBounds_toArray, List.set_cons_zero, List.set_cons_succ]
                  refine plan_take _ (.bool false) rfl (yields_pickF (by rfl) _ _ _ rfl false rfl _ rfl) ?_
                  try simp only [Act.put, List.setIfInBounds_toArray, List.set_cons_zero, List.set_cons_succ]
                  refine plan_take _ (.bool false) rfl (yields_mv _ (by rfl) _ rfl rfl) ?_
                  try simp only [Act.put, List.setIfInBounds_toArray, List.set_cons_zero, List.set_cons_succ]
                  refine plan_take _ (.bool u.hasV) rfl (yields_mv _ (by rfl) _ rfl rfl) ?_
                  try simp only [Act.put, List.setIfInBounds_toArray, List.set_cons_zero, List.set_cons_succ]
                  refine plan_take _ (.bool u.hasV) rfl (yields_mv _ (by rfl) _ rfl rfl) ?_
                  try simp only [Act.put, List.setIfInBounds_toArray, List.set_cons_zero, List.set_cons_succ]
                  cases hV : u.hasV with
                  | false =>
                    clear hy1
                    refine plan_pass _ rfl (by rfl) ?_
                    try simp only [Act.put, List.setIfInBounds_toArray, List.set_cons_zero, List.set_cons_succ]
                    refine plan_pass _ rfl (by rfl) ?_
                    try simp only [Act.put, List.setIfInBounds_toArray, List.set_cons_zero, List.set_cons_succ]
                    refine plan_pass _ rfl (by rfl) ?_
                    try simp only [Act.put, List.setIfInBounds_toArray, List.set_cons_zero, List.set_cons_succ]
                    refine plan_pass _ rfl (by rfl) ?_
                    try simp only [Act.put, List.setIfInBounds_toArray, List.set_cons_zero, List.set_cons_succ]
                    refine plan_pass _ rfl (by rfl) ?_
                    try simp only [Act.put, List.setIfInBounds_toArray, List.set_cons_zero, List.set_cons_succ]
                    refine plan_pass _ rfl (by rfl) ?_
                    try simp only [Act.put, List.setIfInBounds_toArray, List.set_cons_zero, List.set_cons_succ]
                    refine plan_take _ (.bool false) rfl (yields_pickF (by rfl) _ _ _ rfl false rfl _ rfl) ?_
                    try simp only [Act.put, List.setIfInBounds_toArray, List.set_cons_zero, List.set_cons_succ]
                    refine plan_take _ (.bool false) rfl (yields_pickF (by rfl) _ _ _ rfl false rfl _ rfl) ?_
                    try simp only [Act.put, List.setIfInBounds_toArray, List.set_cons_zero, List.set_cons_succ]
                    refine plan_take _ (.bool false) rfl (yields_mv _ (by rfl) _ rfl rfl) ?_
                    try simp only [Act.put, List.setIfInBounds_toArray, List.set_cons_zero, List.set_cons_succ]
                    refine plan_take _ (.bool u.hasD) rfl (yields_mv _ (by rfl) _ rfl rfl) ?_
                    try simp only [Act.put, List.setIfInBounds_toArray, List.set_cons_zero, List.set_cons_succ]
                    refine plan_take _ (.pointer (some ⟨r, 0, none⟩)) rfl (yields_mv _ (by rfl) _ rfl rfl) ?_
                    try simp only [Act.put, List.setIfInBounds_toArray, List.set_cons_zero, List.set_cons_succ]
                    refine plan_take _ _ rfl (yields_nilc (by rfl) _ rfl _ rfl) ?_
                    try simp only [Act.put, List.setIfInBounds_toArray, List.set_cons_zero, List.set_cons_succ]
                    refine plan_take _ (.pointer (some ⟨r, 26, none⟩)) rfl (.inl ⟨by rfl, fun W hS => by clear hS; go_simp; try with_reducible rfl⟩) ?_
                    try simp only [Act.put, List.setIfInBounds_toArray, List.set_cons_zero, List.set_cons_succ]
                    iterate 1
                      first
                        | (refine plan_pass _ rfl (by rfl) ?_)
                        | (refine plan_take _ _ rfl (.inl ⟨by rfl, fun W hS => by have z := rp_hasD (hS.get 0 rfl); go_simp; try with_reducible rfl⟩) ?_)
                      try simp only [Act.put, List.setIfInBounds_toArray, List.set_cons_zero, List.set_cons_succ]
                    refine plan_take _ (.bool false) rfl (.inl ⟨by rfl, fun W hS => by clear hS; go_simp; try simp⟩) ?_
                    try simp only [Act.put, List.setIfInBounds_toArray, List.set_cons_zero, List.set_cons_succ]
                    refine plan_take _ (.bool false) rfl (yields_pickF (by rfl) _ _ _ rfl false rfl _ rfl) ?_
                    try simp only [Act.put, List.setIfInBounds_toArray, List.set_cons_zero, List.set_cons_succ]
                    refine plan_take _ (.bool false) rfl (yields_mv _ (by rfl) _ rfl rfl) ?_
                    try simp only [Act.put, List.setIfInBounds_toArray, List.set_cons_zero, List.set_cons_succ]
                    refine plan_take _ (.bool u.hasD) rfl (yields_mv _ (by rfl) _ rfl rfl) ?_
                    try simp only [Act.put, List.setIfInBounds_toArray, List.set_cons_zero, List.set_cons_succ]
                    refine plan_take _ (.bool u.hasD) rfl (yields_mv _ (by rfl) _ rfl rfl) ?_
                    try simp only [Act.put, List.setIfInBounds_toArray, List.set_cons_zero, List.set_cons_succ]
                    cases hD : u.hasD with
                    | false =>
                      clear hy2
                      refine plan_pass _ rfl (by rfl) ?_
                      try simp only [Act.put, List.setIfInBounds_toArray, List.set_cons_zero, List.set_cons_succ]
                      refine plan_pass _ rfl (by rfl) ?_
                      try simp only [Act.put, List.setIfInBounds_toArray, List.set_cons_zero, List.set_cons_succ]
                      refine plan_pass _ rfl (by rfl) ?_
                      try simp only [Act.put, List.setIfInBounds_toArray, List.set_cons_zero, List.set_cons_succ]
                      refine plan_pass _ rfl (by rfl) ?_
                      try simp only [Act.put, List.setIfInBounds_toArray, List.set_cons_zero, List.set_cons_succ]
                      refine plan_pass _ rfl (by rfl) ?_
                      try simp only [Act.put, List.setIfInBounds_toArray, List.set_cons_zero, List.set_cons_succ]
                      refine plan_pass _ rfl (by rfl) ?_
                      try simp only [Act.put, List.setIfInBounds_toArray, List.set_cons_zero, List.set_cons_succ]
                      refine plan_take _ (.bool false) rfl (yields_pickF (by rfl) _ _ _ rfl false rfl _ rfl) ?_
                      try simp only [Act.put, List.setIfInBounds_toArray, List.set_cons_zero, List.set_cons_succ]
                      refine plan_take _ (.bool false) rfl (yields_pickF (by rfl) _ _ _ rfl false rfl _ rfl) ?_
                      try simp only [Act.put, List.setIfInBounds_toArray, List.set_cons_zero, List.set_cons_succ]
                      refine plan_done ?_
                      go_wp2
                      go_roundw
                      case rel => exact ⟨n + 1, u, by omega, by go_num, hP, hE.get 0 rfl, hE.below⟩
                      case measure => simp [intOf]; omega
                    | true =>
                      obtain rfl : u.dec = y2 := (hy2 hD).symm
                      clear hy2
                      refine plan_take _ _ rfl (yields_inc u.dec (by rfl) _ rfl g2 rfl (fun _ h => h.get 2 rfl)) ?_
                      try simp only [Act.put, List.setIfInBounds_toArray, List.set_cons_zero, List.set_cons_succ]
                      refine plan_take _ (.pointer (some ⟨r, 0, none⟩)) rfl (yields_mv _ (by rfl) _ rfl rfl) ?_
                      try simp only [Act.put, List.setIfInBounds_toArray, List.set_cons_zero, List.set_cons_succ]
                      refine plan_take _ _ rfl (yields_nilc (by rfl) _ rfl _ rfl) ?_
                      try simp only [Act.put, List.setIfInBounds_toArray, List.set_cons_zero, List.set_cons_succ]
                      refine plan_take _ (.pointer (some ⟨r, 23, none⟩)) rfl (.inl ⟨by rfl, fun W hS => by clear hS; go_simp; try with_reducible rfl⟩) ?_
                      try simp only [Act.put, List.setIfInBounds_toArray, List.set_cons_zero, List.set_cons_succ]
                      refine plan_take _ _ rfl (yields_inc_mid u.dec (by rfl) _ rfl r 23 rfl (fun _ h => rp_dec (h.get 0 rfl))) ?_
                      try simp only [Act.put, List.setIfInBounds_toArray, List.set_cons_zero, List.set_cons_succ]
                      refine plan_take _ _ rfl (yields_inc_neT u.dec hud (by rfl) _ _ _ rfl rfl rfl) ?_
                      try simp only [Act.put, List.setIfInBounds_toArray, List.set_cons_zero, List.set_cons_succ]
                      refine plan_take _ (.bool false) rfl (yields_pickF (by rfl) _ _ _ rfl true rfl _ rfl) ?_
                      try simp only [Act.put, List.setIfInBounds_toArray, List.set_cons_zero, List.set_cons_succ]
                      refine plan_take _ (.bool false) rfl (yields_pickF (by rfl) _ _ _ rfl false rfl _ rfl) ?_
                      try simp only [Act.put, List.setIfInBounds_toArray, List.set_cons_zero, List.set_cons_succ]
                      refine plan_done ?_
                      go_wp2
                      go_roundw
                      case rel => exact ⟨n + 1, u, by omega, by go_num, hP, hE.get 0 rfl, hE.below⟩
                      case measure => simp [intOf]; omega
                  | true =>
                    obtain rfl : u.value = y1 := (hy1 hV).symm
                    clear hy1
                    refine plan_take _ _ rfl (yields_inc u.value (by rfl) _ rfl g1 rfl (fun _ h => h.get 1 rfl)) ?_
                    try simp only [Act.put, List.setIfInBounds_toArray, List.set_cons_zero, List.set_cons_succ]
                    refine plan_take _ (.pointer (some ⟨r, 0, none⟩)) rfl (yields_mv _ (by rfl) _ rfl rfl) ?_
                    try simp only [Act.put, List.setIfInBounds_toArray, List.set_cons_zero, List.set_cons_succ]
                    refine plan_take _ _ rfl (yields_nilc (by rfl) _ rfl _ rfl) ?_
                    try simp only [Act.put, List.setIfInBounds_toArray, List.set_cons_zero, List.set_cons_succ]
                    refine plan_take _ (.pointer (some ⟨r, 15, none⟩)) rfl (.inl ⟨by rfl, fun W hS => by clear hS; go_simp; try with_reducible rfl⟩) ?_
                    try simp only [Act.put, List.setIfInBounds_toArray, List.set_cons_zero, List.set_cons_succ]
                    refine plan_take _ _ rfl (yields_inc_mid u.value (by rfl) _ rfl r 15 rfl (fun _ h => rp_value (h.get 0 rfl))) ?_
                    try simp only [Act.put, List.setIfInBounds_toArray, List.set_cons_zero, List.set_cons_succ]
                    refine plan_take _ _ rfl (yields_inc_neT u.value huv (by rfl) _ _ _ rfl rfl rfl) ?_
                    try simp only [Act.put, List.setIfInBounds_toArray, List.set_cons_zero, List.set_cons_succ]
                    refine plan_take _ (.bool false) rfl (yields_pickF (by rfl) _ _ _ rfl true rfl _ rfl) ?_
                    try simp only [Act.put, List.setIfInBounds_toArray, List.set_cons_zero, List.set_cons_succ]
                    refine plan_take _ (.bool false) rfl (yields_pickF (by rfl) _ _ _ rfl false rfl _ rfl) ?_
                    try simp only [Act.put, List.setIfInBounds_toArray, List.set_cons_zero, List.set_cons_succ]
                    refine plan_take _ (.bool false) rfl (yields_mv _ (by rfl) _ rfl rfl) ?_
                    try simp only [Act.put, List.setIfInBounds_toArray, List.set_cons_zero, List.set_cons_succ]
                    refine plan_take _ (.bool u.hasD) rfl (yields_mv _ (by rfl) _ rfl rfl) ?_
                    try simp only [Act.put, List.setIfInBounds_toArray, List.set_cons_zero, List.set_cons_succ]
                    refine plan_take _ (.pointer (some ⟨r, 0, none⟩)) rfl (yields_mv _ (by rfl) _ rfl rfl) ?_
                    try simp only [Act.put, List.setIfInBounds_toArray, List.set_cons_zero, List.set_cons_succ]
                    refine plan_take _ _ rfl (yields_nilc (by rfl) _ rfl _ rfl) ?_
                    try simp only [Act.put, List.setIfInBounds_toArray, List.set_cons_zero, List.set_cons_succ]
                    refine plan_take _ (.pointer (some ⟨r, 26, none⟩)) rfl (.inl ⟨by rfl, fun W hS => by clear hS; go_simp; try with_reducible rfl⟩) ?_
                    try simp only [Act.put, List.setIfInBounds_toArray, List.set_cons_zero, List.set_cons_succ]
                    iterate 1
                      first
                        | (refine plan_pass _ rfl (by rfl) ?_)
                        | (refine plan_take _ _ rfl (.inl ⟨by rfl, fun W hS => by have z := rp_hasD (hS.get 0 rfl); go_simp; try with_reducible rfl⟩) ?_)
                      try simp only [Act.put, List.setIfInBounds_toArray, List.set_cons_zero, List.set_cons_succ]
                    refine plan_take _ (.bool false) rfl (.inl ⟨by rfl, fun W hS => by clear hS; go_simp; try simp⟩) ?_
                    try simp only [Act.put, List.setIfInBounds_toArray, List.set_cons_zero, List.set_cons_succ]
                    refine plan_take _ (.bool false) rfl (yields_pickF (by rfl) _ _ _ rfl false rfl _ rfl) ?_
                    try simp only [Act.put, List.setIfInBounds_toArray, List.set_cons_zero, List.set_cons_succ]
                    refine plan_take _ (.bool false) rfl (yields_mv _ (by rfl) _ rfl rfl) ?_
                    try simp only [Act.put, List.setIfInBounds_toArray, List.set_cons_zero, List.set_cons_succ]
                    refine plan_take _ (.bool u.hasD) rfl (yields_mv _ (by rfl) _ rfl rfl) ?_
                    try simp only [Act.put, List.setIfInBounds_toArray, List.set_cons_zero, List.set_cons_succ]
                    refine plan_take _ (.bool u.hasD) rfl (yields_mv _ (by rfl) _ rfl rfl) ?_
                    try simp only [Act.put, List.setIfInBounds_toArray, List.set_cons_zero, List.set_cons_succ]
                    cases hD : u.hasD with
                    | false =>
                      clear hy2
                      refine plan_pass _ rfl (by rfl) ?_
                      try simp only [Act.put, List.setIfInBounds_toArray, List.set_cons_zero, List.set_cons_succ]
                      refine plan_pass _ rfl (by rfl) ?_
                      try simp only [Act.put, List.setIfInBounds_toArray, List.set_cons_zero, List.set_cons_succ]
                      refine plan_pass _ rfl (by rfl) ?_
                      try simp only [Act.put, List.setIfInBounds_toArray, List.set_cons_zero, List.set_cons_succ]
                      refine plan_pass _ rfl (by rfl) ?_
                      try simp only [Act.put, List.setIfInBounds_toArray, List.set_cons_zero, List.set_cons_succ]
                      refine plan_pass _ rfl (by rfl) ?_
                      try simp only [Act.put, List.setIfInBounds_toArray, List.set_cons_zero, List.set_cons_succ]
                      refine plan_pass _ rfl (by rfl) ?_
                      try simp only [Act.put, List.setIfInBounds_toArray, List.set_cons_zero, List.set_cons_succ]
                      refine plan_take _ (.bool false) rfl (yields_pickF (by rfl) _ _ _ rfl false rfl _ rfl) ?_
                      try simp only [Act.put, List.setIfInBounds_toArray, List.set_cons_zero, List.set_cons_succ]
                      refine plan_take _ (.bool false) rfl (yields_pickF (by rfl) _ _ _ rfl false rfl _ rfl) ?_
                      try simp only [Act.put, List.setIfInBounds_toArray, List.set_cons_zero, List.set_cons_succ]
                      refine plan_done ?_
                      go_wp2
                      go_roundw
                      case rel => exact ⟨n + 1, u, by omega, by go_num, hP, hE.get 0 rfl, hE.below⟩
                      case measure => simp [intOf]; omega
                    | true =>
                      obtain rfl : u.dec = y2 := (hy2 hD).symm
                      clear hy2
                      refine plan_take _ _ rfl (yields_inc u.dec (by rfl) _ rfl g2 rfl (fun _ h => h.get 2 rfl)) ?_
                      try simp only [Act.put, List.setIfInBounds_toArray, List.set_cons_zero, List.set_cons_succ]
                      refine plan_take _ (.pointer (some ⟨r, 0, none⟩)) rfl (yields_mv _ (by rfl) _ rfl rfl) ?_
                      try simp only [Act.put, List.setIfInBounds_toArray, List.set_cons_zero, List.set_cons_succ]
                      refine plan_take _ _ rfl (yields_nilc (by rfl) _ rfl _ rfl) ?_
                      try simp only [Act.put, List.setIfInBounds_toArray, List.set_cons_zero, List.set_cons_succ]
                      refine plan_take _ (.pointer (some ⟨r, 23, none⟩)) rfl (.inl ⟨by rfl, fun W hS => by clear hS; go_simp; try with_reducible rfl⟩) ?_
                      try simp only [Act.put, List.setIfInBounds_toArray, List.set_cons_zero, List.set_cons_succ]
                      refine plan_take _ _ rfl (yields_inc_mid u.dec (by rfl) _ rfl r 23 rfl (fun _ h => rp_dec (h.get 0 rfl))) ?_
                      try simp only [Act.put, List.setIfInBounds_toArray, List.set_cons_zero, List.set_cons_succ]
                      refine plan_take _ _ rfl (yields_inc_neT u.dec hud (by rfl) _ _ _ rfl rfl rfl) ?_
                      try simp only [Act.put, List.setIfInBounds_toArray, List.set_cons_zero, List.set_cons_succ]
                      refine plan_take _ (.bool false) rfl (yields_pickF (by rfl) _ _ _ rfl true rfl _ rfl) ?_
                      try simp only [Act.put, List.setIfInBounds_toArray, List.set_cons_zero, List.set_cons_succ]
                      refine plan_take _ (.bool false) rfl (yields_pickF (by rfl) _ _ _ rfl false rfl _ rfl) ?_
                      try simp only [Act.put, List.setIfInBounds_toArray, List.set_cons_zero, List.set_cons_succ]
                      refine plan_done ?_
                      go_wp2
                      go_roundw
                      case rel => exact ⟨n + 1, u, by omega, by go_num, hP, hE.get 0 rfl, hE.below⟩
                      case measure => simp [intOf]; omega
        · have hnI : ¬ (n : Int) < (l.length : Int) := by omega
          have hnI2 : (l.length : Int) ≤ (n : Int) := by omega
          go_wp2
          go_ret
          exact ⟨rfl, hb⟩
  · have hlenI : ¬ (l.length : Int) ≤ 60 := by omega
    have hlenI2 : (60 : Int) < (l.length : Int) := by omega
    go_wp2
    go_ret
    exact ⟨rfl, hb⟩
end Go.Proofs.Ythpmkhbkbpifkaa
