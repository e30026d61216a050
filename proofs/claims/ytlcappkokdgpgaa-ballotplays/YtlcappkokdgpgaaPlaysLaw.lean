/- paddocklaw10.BallotPlays returns true, for whatever row of steps. -/
import Derived.Test.YtlcappkokdgpgaaRisesFacts
import Derived.Test.YtlcappkokdgpgaaRefBal
namespace Go.Proofs.Ytlcappkokdgpgaa
set_option linter.unusedSimpArgs false
set_option linter.unusedVariables false
set_option maxRecDepth 100000
open Go.RowKit

section laws
variable {P : Program} {ops : Array Oper} {rest : List Oper} {o : Oper} {a : Act} {w : World} {Q : Exit → Act → World → Prop} {d : Option Tmp} {op : Op} {t : TypeId} {p : String} {af : Array Edge}
theorem at_open (h : wpList P ops Q (⟨d, op, t, p, af, none⟩ :: rest) a w) : wpList P ops Q (⟨d, op, t, p, af, none⟩ :: rest) a w := h
theorem at_g6t (h : wpList P ops Q (⟨d, op, t, p, af, some (6, true)⟩ :: rest) a w) : wpList P ops Q (⟨d, op, t, p, af, some (6, true)⟩ :: rest) a w := h
theorem at_g10f (h : wpList P ops Q (⟨d, op, t, p, af, some (10, false)⟩ :: rest) a w) : wpList P ops Q (⟨d, op, t, p, af, some (10, false)⟩ :: rest) a w := h
theorem bin_bal_nes (b : BalV) (hb : BalOk b) (hw : Region.wanted o (yielded ops a.tmps) = true) (x y : Operand) (ty' : TypeId) (ho : o.op = .binOp .neq 29 x y ty') (hx : a.eval x = .agg (balC b)) (hy : a.eval y = .agg (balC b))
    (h : wpList Try.prog ops Q rest (a.put o.dst (.bool false)) w) : wpList Try.prog ops Q (o :: rest) a w :=
  bin_bal_ne b b hb hb hw x y ty' ho hx hy (by rw [same_self]; exact h)
theorem bin_inc_nes (b : IncV) (hb : IncOk b) (hw : Region.wanted o (yielded ops a.tmps) = true) (x y : Operand) (ty' : TypeId) (ho : o.op = .binOp .neq 31 x y ty') (hx : a.eval x = .agg (incC b)) (hy : a.eval y = .agg (incC b))
    (h : wpList Try.prog ops Q rest (a.put o.dst (.bool false)) w) : wpList Try.prog ops Q (o :: rest) a w :=
  bin_inc_ne b b hb hb hw x y ty' ho hx hy (by rw [(sameInc_is b b).2 rfl]; exact h)
end laws

theorem step_var_b {w : World} {g : Nat} {t : TypeId} {s : StepV} (h : Has w g t (stepL s).toArray) : w.rangeAt g 1 (balC s.b).toList := h.range 1 _ fun j v hj => by
  match j, hj with
  | 0, hj => exact hj
  | 1, hj => exact hj
theorem step_var_x {w : World} {g : Nat} {t : TypeId} {s : StepV} (h : Has w g t (stepL s).toArray) : w.rangeAt g 3 (incC s.x).toList := h.range 3 _ fun j v hj => by
  match j, hj with
  | 0, hj => exact hj
  | 1, hj => exact hj
  | 2, hj => exact hj

theorem has_acc (a : AccV) (b : BalV) (x : IncV) : hasN (errA a.pro b x) (hasA a) = hasA (accM a b x) := by
  rcases errA_cases a.pro b x with ⟨h1, h2⟩ | ⟨h1, h2, h3, h4⟩ | ⟨h1, h2, h3, h4⟩
  · have : accM a b x = a := by unfold accM; rw [h1]; rfl
    rw [this, h1]; rfl
  · have : accM a b x = a := by unfold accM; rw [h1]; rfl
    rw [this, h1]; rfl
  · have : accM a b x = ⟨b, b, x⟩ := by unfold accM; rw [h1]; rfl
    rw [this, h1, has_of h3]; rfl
theorem has_prep (a : AccV) (b : BalV) : hasA (prepM a b) = hasA a := by
  unfold prepM
  split <;> rfl
theorem prep_told {a : AccV} {b : BalV} (h : errP a.pro b = 0) : tellB a b = a.acc ∧ tellX a b = a.inc ∧ tellH a b = hasA a := by
  unfold tellB tellX tellH
  rw [h]
  exact ⟨rfl, rfl, rfl⟩

set_option maxHeartbeats 16000000 in
theorem plays_walk (ao : Option Addr) (c : Nat) (l : List StepV) (w : World) (hSl : Sl w ao c 6 (stepR l)) (hl : ∀ s ∈ l, StepOk s) :
    Calls Try.prog 3 #[.slice ao l.length c] w fun e w' => e = .returned (.bool true) ∧ Below w.heap.size w w' := by
  have hle := step_le hSl
  have hcap := hSl.cap
  go_enter Try.func3, Try.ntmps3
  go_wp2_with fail
  refine (bknown_any _).mono ?_
  rintro e w1 ⟨rfl, hb⟩
  by_cases hlen : l.length ≤ 60
  · have hlenI : (l.length : Int) ≤ 60 := by omega
    go_wp2_with fail
    refine (bnew_any _).mono ?_
    rintro e w2 ⟨p, rfl, hp, hA, hq⟩
    replace hp : w.heap.size ≤ p := Nat.le_trans hb.size hp
    replace hb := hb.trans (hq.mono hb.size)
    clear hq
    obtain ⟨w3, hw3, hR, hq⟩ := one_var w2 33 (refC acc0 false)
    have hpr : p ≠ w2.heap.size := by have := hA.lt; omega
    have hr : w.heap.size ≤ w2.heap.size := hb.size
    replace hA := hA.later hq
    replace hb := hb.trans (hq.mono hb.size)
    clear hq
    go_wp2_with (first
      | (refine wpList_build_has (by rfl) 33 #[] rfl (refC acc0 false) (by simpa using ref_built0) ?_))
    generalize w2.heap.size = r at *
    clear hw3
    go_loopw [5] (fun i wr => ∃ (n : Nat) (a : AccV), n ≤ l.length ∧ i = .int .i64 n ∧ Has wr p 56 (accC a) ∧ Has wr r 33 (refC a (hasA a)) ∧ AccOk a ∧ Below w.heap.size w wr) (fun i _ => l.length - (intOf i).toNat)
    case atStart => exact ⟨0, acc0, Nat.zero_le _, rfl, hA, hR, acc0_ok, hb⟩
    case round =>
      clear hA hb hR
      obtain ⟨n, a, hn, rfl, hA, hR, ha, hb⟩ := hrel
      by_cases hlt : n < l.length
      · have hnI : (n : Int) < (l.length : Int) := by omega
        cases ao with
        | none => have h1 := hSl.nil rfl; omega
        | some ad =>
          have hst := step_at (hSl.later hb) n hlt
          have hs := hl l[n] (List.getElem_mem hlt)
          generalize l[n] = s at *
          have hltp := hA.lt
          have hltr := hR.lt
          obtain ⟨w4, hw4, hX, hq⟩ := new_var wr 35 (stepL ⟨false, bal0, inc0⟩).toArray (stepL s).toArray
          have hE := ((Env.start hb).later hq).add hX
          have hPp := (Apart.nil p).add (show wr.heap.size ≠ p by omega) 35 (stepL s).toArray
          have hPr := (Apart.nil r).add (show wr.heap.size ≠ r by omega) 35 (stepL s).toArray
          replace hA := hA.later hq
          replace hR := hR.later hq
          have c0 := (hX.cell 0).trans (show _ = some (.bool s.acc) from rfl)
          cases hsa : s.acc with
          | true =>
            rw [hsa] at c0
            go_wp2_with ((with_reducible refine at_open ?_); first
              | (refine wpList_load_any (by rfl) 35 _ rfl _ rfl (stepL s) _ ?hg Try.underlying35 rfl (step_size s) ?_; (case hg => exact hst))
              | (refine wpList_alloc_has (by rfl) 35 rfl _ step_zero ?_)
              | (refine wpList_store_has (by rfl) 35 _ _ rfl wr.heap.size rfl (stepL s).toArray rfl 35 (stepL ⟨false, bal0, inc0⟩).toArray (step_size _) rfl (step_one _) ?hg ?_; (case hg => exact Has.new _ _ _); rw [hw4]))
            clear hw4 hX hq c0 hst hsa
            generalize wr.heap.size = gs at *
            have hk := accept_any p a s.b s.x w4.drew hA.drew ha hs.b hs.x
            have hAok := accM_ok ha hs.b hs.x
            have hha := has_acc a s.b s.x
            have hk2 := fun W h => raccept_any r a (hasA a) s.b s.x W h ha hs.b hs.x
            obtain ⟨E, hEe⟩ : ∃ E, errA a.pro s.b s.x = E := ⟨_, rfl⟩
            obtain ⟨A, hAe⟩ : ∃ A, accM a s.b s.x = A := ⟨_, rfl⟩
            rw [hEe, hAe] at hk
            rw [hEe, hAe] at hha
            simp only [hEe, hAe, hha] at hk2
            rw [hAe] at hAok
            clear hEe hAe hha
            refine wp_region_plan (fun W => Env w W _) (Plan.of [(0, true), (1, true), (2, true), (3, true), (4, true), (6, true), (7, true), (8, true), (9, true), (10, true), (5, false), (11, false), (12, true)] .done) (by kernel_rfl) (by kernel_rfl) (by kernel_rfl) (by kernel_rfl) hE.drew ?_
            iterate 2
              first
                | (refine plan_pass _ rfl (by rfl) ?_)
                | (refine plan_take _ _ rfl (.inl ⟨by rfl, fun W hS => by clear hS; go_simp; try with_reducible rfl⟩) ?_)
              try simp only [Act.put, List.setIfInBounds_toArray, List.set_cons_zero, List.set_cons_succ]
            refine plan_take _ _ rfl (yields_bal_mid s.b (by rfl) _ rfl gs 1 rfl (fun _ h => step_var_b (h.get 0 rfl))) ?_
            try simp only [Act.put, List.setIfInBounds_toArray, List.set_cons_zero, List.set_cons_succ]
            iterate 1
              first
                | (refine plan_pass _ rfl (by rfl) ?_)
                | (refine plan_take _ _ rfl (.inl ⟨by rfl, fun W hS => by clear hS; go_simp; try with_reducible rfl⟩) ?_)
              try simp only [Act.put, List.setIfInBounds_toArray, List.set_cons_zero, List.set_cons_succ]
            refine plan_take _ _ rfl (yields_inc_mid s.x (by rfl) _ rfl gs 3 rfl (fun _ h => step_var_x (h.get 0 rfl))) ?_
            try simp only [Act.put, List.setIfInBounds_toArray, List.set_cons_zero, List.set_cons_succ]
            iterate 2
              first
                | (refine plan_pass _ rfl (by rfl) ?_)
                | (refine plan_take _ _ rfl (.inl ⟨by rfl, fun W hS => by clear hS; go_simp; try with_reducible rfl⟩) ?_)
              try simp only [Act.put, List.setIfInBounds_toArray, List.set_cons_zero, List.set_cons_succ]
            refine plan_take _ _ rfl (yields_bal_mid s.b (by rfl) _ rfl gs 1 rfl (fun _ h => step_var_b (h.get 0 rfl))) ?_
            try simp only [Act.put, List.setIfInBounds_toArray, List.set_cons_zero, List.set_cons_succ]
            iterate 1
              first
                | (refine plan_pass _ rfl (by rfl) ?_)
                | (refine plan_take _ _ rfl (.inl ⟨by rfl, fun W hS => by clear hS; go_simp; try with_reducible rfl⟩) ?_)
              try simp only [Act.put, List.setIfInBounds_toArray, List.set_cons_zero, List.set_cons_succ]
            refine plan_take _ _ rfl (yields_inc_mid s.x (by rfl) _ rfl gs 3 rfl (fun _ h => step_var_x (h.get 0 rfl))) ?_
            try simp only [Act.put, List.setIfInBounds_toArray, List.set_cons_zero, List.set_cons_succ]
            refine plan_run _ rfl (fun K hK => ?_)
            go_simp
            refine hk.mono ?_
            rintro e w5 ⟨rfl, hA5, hq⟩
            replace hR := hq.has hR.drew (Ne.symm hpr)
            replace hE := hE.drew.but hq hp hPp
            refine hK.out _ _ hE ?_
            clear hK K hq hk hA
            refine plan_run _ rfl (fun K hK => ?_)
            go_simp
            refine (hk2 _ hR).mono ?_
            rintro e w6 ⟨rfl, hR6, hq⟩
            replace hA := hq.has hA5 hpr
            replace hE := hE.but hq hr hPr
            refine hK.out _ _ hE ?_
            clear hK K hq hk2 hR hA5
            replace hR := hR6
            replace hb := hE.below
            clear hR6 hE
            iterate 1
              first
                | (refine plan_pass _ rfl (by rfl) ?_)
                | (refine plan_take _ _ rfl (.inl ⟨by rfl, fun W hS => by clear hS; go_simp; try with_reducible rfl⟩) ?_)
              try simp only [Act.put, List.setIfInBounds_toArray, List.set_cons_zero, List.set_cons_succ]
            refine plan_done ?_
            have hk := accepted_any p A w6 hA hAok
            have hlt := hA.lt
            have hltr := hR.lt
            go_wp2_with fail
            refine hk.mono ?_
            rintro e x5 ⟨rfl, hq⟩
            have hE := Env.start (hb.trans (hq.mono hb.size))
            replace hA := hA.later hq
            replace hR := hR.later hq
            clear hk hq hb
            obtain ⟨v1, hv1, hL, hM, v2, hv2, hL2, hM2, hq⟩ := two_filled x5 A.acc A.inc
            replace hE := ((hE.later hq).add hL2).add hM2
            replace hA := hA.later hq
            replace hR := hR.later hq
            clear hq hL2 hM2
            have hS := ((hE.add hA).add hR).drew
            go_wp2_with ((with_reducible refine at_open ?_); first
              | (refine alloc_bal (by rfl) rfl ?_)
              | (refine alloc_inc0 (by rfl) rfl ?_; rw [alloc_sz, hv1])
              | (refine store_bal A.acc bal0 (by rfl) _ _ rfl x5.heap.size rfl rfl ?hg ?_; (case hg => exact hL))
              | (refine store_inc A.inc inc0 (by rfl) _ _ rfl (x5.heap.size + 1) rfl rfl ?hg ?_; (case hg => exact hM); rw [hv2]))
            clear hL hM hv1 hv2 hE hA hR
            refine wp_region_plan (fun W => Env w W _) (Plan.of [(0, true), (2, true), (3, true), (4, true), (5, true), (1, false), (6, true), (7, true), (8, true), (9, true), (10, true), (11, true), (12, true), (13, true), (14, true), (15, true), (16, true), (17, true), (18, true), (19, true), (20, true), (21, true), (22, true), (23, true), (24, true), (25, true), (26, true), (27, true), (28, true), (29, true), (30, true)] .done) (by kernel_rfl) (by kernel_rfl) (by kernel_rfl) (by kernel_rfl) hS ?_
            iterate 4
              first
                | (refine plan_pass _ rfl (by rfl) ?_)
                | (refine plan_take _ _ rfl (.inl ⟨by rfl, fun W hS => by clear hS; go_simp; try with_reducible rfl⟩) ?_)
              try simp only [Act.put, List.setIfInBounds_toArray, List.set_cons_zero, List.set_cons_succ]
            refine plan_take _ _ rfl (yields_bal_mid A.pro (by rfl) _ rfl r 0 rfl (fun _ h => ref_pro (h.get 3 rfl))) ?_
            try simp only [Act.put, List.setIfInBounds_toArray, List.set_cons_zero, List.set_cons_succ]
            refine plan_run _ rfl (fun K hK => ?_)
            go_simp
            refine (promised_any p A _ (hS.get 2 rfl)).mono ?_
            rintro e x6 ⟨rfl, hq⟩
            replace hS := hS.later hq
            refine hK.out _ _ hS ?_
            clear hK K hq
            refine plan_take _ _ rfl (yields_bal_nes A.pro hAok.pro (by rfl) _ _ _ rfl rfl rfl) ?_
            try simp only [Act.put, List.setIfInBounds_toArray, List.set_cons_zero, List.set_cons_succ]
            iterate 1
              first
                | (refine plan_pass _ rfl (by rfl) ?_)
                | (refine plan_take _ _ rfl (.inl ⟨by rfl, fun W hS => by clear hS; go_simp; try with_reducible rfl⟩) ?_)
              try simp only [Act.put, List.setIfInBounds_toArray, List.set_cons_zero, List.set_cons_succ]
            refine plan_take _ _ rfl (yields_bal A.acc (by rfl) _ rfl x5.heap.size rfl (fun _ h => h.get 0 rfl)) ?_
            try simp only [Act.put, List.setIfInBounds_toArray, List.set_cons_zero, List.set_cons_succ]
            iterate 3
              first
                | (refine plan_pass _ rfl (by rfl) ?_)
                | (refine plan_take _ _ rfl (.inl ⟨by rfl, fun W hS => by clear hS; go_simp; try with_reducible rfl⟩) ?_)
              try simp only [Act.put, List.setIfInBounds_toArray, List.set_cons_zero, List.set_cons_succ]
            refine plan_take _ _ rfl (yields_bal_mid A.acc (by rfl) _ rfl r 2 rfl (fun _ h => ref_acc (h.get 3 rfl))) ?_
            try simp only [Act.put, List.setIfInBounds_toArray, List.set_cons_zero, List.set_cons_succ]
            refine plan_take _ _ rfl (yields_bal_nes A.acc hAok.acc (by rfl) _ _ _ rfl rfl rfl) ?_
            try simp only [Act.put, List.setIfInBounds_toArray, List.set_cons_zero, List.set_cons_succ]
            iterate 2
              first
                | (refine plan_pass _ rfl (by rfl) ?_)
                | (refine plan_take _ _ rfl (.inl ⟨by rfl, fun W hS => by clear hS; go_simp; try with_reducible rfl⟩) ?_)
              try simp only [Act.put, List.setIfInBounds_toArray, List.set_cons_zero, List.set_cons_succ]
            refine plan_take _ _ rfl (yields_inc A.inc (by rfl) _ rfl (x5.heap.size + 1) rfl (fun _ h => h.get 1 rfl)) ?_
            try simp only [Act.put, List.setIfInBounds_toArray, List.set_cons_zero, List.set_cons_succ]
            iterate 3
              first
                | (refine plan_pass _ rfl (by rfl) ?_)
                | (refine plan_take _ _ rfl (.inl ⟨by rfl, fun W hS => by clear hS; go_simp; try with_reducible rfl⟩) ?_)
              try simp only [Act.put, List.setIfInBounds_toArray, List.set_cons_zero, List.set_cons_succ]
            refine plan_take _ _ rfl (yields_inc_mid A.inc (by rfl) _ rfl r 4 rfl (fun _ h => ref_inc (h.get 3 rfl))) ?_
            try simp only [Act.put, List.setIfInBounds_toArray, List.set_cons_zero, List.set_cons_succ]
            refine plan_take _ _ rfl (yields_inc_nes A.inc hAok.inc (by rfl) _ _ _ rfl rfl rfl) ?_
            try simp only [Act.put, List.setIfInBounds_toArray, List.set_cons_zero, List.set_cons_succ]
            iterate 6
              first
                | (refine plan_pass _ rfl (by rfl) ?_)
                | (refine plan_take _ _ rfl (.inl ⟨by rfl, fun W hS => by clear hS; go_simp; try with_reducible rfl⟩) ?_)
              try simp only [Act.put, List.setIfInBounds_toArray, List.set_cons_zero, List.set_cons_succ]
            iterate 1
              first
                | (refine plan_pass _ rfl (by rfl) ?_)
                | (refine plan_take _ _ rfl (.inl ⟨by rfl, fun W hS => by have z := ref_has (hS.get 3 rfl); go_simp; try with_reducible rfl⟩) ?_)
              try simp only [Act.put, List.setIfInBounds_toArray, List.set_cons_zero, List.set_cons_succ]
            iterate 2
              first
                | (refine plan_pass _ rfl (by rfl) ?_)
                | (refine plan_take _ _ rfl (.inl ⟨by rfl, fun W hS => by clear hS; go_simp; try with_reducible rfl⟩) ?_)
              try simp only [Act.put, List.setIfInBounds_toArray, List.set_cons_zero, List.set_cons_succ]
            refine plan_done ?_
            go_wp2
            go_roundw
            case rel => exact ⟨n + 1, A, by omega, by go_num, hS.get 2 rfl, hS.get 3 rfl, hAok, hS.below⟩
            case measure => simp [intOf]; omega
          | false =>
            rw [hsa] at c0
            have hk := prepare_any p a s.b w4 hA ha hs.b
            have hAok := prepM_ok (b := s.b) ha hs.b
            have hha := has_prep a s.b
            obtain ⟨E, hEe⟩ : ∃ E, errP a.pro s.b = E := ⟨_, rfl⟩
            obtain ⟨A, hAe⟩ : ∃ A, prepM a s.b = A := ⟨_, rfl⟩
            have hT : E = 0 → tellB a s.b = a.acc ∧ tellX a s.b = a.inc ∧ tellH a s.b = hasA a := fun h => prep_told (hEe.trans h)
            rw [hEe, hAe] at hk
            rw [hAe] at hAok hha
            replace hha : Hid _ := hha
            have hTo := tellB_ok (b := s.b) ha
            have hTx := tellX_ok (b := s.b) ha
            generalize tellB a s.b = TB at *
            generalize tellX a s.b = TX at *
            generalize tellH a s.b = TH at *
            replace hT : Hid _ := hT
            replace hEe : Hid _ := hEe
            replace hAe : Hid _ := hAe
            have hsb := step_var_b hX
            go_wp2_with ((with_reducible refine at_open ?_); first
              | (refine wpList_load_any (by rfl) 35 _ rfl _ rfl (stepL s) _ ?hg Try.underlying35 rfl (step_size s) ?_; (case hg => exact hst))
              | (refine wpList_alloc_has (by rfl) 35 rfl _ step_zero ?_)
              | (refine wpList_store_has (by rfl) 35 _ _ rfl wr.heap.size rfl (stepL s).toArray rfl 35 (stepL ⟨false, bal0, inc0⟩).toArray (step_size _) rfl (step_one _) ?hg ?_; (case hg => exact Has.new _ _ _); rw [hw4])
              | (refine wpList_load_mid' (by rfl) 29 _ rfl wr.heap.size 1 rfl (balC s.b).toList _ ?hg Try.underlying29 rfl (bal_size _) ?_; (case hg => exact hsb)))
            clear hw4 hX hq c0 hst hsa hsb
            generalize wr.heap.size = gs at *
            refine hk.mono ?_
            rintro e w5 ⟨rfl, hA5, hq⟩
            replace hR := hq.has hR (Ne.symm hpr)
            replace hE := hE.but hq hp hPp
            replace hA := hA5
            have hlt5 := hA.lt
            have hlt5r := hR.lt
            clear hk hq hA5
            obtain ⟨v1, hv1, hL, hM, v2, hv2, hL2, hM2, hq⟩ := two_filled w5 TB TX
            replace hE := ((hE.later hq).add hL2).add hM2
            replace hPr := (hPr.add (show w5.heap.size ≠ r by omega) 29 (balC TB)).add (show w5.heap.size + 1 ≠ r by omega) 31 (incC TX)
            replace hA := hA.later hq
            replace hR := hR.later hq
            clear hq hL2 hM2
            go_wp2_with ((with_reducible refine at_open ?_); first
              | (refine alloc_bal (by rfl) rfl ?_)
              | (refine alloc_inc0 (by rfl) rfl ?_; rw [alloc_sz, hv1])
              | (refine store_bal TB bal0 (by rfl) _ _ rfl w5.heap.size rfl rfl ?hg ?_; (case hg => exact hL))
              | (refine store_inc TX inc0 (by rfl) _ _ rfl (w5.heap.size + 1) rfl rfl ?hg ?_; (case hg => exact hM); rw [hv2]))
            clear hL hM hv1 hv2
            obtain ⟨g8, hg8⟩ : ∃ g, g = w5.heap.size + 1 := ⟨_, rfl⟩
            rw [← hg8] at hE hPr ⊢
            clear hg8
            generalize w5.heap.size = g7 at *
            have hF := hE.add hR
            have hltA := hA.lt
            have hltR := hR.lt
            refine wp_region_plan (fun W => Env w W _) (Plan.of [(0, true), (1, true), (2, true), (3, true), (4, true), (5, true), (6, true), (7, true), (8, true), (9, true), (10, true), (11, true)] (.either 12 (Plan.of [(13, false), (14, false), (15, false), (16, true)] .done) 13 (Plan.of [(12, false), (14, false), (15, false), (16, true)] .done))) (by kernel_rfl) (by kernel_rfl) (by kernel_rfl) (by kernel_rfl) hF.drew ?_
            iterate 3
              first
                | (refine plan_pass _ rfl (by rfl) ?_)
                | (refine plan_take _ _ rfl (.inl ⟨by rfl, fun W hS => by clear hS; go_simp; try with_reducible rfl⟩) ?_)
              try simp only [Act.put, List.setIfInBounds_toArray, List.set_cons_zero, List.set_cons_succ]
            refine plan_take _ _ rfl (yields_bal_mid a.acc (by rfl) _ rfl r 2 rfl (fun _ h => ref_acc (h.get 3 rfl))) ?_
            try simp only [Act.put, List.setIfInBounds_toArray, List.set_cons_zero, List.set_cons_succ]
            iterate 3
              first
                | (refine plan_pass _ rfl (by rfl) ?_)
                | (refine plan_take _ _ rfl (.inl ⟨by rfl, fun W hS => by clear hS; go_simp; try with_reducible rfl⟩) ?_)
              try simp only [Act.put, List.setIfInBounds_toArray, List.set_cons_zero, List.set_cons_succ]
            refine plan_take _ _ rfl (yields_inc_mid a.inc (by rfl) _ rfl r 4 rfl (fun _ h => ref_inc (h.get 3 rfl))) ?_
            try simp only [Act.put, List.setIfInBounds_toArray, List.set_cons_zero, List.set_cons_succ]
            iterate 3
              first
                | (refine plan_pass _ rfl (by rfl) ?_)
                | (refine plan_take _ _ rfl (.inl ⟨by rfl, fun W hS => by clear hS; go_simp; try with_reducible rfl⟩) ?_)
              try simp only [Act.put, List.setIfInBounds_toArray, List.set_cons_zero, List.set_cons_succ]
            iterate 1
              first
                | (refine plan_pass _ rfl (by rfl) ?_)
                | (refine plan_take _ _ rfl (.inl ⟨by rfl, fun W hS => by have z := ref_has (hS.get 3 rfl); go_simp; try with_reducible rfl⟩) ?_)
              try simp only [Act.put, List.setIfInBounds_toArray, List.set_cons_zero, List.set_cons_succ]
            replace hE := hE.drew
            replace hF := hF.drew
            replace hA := hA.drew
            replace hR := hR.drew
            replace hltA : p < v2.drew.heap.size := hltA
            replace hltR : r < v2.drew.heap.size := hltR
            generalize v2.drew = wd at *
            have hbs := hF.below.size
            have hn1 := hF.ne (Nat.le_refl wd.heap.size)
            have hn2 := hF.ne (Nat.le_succ wd.heap.size)
            refine plan_either ?_ ?_
            · obtain ⟨v0, hv0, hC0, hD0, hq0⟩ := two_vars wd 29 31 (balC bal0) (incC inc0)
              have hF0 := hF.later hq0
              refine plan_alloc_has _ rfl (by rfl) 29 rfl (balC bal0) bal_zero (hF.alloc _ _) ?_
              try simp only [Act.put, List.setIfInBounds_toArray, List.set_cons_zero, List.set_cons_succ]
              refine plan_alloc_has _ rfl (by rfl) 31 rfl (incC inc0) inc_zero (by rw [hv0]; exact hF0) ?_
              rw [alloc_sz, hv0]
              try simp only [Act.put, List.setIfInBounds_toArray, List.set_cons_zero, List.set_cons_succ]
              have hF1 := hF0.row_other wd.heap.size (by omega) hn1 (balC a.acc)
              have hF2 := hF1.row_other (wd.heap.size + 1) (by omega) hn2 (incC a.inc)
              have hD1 := hD0.row_other (k := wd.heap.size) (by omega) (balC a.acc)
              have hC2 := (hC0.row (balC a.acc)).row_other (k := wd.heap.size + 1) (by omega) (incC a.inc)
              have hD2 := hD1.row (incC a.inc)
              have hA2 := ((hA.later hq0).row_other (k := wd.heap.size) (by omega) (balC a.acc)).row_other (k := wd.heap.size + 1) (by omega) (incC a.inc)
              refine plan_store_has _ rfl (by rfl) 29 _ _ rfl wd.heap.size rfl (balC a.acc) rfl 29 (balC bal0) (bal_size _) rfl (bal_one _) hC0 hF1 ?_
              try simp only [Act.put, List.setIfInBounds_toArray, List.set_cons_zero, List.set_cons_succ]
              refine plan_store_has _ rfl (by rfl) 31 _ _ rfl (wd.heap.size + 1) rfl (incC a.inc) rfl 31 (incC inc0) (inc_size _) rfl (inc_one _) hD1 hF2 ?_
              try simp only [Act.put, List.setIfInBounds_toArray, List.set_cons_zero, List.set_cons_succ]
              iterate 1
                first
                  | (refine plan_pass _ rfl (by rfl) ?_)
                  | (refine plan_take _ _ rfl (.inl ⟨by rfl, fun W hS => by clear hS; go_simp; try with_reducible rfl⟩) ?_)
                try simp only [Act.put, List.setIfInBounds_toArray, List.set_cons_zero, List.set_cons_succ]
              refine plan_done ?_
              have hgy : wd.heap.size ≠ r := by omega
              have hgi : wd.heap.size + 1 ≠ r := by omega
              clear hE hF hA hF0 hF1 hD1 hv0 hC0 hD0 hn1 hn2 hR hq0
              generalize (v0.setRow wd.heap.size (balC a.acc)).setRow (wd.heap.size + 1) (incC a.inc) = x7 at *
              generalize wd.heap.size + 1 = gi at *
              generalize wd.heap.size = gy at *
              have hR := hF2.get 3 rfl
              have hA := hA2
              replace hPr := (hPr.add hgy 29 (balC a.acc)).add hgi 31 (incC a.inc)
              have hE : Env w x7 [(gs, 35, (stepL s).toArray), (g7, 29, balC TB), (g8, 31, incC TX), (gy, 29, balC a.acc), (gi, 31, incC a.inc)] := (((((Env.start hF2.below).add (hF2.get 0 rfl)).add (hF2.get 1 rfl)).add (hF2.get 2 rfl)).add hC2).add hD2
              clear hF2 hA2 hC2 hD2 hgy hgi
              have hk := rprepare_any r a (hasA a) s.b x7 hR ha hs.b
              rw [hEe.out, hAe.out] at hk
              have hsb := step_var_b (hE.get 0 rfl)
              go_wp2_with ((with_reducible refine at_open ?_); first
                | (refine wpList_load_mid' (by rfl) 29 _ rfl gs 1 rfl (balC s.b).toList _ ?hg Try.underlying29 rfl (bal_size _) ?_; (case hg => exact hsb)))
              refine hk.mono ?_
              rintro e x8 ⟨rfl, hR8, hq⟩
              replace hA := hq.has hA (by omega)
              replace hE := hE.but hq hr hPr
              replace hR := hR8
              rw [← hha.out] at hR
              replace hb := hE.below
              clear hk hq hR8 hsb
              by_cases hE0 : E = 0
              · subst hE0
                obtain ⟨rfl, rfl, rfl⟩ := hT.out rfl
                have g1 := hE.get 1 rfl
                have g2 := hE.get 2 rfl
                have g3 := hE.get 3 rfl
                have g4 := hE.get 4 rfl
                have hbb : (hasA a != hasA a) = false := by simp
                go_wp2_with (first
                  | ((with_reducible refine at_g6t ?_); first
                    | (refine load_bal a.acc (by rfl) _ rfl g7 rfl ?hg ?_; (case hg => exact g1))
                    | (refine load_bal a.acc (by rfl) _ rfl gy rfl ?hg ?_; (case hg => exact g3))
                    | (refine bin_bal_nes a.acc ha.acc (by rfl) _ _ _ rfl rfl rfl ?_))
                  | ((with_reducible refine at_g10f ?_); first
                    | (refine load_inc a.inc (by rfl) _ rfl g8 rfl ?hg ?_; (case hg => exact g2))
                    | (refine load_inc a.inc (by rfl) _ rfl gi rfl ?hg ?_; (case hg => exact g4))
                    | (refine bin_inc_nes a.inc ha.inc (by rfl) _ _ _ rfl rfl rfl ?_)))
                clear g1 g2 g3 g4 hE
                have hk := accepted_any p A x8 hA hAok
                have hlt := hA.lt
                have hltr := hR.lt
                go_wp2_with fail
                refine hk.mono ?_
                rintro e x5 ⟨rfl, hq⟩
                have hE := Env.start (hb.trans (hq.mono hb.size))
                replace hA := hA.later hq
                replace hR := hR.later hq
                clear hk hq hb
                obtain ⟨v1, hv1, hL, hM, v2, hv2, hL2, hM2, hq⟩ := two_filled x5 A.acc A.inc
                replace hE := ((hE.later hq).add hL2).add hM2
                replace hA := hA.later hq
                replace hR := hR.later hq
                clear hq hL2 hM2
                have hS := ((hE.add hA).add hR).drew
                go_wp2_with ((with_reducible refine at_open ?_); first
                  | (refine alloc_bal (by rfl) rfl ?_)
                  | (refine alloc_inc0 (by rfl) rfl ?_; rw [alloc_sz, hv1])
                  | (refine store_bal A.acc bal0 (by rfl) _ _ rfl x5.heap.size rfl rfl ?hg ?_; (case hg => exact hL))
                  | (refine store_inc A.inc inc0 (by rfl) _ _ rfl (x5.heap.size + 1) rfl rfl ?hg ?_; (case hg => exact hM); rw [hv2]))
                clear hL hM hv1 hv2 hE hA hR
                refine wp_region_plan (fun W => Env w W _) (Plan.of [(0, true), (2, true), (3, true), (4, true), (5, true), (1, false), (6, true), (7, true), (8, true), (9, true), (10, true), (11, true), (12, true), (13, true), (14, true), (15, true), (16, true), (17, true), (18, true), (19, true), (20, true), (21, true), (22, true), (23, true), (24, true), (25, true), (26, true), (27, true), (28, true), (29, true), (30, true)] .done) (by kernel_rfl) (by kernel_rfl) (by kernel_rfl) (by kernel_rfl) hS ?_
                iterate 4
                  first
                    | (refine plan_pass _ rfl (by rfl) ?_)
                    | (refine plan_take _ _ rfl (.inl ⟨by rfl, fun W hS => by clear hS; go_simp; try with_reducible rfl⟩) ?_)
                  try simp only [Act.put, List.setIfInBounds_toArray, List.set_cons_zero, List.set_cons_succ]
                refine plan_take _ _ rfl (yields_bal_mid A.pro (by rfl) _ rfl r 0 rfl (fun _ h => ref_pro (h.get 3 rfl))) ?_
                try simp only [Act.put, List.setIfInBounds_toArray, List.set_cons_zero, List.set_cons_succ]
                refine plan_run _ rfl (fun K hK => ?_)
                go_simp
                refine (promised_any p A _ (hS.get 2 rfl)).mono ?_
                rintro e x6 ⟨rfl, hq⟩
                replace hS := hS.later hq
                refine hK.out _ _ hS ?_
                clear hK K hq
                refine plan_take _ _ rfl (yields_bal_nes A.pro hAok.pro (by rfl) _ _ _ rfl rfl rfl) ?_
                try simp only [Act.put, List.setIfInBounds_toArray, List.set_cons_zero, List.set_cons_succ]
                iterate 1
                  first
                    | (refine plan_pass _ rfl (by rfl) ?_)
                    | (refine plan_take _ _ rfl (.inl ⟨by rfl, fun W hS => by clear hS; go_simp; try with_reducible rfl⟩) ?_)
                  try simp only [Act.put, List.setIfInBounds_toArray, List.set_cons_zero, List.set_cons_succ]
                refine plan_take _ _ rfl (yields_bal A.acc (by rfl) _ rfl x5.heap.size rfl (fun _ h => h.get 0 rfl)) ?_
                try simp only [Act.put, List.setIfInBounds_toArray, List.set_cons_zero, List.set_cons_succ]
                iterate 3
                  first
                    | (refine plan_pass _ rfl (by rfl) ?_)
                    | (refine plan_take _ _ rfl (.inl ⟨by rfl, fun W hS => by clear hS; go_simp; try with_reducible rfl⟩) ?_)
                  try simp only [Act.put, List.setIfInBounds_toArray, List.set_cons_zero, List.set_cons_succ]
                refine plan_take _ _ rfl (yields_bal_mid A.acc (by rfl) _ rfl r 2 rfl (fun _ h => ref_acc (h.get 3 rfl))) ?_
                try simp only [Act.put, List.setIfInBounds_toArray, List.set_cons_zero, List.set_cons_succ]
                refine plan_take _ _ rfl (yields_bal_nes A.acc hAok.acc (by rfl) _ _ _ rfl rfl rfl) ?_
                try simp only [Act.put, List.setIfInBounds_toArray, List.set_cons_zero, List.set_cons_succ]
                iterate 2
                  first
                    | (refine plan_pass _ rfl (by rfl) ?_)
                    | (refine plan_take _ _ rfl (.inl ⟨by rfl, fun W hS => by clear hS; go_simp; try with_reducible rfl⟩) ?_)
                  try simp only [Act.put, List.setIfInBounds_toArray, List.set_cons_zero, List.set_cons_succ]
                refine plan_take _ _ rfl (yields_inc A.inc (by rfl) _ rfl (x5.heap.size + 1) rfl (fun _ h => h.get 1 rfl)) ?_
                try simp only [Act.put, List.setIfInBounds_toArray, List.set_cons_zero, List.set_cons_succ]
                iterate 3
                  first
                    | (refine plan_pass _ rfl (by rfl) ?_)
                    | (refine plan_take _ _ rfl (.inl ⟨by rfl, fun W hS => by clear hS; go_simp; try with_reducible rfl⟩) ?_)
                  try simp only [Act.put, List.setIfInBounds_toArray, List.set_cons_zero, List.set_cons_succ]
                refine plan_take _ _ rfl (yields_inc_mid A.inc (by rfl) _ rfl r 4 rfl (fun _ h => ref_inc (h.get 3 rfl))) ?_
                try simp only [Act.put, List.setIfInBounds_toArray, List.set_cons_zero, List.set_cons_succ]
                refine plan_take _ _ rfl (yields_inc_nes A.inc hAok.inc (by rfl) _ _ _ rfl rfl rfl) ?_
                try simp only [Act.put, List.setIfInBounds_toArray, List.set_cons_zero, List.set_cons_succ]
                iterate 6
                  first
                    | (refine plan_pass _ rfl (by rfl) ?_)
                    | (refine plan_take _ _ rfl (.inl ⟨by rfl, fun W hS => by clear hS; go_simp; try with_reducible rfl⟩) ?_)
                  try simp only [Act.put, List.setIfInBounds_toArray, List.set_cons_zero, List.set_cons_succ]
                iterate 1
                  first
                    | (refine plan_pass _ rfl (by rfl) ?_)
                    | (refine plan_take _ _ rfl (.inl ⟨by rfl, fun W hS => by have z := ref_has (hS.get 3 rfl); go_simp; try with_reducible rfl⟩) ?_)
                  try simp only [Act.put, List.setIfInBounds_toArray, List.set_cons_zero, List.set_cons_succ]
                iterate 2
                  first
                    | (refine plan_pass _ rfl (by rfl) ?_)
                    | (refine plan_take _ _ rfl (.inl ⟨by rfl, fun W hS => by clear hS; go_simp; try with_reducible rfl⟩) ?_)
                  try simp only [Act.put, List.setIfInBounds_toArray, List.set_cons_zero, List.set_cons_succ]
                refine plan_done ?_
                go_wp2
                go_roundw
                case rel => exact ⟨n + 1, A, by omega, by go_num, hS.get 2 rfl, hS.get 3 rfl, hAok, hS.below⟩
                case measure => simp [intOf]; omega
              · have hEI : (E : Int) ≠ 0 := by omega
                have hEb : ((E : Int) == 0) = false := by rw [beq_eq_false_iff_ne]; exact hEI
                have hEn : ((E : Int) != 0) = true := by rw [bne_iff_ne]; exact hEI
                clear hE
                have hk := accepted_any p A x8 hA hAok
                have hlt := hA.lt
                have hltr := hR.lt
                go_wp2_with fail
                refine hk.mono ?_
                rintro e x5 ⟨rfl, hq⟩
                have hE := Env.start (hb.trans (hq.mono hb.size))
                replace hA := hA.later hq
                replace hR := hR.later hq
                clear hk hq hb
                obtain ⟨v1, hv1, hL, hM, v2, hv2, hL2, hM2, hq⟩ := two_filled x5 A.acc A.inc
                replace hE := ((hE.later hq).add hL2).add hM2
                replace hA := hA.later hq
                replace hR := hR.later hq
                clear hq hL2 hM2
                have hS := ((hE.add hA).add hR).drew
                go_wp2_with ((with_reducible refine at_open ?_); first
                  | (refine alloc_bal (by rfl) rfl ?_)
                  | (refine alloc_inc0 (by rfl) rfl ?_; rw [alloc_sz, hv1])
                  | (refine store_bal A.acc bal0 (by rfl) _ _ rfl x5.heap.size rfl rfl ?hg ?_; (case hg => exact hL))
                  | (refine store_inc A.inc inc0 (by rfl) _ _ rfl (x5.heap.size + 1) rfl rfl ?hg ?_; (case hg => exact hM); rw [hv2]))
                clear hL hM hv1 hv2 hE hA hR
                refine wp_region_plan (fun W => Env w W _) (Plan.of [(0, true), (2, true), (3, true), (4, true), (5, true), (1, false), (6, true), (7, true), (8, true), (9, true), (10, true), (11, true), (12, true), (13, true), (14, true), (15, true), (16, true), (17, true), (18, true), (19, true), (20, true), (21, true), (22, true), (23, true), (24, true), (25, true), (26, true), (27, true), (28, true), (29, true), (30, true)] .done) (by kernel_rfl) (by kernel_rfl) (by kernel_rfl) (by kernel_rfl) hS ?_
                iterate 4
                  first
                    | (refine plan_pass _ rfl (by rfl) ?_)
                    | (refine plan_take _ _ rfl (.inl ⟨by rfl, fun W hS => by clear hS; go_simp; try with_reducible rfl⟩) ?_)
                  try simp only [Act.put, List.setIfInBounds_toArray, List.set_cons_zero, List.set_cons_succ]
                refine plan_take _ _ rfl (yields_bal_mid A.pro (by rfl) _ rfl r 0 rfl (fun _ h => ref_pro (h.get 3 rfl))) ?_
                try simp only [Act.put, List.setIfInBounds_toArray, List.set_cons_zero, List.set_cons_succ]
                refine plan_run _ rfl (fun K hK => ?_)
                go_simp
                refine (promised_any p A _ (hS.get 2 rfl)).mono ?_
                rintro e x6 ⟨rfl, hq⟩
                replace hS := hS.later hq
                refine hK.out _ _ hS ?_
                clear hK K hq
                refine plan_take _ _ rfl (yields_bal_nes A.pro hAok.pro (by rfl) _ _ _ rfl rfl rfl) ?_
                try simp only [Act.put, List.setIfInBounds_toArray, List.set_cons_zero, List.set_cons_succ]
                iterate 1
                  first
                    | (refine plan_pass _ rfl (by rfl) ?_)
                    | (refine plan_take _ _ rfl (.inl ⟨by rfl, fun W hS => by clear hS; go_simp; try with_reducible rfl⟩) ?_)
                  try simp only [Act.put, List.setIfInBounds_toArray, List.set_cons_zero, List.set_cons_succ]
                refine plan_take _ _ rfl (yields_bal A.acc (by rfl) _ rfl x5.heap.size rfl (fun _ h => h.get 0 rfl)) ?_
                try simp only [Act.put, List.setIfInBounds_toArray, List.set_cons_zero, List.set_cons_succ]
                iterate 3
                  first
                    | (refine plan_pass _ rfl (by rfl) ?_)
                    | (refine plan_take _ _ rfl (.inl ⟨by rfl, fun W hS => by clear hS; go_simp; try with_reducible rfl⟩) ?_)
                  try simp only [Act.put, List.setIfInBounds_toArray, List.set_cons_zero, List.set_cons_succ]
                refine plan_take _ _ rfl (yields_bal_mid A.acc (by rfl) _ rfl r 2 rfl (fun _ h => ref_acc (h.get 3 rfl))) ?_
                try simp only [Act.put, List.setIfInBounds_toArray, List.set_cons_zero, List.set_cons_succ]
                refine plan_take _ _ rfl (yields_bal_nes A.acc hAok.acc (by rfl) _ _ _ rfl rfl rfl) ?_
                try simp only [Act.put, List.setIfInBounds_toArray, List.set_cons_zero, List.set_cons_succ]
                iterate 2
                  first
                    | (refine plan_pass _ rfl (by rfl) ?_)
                    | (refine plan_take _ _ rfl (.inl ⟨by rfl, fun W hS => by clear hS; go_simp; try with_reducible rfl⟩) ?_)
                  try simp only [Act.put, List.setIfInBounds_toArray, List.set_cons_zero, List.set_cons_succ]
                refine plan_take _ _ rfl (yields_inc A.inc (by rfl) _ rfl (x5.heap.size + 1) rfl (fun _ h => h.get 1 rfl)) ?_
                try simp only [Act.put, List.setIfInBounds_toArray, List.set_cons_zero, List.set_cons_succ]
                iterate 3
                  first
                    | (refine plan_pass _ rfl (by rfl) ?_)
                    | (refine plan_take _ _ rfl (.inl ⟨by rfl, fun W hS => by clear hS; go_simp; try with_reducible rfl⟩) ?_)
                  try simp only [Act.put, List.setIfInBounds_toArray, List.set_cons_zero, List.set_cons_succ]
                refine plan_take _ _ rfl (yields_inc_mid A.inc (by rfl) _ rfl r 4 rfl (fun _ h => ref_inc (h.get 3 rfl))) ?_
                try simp only [Act.put, List.setIfInBounds_toArray, List.set_cons_zero, List.set_cons_succ]
                refine plan_take _ _ rfl (yields_inc_nes A.inc hAok.inc (by rfl) _ _ _ rfl rfl rfl) ?_
                try simp only [Act.put, List.setIfInBounds_toArray, List.set_cons_zero, List.set_cons_succ]
                iterate 6
                  first
                    | (refine plan_pass _ rfl (by rfl) ?_)
                    | (refine plan_take _ _ rfl (.inl ⟨by rfl, fun W hS => by clear hS; go_simp; try with_reducible rfl⟩) ?_)
                  try simp only [Act.put, List.setIfInBounds_toArray, List.set_cons_zero, List.set_cons_succ]
                iterate 1
                  first
                    | (refine plan_pass _ rfl (by rfl) ?_)
                    | (refine plan_take _ _ rfl (.inl ⟨by rfl, fun W hS => by have z := ref_has (hS.get 3 rfl); go_simp; try with_reducible rfl⟩) ?_)
                  try simp only [Act.put, List.setIfInBounds_toArray, List.set_cons_zero, List.set_cons_succ]
                iterate 2
                  first
                    | (refine plan_pass _ rfl (by rfl) ?_)
                    | (refine plan_take _ _ rfl (.inl ⟨by rfl, fun W hS => by clear hS; go_simp; try with_reducible rfl⟩) ?_)
                  try simp only [Act.put, List.setIfInBounds_toArray, List.set_cons_zero, List.set_cons_succ]
                refine plan_done ?_
                go_wp2
                go_roundw
                case rel => exact ⟨n + 1, A, by omega, by go_num, hS.get 2 rfl, hS.get 3 rfl, hAok, hS.below⟩
                case measure => simp [intOf]; omega
            · obtain ⟨v0, hv0, hD0, hC0, hq0⟩ := two_vars wd 31 29 (incC inc0) (balC bal0)
              have hF0 := hF.later hq0
              refine plan_alloc_has _ rfl (by rfl) 31 rfl (incC inc0) inc_zero (hF.alloc _ _) ?_
              try simp only [Act.put, List.setIfInBounds_toArray, List.set_cons_zero, List.set_cons_succ]
              refine plan_alloc_has _ rfl (by rfl) 29 rfl (balC bal0) bal_zero (by rw [hv0]; exact hF0) ?_
              rw [alloc_sz, hv0]
              try simp only [Act.put, List.setIfInBounds_toArray, List.set_cons_zero, List.set_cons_succ]
              have hF1 := hF0.row_other (wd.heap.size + 1) (by omega) hn2 (balC a.acc)
              have hF2 := hF1.row_other wd.heap.size (by omega) hn1 (incC a.inc)
              have hD1 := hD0.row_other (k := wd.heap.size + 1) (by omega) (balC a.acc)
              have hC2 := (hC0.row (balC a.acc)).row_other (k := wd.heap.size) (by omega) (incC a.inc)
              have hD2 := hD1.row (incC a.inc)
              have hA2 := ((hA.later hq0).row_other (k := wd.heap.size + 1) (by omega) (balC a.acc)).row_other (k := wd.heap.size) (by omega) (incC a.inc)
              refine plan_store_has _ rfl (by rfl) 29 _ _ rfl (wd.heap.size + 1) rfl (balC a.acc) rfl 29 (balC bal0) (bal_size _) rfl (bal_one _) hC0 hF1 ?_
              try simp only [Act.put, List.setIfInBounds_toArray, List.set_cons_zero, List.set_cons_succ]
              refine plan_store_has _ rfl (by rfl) 31 _ _ rfl wd.heap.size rfl (incC a.inc) rfl 31 (incC inc0) (inc_size _) rfl (inc_one _) hD1 hF2 ?_
              try simp only [Act.put, List.setIfInBounds_toArray, List.set_cons_zero, List.set_cons_succ]
              iterate 1
                first
                  | (refine plan_pass _ rfl (by rfl) ?_)
                  | (refine plan_take _ _ rfl (.inl ⟨by rfl, fun W hS => by clear hS; go_simp; try with_reducible rfl⟩) ?_)
                try simp only [Act.put, List.setIfInBounds_toArray, List.set_cons_zero, List.set_cons_succ]
              refine plan_done ?_
              have hgy : wd.heap.size + 1 ≠ r := by omega
              have hgi : wd.heap.size ≠ r := by omega
              clear hE hF hA hF0 hF1 hD1 hv0 hC0 hD0 hn1 hn2 hR hq0
              generalize (v0.setRow (wd.heap.size + 1) (balC a.acc)).setRow wd.heap.size (incC a.inc) = x7 at *
              generalize wd.heap.size + 1 = gy at *
              generalize wd.heap.size = gi at *
              have hR := hF2.get 3 rfl
              have hA := hA2
              replace hPr := (hPr.add hgy 29 (balC a.acc)).add hgi 31 (incC a.inc)
              have hE : Env w x7 [(gs, 35, (stepL s).toArray), (g7, 29, balC TB), (g8, 31, incC TX), (gy, 29, balC a.acc), (gi, 31, incC a.inc)] := (((((Env.start hF2.below).add (hF2.get 0 rfl)).add (hF2.get 1 rfl)).add (hF2.get 2 rfl)).add hC2).add hD2
              clear hF2 hA2 hC2 hD2 hgy hgi
              have hk := rprepare_any r a (hasA a) s.b x7 hR ha hs.b
              rw [hEe.out, hAe.out] at hk
              have hsb := step_var_b (hE.get 0 rfl)
              go_wp2_with ((with_reducible refine at_open ?_); first
                | (refine wpList_load_mid' (by rfl) 29 _ rfl gs 1 rfl (balC s.b).toList _ ?hg Try.underlying29 rfl (bal_size _) ?_; (case hg => exact hsb)))
              refine hk.mono ?_
              rintro e x8 ⟨rfl, hR8, hq⟩
              replace hA := hq.has hA (by omega)
              replace hE := hE.but hq hr hPr
              replace hR := hR8
              rw [← hha.out] at hR
              replace hb := hE.below
              clear hk hq hR8 hsb
              by_cases hE0 : E = 0
              · subst hE0
                obtain ⟨rfl, rfl, rfl⟩ := hT.out rfl
                have g1 := hE.get 1 rfl
                have g2 := hE.get 2 rfl
                have g3 := hE.get 3 rfl
                have g4 := hE.get 4 rfl
                have hbb : (hasA a != hasA a) = false := by simp
                go_wp2_with (first
                  | ((with_reducible refine at_g6t ?_); first
                    | (refine load_bal a.acc (by rfl) _ rfl g7 rfl ?hg ?_; (case hg => exact g1))
                    | (refine load_bal a.acc (by rfl) _ rfl gy rfl ?hg ?_; (case hg => exact g3))
                    | (refine bin_bal_nes a.acc ha.acc (by rfl) _ _ _ rfl rfl rfl ?_))
                  | ((with_reducible refine at_g10f ?_); first
                    | (refine load_inc a.inc (by rfl) _ rfl g8 rfl ?hg ?_; (case hg => exact g2))
                    | (refine load_inc a.inc (by rfl) _ rfl gi rfl ?hg ?_; (case hg => exact g4))
                    | (refine bin_inc_nes a.inc ha.inc (by rfl) _ _ _ rfl rfl rfl ?_)))
                clear g1 g2 g3 g4 hE
                have hk := accepted_any p A x8 hA hAok
                have hlt := hA.lt
                have hltr := hR.lt
                go_wp2_with fail
                refine hk.mono ?_
                rintro e x5 ⟨rfl, hq⟩
                have hE := Env.start (hb.trans (hq.mono hb.size))
                replace hA := hA.later hq
                replace hR := hR.later hq
                clear hk hq hb
                obtain ⟨v1, hv1, hL, hM, v2, hv2, hL2, hM2, hq⟩ := two_filled x5 A.acc A.inc
                replace hE := ((hE.later hq).add hL2).add hM2
                replace hA := hA.later hq
                replace hR := hR.later hq
                clear hq hL2 hM2
                have hS := ((hE.add hA).add hR).drew
                go_wp2_with ((with_reducible refine at_open ?_); first
                  | (refine alloc_bal (by rfl) rfl ?_)
                  | (refine alloc_inc0 (by rfl) rfl ?_; rw [alloc_sz, hv1])
                  | (refine store_bal A.acc bal0 (by rfl) _ _ rfl x5.heap.size rfl rfl ?hg ?_; (case hg => exact hL))
                  | (refine store_inc A.inc inc0 (by rfl) _ _ rfl (x5.heap.size + 1) rfl rfl ?hg ?_; (case hg => exact hM); rw [hv2]))
                clear hL hM hv1 hv2 hE hA hR
                refine wp_region_plan (fun W => Env w W _) (Plan.of [(0, true), (2, true), (3, true), (4, true), (5, true), (1, false), (6, true), (7, true), (8, true), (9, true), (10, true), (11, true), (12, true), (13, true), (14, true), (15, true), (16, true), (17, true), (18, true), (19, true), (20, true), (21, true), (22, true), (23, true), (24, true), (25, true), (26, true), (27, true), (28, true), (29, true), (30, true)] .done) (by kernel_rfl) (by kernel_rfl) (by kernel_rfl) (by kernel_rfl) hS ?_
                iterate 4
                  first
                    | (refine plan_pass _ rfl (by rfl) ?_)
                    | (refine plan_take _ _ rfl (.inl ⟨by rfl, fun W hS => by clear hS; go_simp; try with_reducible rfl⟩) ?_)
                  try simp only [Act.put, List.setIfInBounds_toArray, List.set_cons_zero, List.set_cons_succ]
                refine plan_take _ _ rfl (yields_bal_mid A.pro (by rfl) _ rfl r 0 rfl (fun _ h => ref_pro (h.get 3 rfl))) ?_
                try simp only [Act.put, List.setIfInBounds_toArray, List.set_cons_zero, List.set_cons_succ]
                refine plan_run _ rfl (fun K hK => ?_)
                go_simp
                refine (promised_any p A _ (hS.get 2 rfl)).mono ?_
                rintro e x6 ⟨rfl, hq⟩
                replace hS := hS.later hq
                refine hK.out _ _ hS ?_
                clear hK K hq
                refine plan_take _ _ rfl (yields_bal_nes A.pro hAok.pro (by rfl) _ _ _ rfl rfl rfl) ?_
                try simp only [Act.put, List.setIfInBounds_toArray, List.set_cons_zero, List.set_cons_succ]
                iterate 1
                  first
                    | (refine plan_pass _ rfl (by rfl) ?_)
                    | (refine plan_take _ _ rfl (.inl ⟨by rfl, fun W hS => by clear hS; go_simp; try with_reducible rfl⟩) ?_)
                  try simp only [Act.put, List.setIfInBounds_toArray, List.set_cons_zero, List.set_cons_succ]
                refine plan_take _ _ rfl (yields_bal A.acc (by rfl) _ rfl x5.heap.size rfl (fun _ h => h.get 0 rfl)) ?_
                try simp only [Act.put, List.setIfInBounds_toArray, List.set_cons_zero, List.set_cons_succ]
                iterate 3
                  first
                    | (refine plan_pass _ rfl (by rfl) ?_)
                    | (refine plan_take _ _ rfl (.inl ⟨by rfl, fun W hS => by clear hS; go_simp; try with_reducible rfl⟩) ?_)
                  try simp only [Act.put, List.setIfInBounds_toArray, List.set_cons_zero, List.set_cons_succ]
                refine plan_take _ _ rfl (yields_bal_mid A.acc (by rfl) _ rfl r 2 rfl (fun _ h => ref_acc (h.get 3 rfl))) ?_
                try simp only [Act.put, List.setIfInBounds_toArray, List.set_cons_zero, List.set_cons_succ]
                refine plan_take _ _ rfl (yields_bal_nes A.acc hAok.acc (by rfl) _ _ _ rfl rfl rfl) ?_
                try simp only [Act.put, List.setIfInBounds_toArray, List.set_cons_zero, List.set_cons_succ]
                iterate 2
                  first
                    | (refine plan_pass _ rfl (by rfl) ?_)
                    | (refine plan_take _ _ rfl (.inl ⟨by rfl, fun W hS => by clear hS; go_simp; try with_reducible rfl⟩) ?_)
                  try simp only [Act.put, List.setIfInBounds_toArray, List.set_cons_zero, List.set_cons_succ]
                refine plan_take _ _ rfl (yields_inc A.inc (by rfl) _ rfl (x5.heap.size + 1) rfl (fun _ h => h.get 1 rfl)) ?_
                try simp only [Act.put, List.setIfInBounds_toArray, List.set_cons_zero, List.set_cons_succ]
                iterate 3
                  first
                    | (refine plan_pass _ rfl (by rfl) ?_)
                    | (refine plan_take _ _ rfl (.inl ⟨by rfl, fun W hS => by clear hS; go_simp; try with_reducible rfl⟩) ?_)
                  try simp only [Act.put, List.setIfInBounds_toArray, List.set_cons_zero, List.set_cons_succ]
                refine plan_take _ _ rfl (yields_inc_mid A.inc (by rfl) _ rfl r 4 rfl (fun _ h => ref_inc (h.get 3 rfl))) ?_
                try simp only [Act.put, List.setIfInBounds_toArray, List.set_cons_zero, List.set_cons_succ]
                refine plan_take _ _ rfl (yields_inc_nes A.inc hAok.inc (by rfl) _ _ _ rfl rfl rfl) ?_
                try simp only [Act.put, List.setIfInBounds_toArray, List.set_cons_zero, List.set_cons_succ]
                iterate 6
                  first
                    | (refine plan_pass _ rfl (by rfl) ?_)
                    | (refine plan_take _ _ rfl (.inl ⟨by rfl, fun W hS => by clear hS; go_simp; try with_reducible rfl⟩) ?_)
                  try simp only [Act.put, List.setIfInBounds_toArray, List.set_cons_zero, List.set_cons_succ]
                iterate 1
                  first
                    | (refine plan_pass _ rfl (by rfl) ?_)
                    | (refine plan_take _ _ rfl (.inl ⟨by rfl, fun W hS => by have z := ref_has (hS.get 3 rfl); go_simp; try with_reducible rfl⟩) ?_)
                  try simp only [Act.put, List.setIfInBounds_toArray, List.set_cons_zero, List.set_cons_succ]
                iterate 2
                  first
                    | (refine plan_pass _ rfl (by rfl) ?_)
                    | (refine plan_take _ _ rfl (.inl ⟨by rfl, fun W hS => by clear hS; go_simp; try with_reducible rfl⟩) ?_)
                  try simp only [Act.put, List.setIfInBounds_toArray, List.set_cons_zero, List.set_cons_succ]
                refine plan_done ?_
                go_wp2
                go_roundw
                case rel => exact ⟨n + 1, A, by omega, by go_num, hS.get 2 rfl, hS.get 3 rfl, hAok, hS.below⟩
                case measure => simp [intOf]; omega
              · have hEI : (E : Int) ≠ 0 := by omega
                have hEb : ((E : Int) == 0) = false := by rw [beq_eq_false_iff_ne]; exact hEI
                have hEn : ((E : Int) != 0) = true := by rw [bne_iff_ne]; exact hEI
                clear hE
                have hk := accepted_any p A x8 hA hAok
                have hlt := hA.lt
                have hltr := hR.lt
                go_wp2_with fail
                refine hk.mono ?_
                rintro e x5 ⟨rfl, hq⟩
                have hE := Env.start (hb.trans (hq.mono hb.size))
                replace hA := hA.later hq
                replace hR := hR.later hq
                clear hk hq hb
                obtain ⟨v1, hv1, hL, hM, v2, hv2, hL2, hM2, hq⟩ := two_filled x5 A.acc A.inc
                replace hE := ((hE.later hq).add hL2).add hM2
                replace hA := hA.later hq
                replace hR := hR.later hq
                clear hq hL2 hM2
                have hS := ((hE.add hA).add hR).drew
                go_wp2_with ((with_reducible refine at_open ?_); first
                  | (refine alloc_bal (by rfl) rfl ?_)
                  | (refine alloc_inc0 (by rfl) rfl ?_; rw [alloc_sz, hv1])
                  | (refine store_bal A.acc bal0 (by rfl) _ _ rfl x5.heap.size rfl rfl ?hg ?_; (case hg => exact hL))
                  | (refine store_inc A.inc inc0 (by rfl) _ _ rfl (x5.heap.size + 1) rfl rfl ?hg ?_; (case hg => exact hM); rw [hv2]))
                clear hL hM hv1 hv2 hE hA hR
                refine wp_region_plan (fun W => Env w W _) (Plan.of [(0, true), (2, true), (3, true), (4, true), (5, true), (1, false), (6, true), (7, true), (8, true), (9, true), (10, true), (11, true), (12, true), (13, true), (14, true), (15, true), (16, true), (17, true), (18, true), (19, true), (20, true), (21, true), (22, true), (23, true), (24, true), (25, true), (26, true), (27, true), (28, true), (29, true), (30, true)] .done) (by kernel_rfl) (by kernel_rfl) (by kernel_rfl) (by kernel_rfl) hS ?_
                iterate 4
                  first
                    | (refine plan_pass _ rfl (by rfl) ?_)
                    | (refine plan_take _ _ rfl (.inl ⟨by rfl, fun W hS => by clear hS; go_simp; try with_reducible rfl⟩) ?_)
                  try simp only [Act.put, List.setIfInBounds_toArray, List.set_cons_zero, List.set_cons_succ]
                refine plan_take _ _ rfl (yields_bal_mid A.pro (by rfl) _ rfl r 0 rfl (fun _ h => ref_pro (h.get 3 rfl))) ?_
                try simp only [Act.put, List.setIfInBounds_toArray, List.set_cons_zero, List.set_cons_succ]
                refine plan_run _ rfl (fun K hK => ?_)
                go_simp
                refine (promised_any p A _ (hS.get 2 rfl)).mono ?_
                rintro e x6 ⟨rfl, hq⟩
                replace hS := hS.later hq
                refine hK.out _ _ hS ?_
                clear hK K hq
                refine plan_take _ _ rfl (yields_bal_nes A.pro hAok.pro (by rfl) _ _ _ rfl rfl rfl) ?_
                try simp only [Act.put, List.setIfInBounds_toArray, List.set_cons_zero, List.set_cons_succ]
                iterate 1
                  first
                    | (refine plan_pass _ rfl (by rfl) ?_)
                    | (refine plan_take _ _ rfl (.inl ⟨by rfl, fun W hS => by clear hS; go_simp; try with_reducible rfl⟩) ?_)
                  try simp only [Act.put, List.setIfInBounds_toArray, List.set_cons_zero, List.set_cons_succ]
                refine plan_take _ _ rfl (yields_bal A.acc (by rfl) _ rfl x5.heap.size rfl (fun _ h => h.get 0 rfl)) ?_
                try simp only [Act.put, List.setIfInBounds_toArray, List.set_cons_zero, List.set_cons_succ]
                iterate 3
                  first
                    | (refine plan_pass _ rfl (by rfl) ?_)
                    | (refine plan_take _ _ rfl (.inl ⟨by rfl, fun W hS => by clear hS; go_simp; try with_reducible rfl⟩) ?_)
                  try simp only [Act.put, List.setIfInBounds_toArray, List.set_cons_zero, List.set_cons_succ]
                refine plan_take _ _ rfl (yields_bal_mid A.acc (by rfl) _ rfl r 2 rfl (fun _ h => ref_acc (h.get 3 rfl))) ?_
                try simp only [Act.put, List.setIfInBounds_toArray, List.set_cons_zero, List.set_cons_succ]
                refine plan_take _ _ rfl (yields_bal_nes A.acc hAok.acc (by rfl) _ _ _ rfl rfl rfl) ?_
                try simp only [Act.put, List.setIfInBounds_toArray, List.set_cons_zero, List.set_cons_succ]
                iterate 2
                  first
                    | (refine plan_pass _ rfl (by rfl) ?_)
                    | (refine plan_take _ _ rfl (.inl ⟨by rfl, fun W hS => by clear hS; go_simp; try with_reducible rfl⟩) ?_)
                  try simp only [Act.put, List.setIfInBounds_toArray, List.set_cons_zero, List.set_cons_succ]
                refine plan_take _ _ rfl (yields_inc A.inc (by rfl) _ rfl (x5.heap.size + 1) rfl (fun _ h => h.get 1 rfl)) ?_
                try simp only [Act.put, List.setIfInBounds_toArray, List.set_cons_zero, List.set_cons_succ]
                iterate 3
                  first
                    | (refine plan_pass _ rfl (by rfl) ?_)
                    | (refine plan_take _ _ rfl (.inl ⟨by rfl, fun W hS => by clear hS; go_simp; try with_reducible rfl⟩) ?_)
                  try simp only [Act.put, List.setIfInBounds_toArray, List.set_cons_zero, List.set_cons_succ]
                refine plan_take _ _ rfl (yields_inc_mid A.inc (by rfl) _ rfl r 4 rfl (fun _ h => ref_inc (h.get 3 rfl))) ?_
                try simp only [Act.put, List.setIfInBounds_toArray, List.set_cons_zero, List.set_cons_succ]
                refine plan_take _ _ rfl (yields_inc_nes A.inc hAok.inc (by rfl) _ _ _ rfl rfl rfl) ?_
                try simp only [Act.put, List.setIfInBounds_toArray, List.set_cons_zero, List.set_cons_succ]
                iterate 6
                  first
                    | (refine plan_pass _ rfl (by rfl) ?_)
                    | (refine plan_take _ _ rfl (.inl ⟨by rfl, fun W hS => by clear hS; go_simp; try with_reducible rfl⟩) ?_)
                  try simp only [Act.put, List.setIfInBounds_toArray, List.set_cons_zero, List.set_cons_succ]
                iterate 1
                  first
                    | (refine plan_pass _ rfl (by rfl) ?_)
                    | (refine plan_take _ _ rfl (.inl ⟨by rfl, fun W hS => by have z := ref_has (hS.get 3 rfl); go_simp; try with_reducible rfl⟩) ?_)
                  try simp only [Act.put, List.setIfInBounds_toArray, List.set_cons_zero, List.set_cons_succ]
                iterate 2
                  first
                    | (refine plan_pass _ rfl (by rfl) ?_)
                    | (refine plan_take _ _ rfl (.inl ⟨by rfl, fun W hS => by clear hS; go_simp; try with_reducible rfl⟩) ?_)
                  try simp only [Act.put, List.setIfInBounds_toArray, List.set_cons_zero, List.set_cons_succ]
                refine plan_done ?_
                go_wp2
                go_roundw
                case rel => exact ⟨n + 1, A, by omega, by go_num, hS.get 2 rfl, hS.get 3 rfl, hAok, hS.below⟩
                case measure => simp [intOf]; omega
      · have hnI : (l.length : Int) ≤ (n : Int) := by omega
        go_wp2
        go_ret
        exact ⟨rfl, hb⟩
  · have hlenI : (60 : Int) < (l.length : Int) := by omega
    go_wp2
    go_ret
    exact ⟨rfl, hb⟩
end Go.Proofs.Ytlcappkokdgpgaa
