/- paddocklaw3.MapsFold returns true, for whatever row of increments, where package maps answers as it has to. -/
import Derived.Test.YtoffbjdoampebaaMapRun
import Derived.Test.YtoffbjdoampebaaPlanMem
import Derived.Laws.AppendOwnNone
namespace Go.Proofs.Ytoffbjdoampebaa
set_option linter.unusedSimpArgs false
set_option linter.unusedVariables false
open Go.RowKit

/-- A copy of a row of increments, in a plain region. -/
theorem wpList_copy_incs (w : World) {ops : Array Oper} {rest : List Oper} {o : Oper} {a : Act} {Q : Exit → Act → World → Prop} (s x : Operand)
    (ho : o.op = Op.call { callee := Callee.builtin Builtin.append, args := #[s, x], argTypes := #[43, 43] })
    (hgd : o.guard = none) (ao : Option Addr) (c : Nat) (xs : List IncV) (hs : a.eval s = .slice none 0 0) (hx : a.eval x = .slice ao xs.length c) (h : Sl w ao c 3 (xs.map fun x => (incC x).toList)) (hl : xs.length ≤ 1000000)
    (hK : ∀ ao' c' w', Sl w' ao' c' 3 (xs.map fun x => (incC x).toList) → Below w.heap.size w w' → wpList Try.prog ops Q rest (a.put o.dst (.slice ao' xs.length c')) w') :
    wpList Try.prog ops Q (o :: rest) a w := by
  obtain ⟨i0, hi, hz0, hz1, hz2⟩ := info_parts Try.infoInc
  refine wpList_plain hgd fun K hK' => ?_
  have run : ∃ v w', (Builtin.append_ #[43, 43] o.type #[.slice none 0 0, .slice ao xs.length c]).run Try.prog w = .ok v w' ∧ w'.ownsRow w.heap.size 29 3 v xs.length ((xs.map fun x => (incC x).toList).flatten) ∧ w.grownBy w' none := by
    cases ao with
    | none =>
      have hc := h.nil rfl
      have h0 : xs = [] := by have := h.le; rw [List.length_map] at this; exact List.eq_nil_of_length_eq_zero (by omega)
      subst h0 hc
      exact ⟨.slice none 0 0, w, run_append_owned_none (P := Try.prog) (w := w) w.heap.size 43 o.type 29 i0 3 Try.underlying43 hi (.slice none 0 0) 0 [] (World.ownsRow_nil _ _ _ _), World.ownsRow_nil _ _ _ _, World.grownBy.refl _ _⟩
    | some ad =>
      obtain ⟨v, w', hr, ho, hg, _⟩ := run_append_own (P := Try.prog) w w.heap.size 43 o.type 29 i0 (.agg #[.int .u8 0, .int .u8 0, .int .i64 0]) 3 16 Try.underlying43 hi hz0 hz1 hz2 rfl (by decide) (.slice none 0 0) 0 [] (World.ownsRow_nil _ _ _ _) ad xs.length c ((xs.map fun x => (incC x).toList).flatten) (flat_len xs) (sl_flat h) (flat_one xs) (by unfold maxLen; omega) (by omega) (Nat.le_refl _)
      rw [Nat.zero_add, List.nil_append] at ho
      exact ⟨v, w', hr, ho, hg⟩
  obtain ⟨v, w', hr, hown, hgr⟩ := run
  obtain ⟨_, ao', c', rfl, hB⟩ := sl_own hown
  have hb : Below w.heap.size w w' := (Below.refl _ _).grown hgr (Nat.le_refl _) (by intro k hk; cases hk)
  unfold Oper.wp
  simp [execOp, ho, resolve, invoke, builtin, hs, hx, hr, Result.andThen]
  exact hK' _ _ (hK ao' c' w' hB hb)

theorem foldFrom_epoch : ∀ (xs : List IncV) (m : MapV), (foldFrom m xs).2 = true → (foldFrom m xs).1.epoch = m.epoch + xs.length
  | [], m, _ => rfl
  | x :: xs, m, h => by
    have h : (if okA m x then foldFrom (nextM m x) xs else (zeroM, false)).2 = true := h
    show (if okA m x then foldFrom (nextM m x) xs else (zeroM, false)).1.epoch = _
    by_cases hk : okA m x = true
    · rw [if_pos hk] at h ⊢
      rw [foldFrom_epoch xs _ h]
      show m.epoch + 1 + xs.length = m.epoch + (xs.length + 1)
      omega
    · rw [if_neg hk] at h
      cases h

theorem foldFrom_ok : ∀ (xs : List IncV) (m : MapV), MapOk m → (∀ x ∈ xs, IncOk x) → MapOk (foldFrom m xs).1
  | [], m, hm, _ => hm
  | x :: xs, m, hm, hx => by
    show MapOk (if okA m x then foldFrom (nextM m x) xs else (zeroM, false)).1
    by_cases hk : okA m x = true
    · rw [if_pos hk]
      exact foldFrom_ok xs _ (next_ok hm (hx x (List.mem_cons_self ..)) (okA_epoch hk)) (fun y hy => hx y (List.mem_cons_of_mem _ hy))
    · rw [if_neg hk]
      exact zeroM_ok

/-- What the loop knows: what is left to fold comes to what all of it comes to. -/
def LeftTo (b : MapV) (ok : Bool) (xs : List IncV) (i : Nat) : Prop := MapOk b ∧ match ok with | true => foldFrom b (xs.drop i) = foldM xs | false => foldM xs = (zeroM, false)

theorem left_next {b : MapV} {xs : List IncV} {n : Nat} (h : LeftTo b true xs n) (hlt : n < xs.length) (hx : IncOk xs[n]) : LeftTo (applyM b xs[n]) (okA b xs[n]) xs (n + 1) := by
  obtain ⟨h1, h2⟩ := h
  have h2 : foldFrom b (xs.drop n) = foldM xs := h2
  rw [foldFrom_drop hlt] at h2
  unfold applyM
  cases hk : okA b xs[n] with
  | false =>
    rw [hk] at h2
    exact ⟨zeroM_ok, h2.symm⟩
  | true =>
    rw [hk] at h2
    exact ⟨next_ok h1 hx (okA_epoch hk), h2⟩

/-- Loads of whole rows, run along a plan. -/
theorem plan_run_val {P : Program} {ops : Array Oper} {Q : Exit → Act → World → Prop} {S : World → Prop} {i : Nat} {p : Plan} {a : Act} {w : World} (o : Oper) (v : Value) (ho : nth ops.toList i = some o) (hw : Region.wanted o (yielded ops a.tmps) = true)
    (hr : (execOp a.eval o).run P w = .ok (.value v) w) (hS : S w) (h : wpPlan P ops Q S p (a.put o.dst v) w) : wpPlan P ops Q S (Plan.run i p) a w := by
  refine plan_run o ho fun K hK => ?_
  rw [if_pos hw]
  unfold Oper.wp
  rw [hr]
  exact hK.out _ _ hS h

theorem run_map_has {o : Oper} {ev : Operand → Value} {w : World} (m : MapV) (x : Operand) (ho : o.op = .load 27 x) (g : Nat) (hx : ev x = .pointer (some ⟨g, 0, none⟩)) (hg : Has w g 27 (mapC m)) : (execOp ev o).run Try.prog w = .ok (.value (.agg (mapC m))) w := by
  unfold execOp
  simp only [ho, hx]
  simp only [Sem.run_bind, Instr.loadAt, Instr.sureAddr, Sem.run_pure, Result.andThen]
  rw [run_loadVar_row w g 27 27 (mapC m) (0, 0) _ hg Try.underlying27 rfl (map_size m)]

theorem run_inc_any {o : Oper} {ev : Operand → Value} {w : World} (y : IncV) (x : Operand) (ho : o.op = .load 29 x) (A : Addr) (hx : ev x = .pointer (some A)) (hc : ∀ j v, (incC y).toList[j]? = some v → w.cell? (A.add j) = some v) : (execOp ev o).run Try.prog w = .ok (.value (.agg (incC y))) w :=
  run_load_any 29 x ho A hx (incC y).toList _ hc Try.underlying29 rfl (inc_size y)

set_option maxRecDepth 100000 in
set_option maxHeartbeats 2000000 in
theorem fold_walk (S : MapsSpec) (ao : Option Addr) (c : Nat) (xs : List IncV) (w : World) (h : Sl w ao c 3 (xs.map fun x => (incC x).toList)) (hx : ∀ x ∈ xs, IncOk x) :
    Calls Try.prog 4 #[.slice ao xs.length c] w fun e w' => e = .returned (.bool true) ∧ Below w.heap.size w w' := by
  have hle := h.le
  rw [List.length_map] at hle
  have hcap := h.cap
  by_cases h70 : (70 : Int) < (xs.length : Int)
  · go_enter Try.func4, Try.ntmps4
    go_wp2_with (go_at_call 9; refine (known_any S _).mono ?_; rintro e w1 ⟨rfl, hb1⟩)
    go_ret
    exact ⟨rfl, hb1⟩
  · have hlen : (xs.length : Int) ≤ 70 := by omega
    clear h70
    have hlenN : xs.length ≤ 70 := by omega
    go_enter Try.func4, Try.ntmps4
    go_wp2_with (first
      | (go_at_call 9; refine (known_any S _).mono ?_; rintro e w1 ⟨rfl, hb1⟩)
      | (refine wpList_copy_incs _ _ _ rfl rfl ao c xs rfl rfl ?hs (by omega) ?_; (case hs => exact h.later hb1); intro bo d w2 hSl hb2; replace hb2 := hb1.trans (hb2.mono hb1.size); clear hb1))
    refine (S.fold bo d xs w2 hSl hx (by omega)).mono ?_
    rintro e w3 ⟨rfl, hb3⟩
    replace hb3 := hb2.trans (hb3.mono hb2.size)
    clear hSl hb2
    generalize hFe : foldM xs = F at *
    obtain ⟨FM, FO⟩ := F
    simp only
    have hF : Hid (foldM xs = (FM, FO)) := hFe
    clear hFe
    have hb4 := below_setRow (hb3.alloc hb3.size (.cells (mapC zeroM) 27)) hb3.size (mapC FM)
    have hA := (Has.new w3 27 (mapC zeroM)).row (mapC FM)
    go_wp2_with (first
      | (refine alloc_map (by rfl) rfl ?_)
      | (refine store_map FM zeroM (by rfl) _ _ rfl _ rfl rfl ?hg ?_; (case hg => exact Has.new _ _ _); generalize (w3.alloc (.cells (mapC zeroM) 27)).setRow w3.heap.size (mapC FM) = w4 at *; have hga := hb3.size; clear hb3; generalize w3.heap.size = ga at *))
    refine (reffirst_any _).mono ?_
    rintro e w5 ⟨rfl, hb5⟩
    replace hA := hA.later hb5
    replace hb5 := hb4.trans (hb5.mono hb4.size)
    clear hb4
    have hlA := hA.lt
    have hA6 := (hA.alloc (.cells (mapC zeroM) 27)).row_other (k := w5.heap.size) (by omega) (mapC firstM)
    have hb6 := below_setRow (hb5.alloc hb5.size (.cells (mapC zeroM) 27)) hb5.size (mapC firstM)
    have hB6 := (Has.new w5 27 (mapC zeroM)).row (mapC firstM)
    have hgb := hb5.size
    have hne : ga < w5.heap.size := hlA
    clear hA hb5 hlA
    go_wp2_with (first
      | (refine alloc_map (by rfl) rfl ?_)
      | (refine store_map firstM zeroM (by rfl) _ _ rfl _ rfl rfl ?hg ?_; (case hg => exact Has.new _ _ _); generalize (w5.alloc (.cells (mapC zeroM) 27)).setRow w5.heap.size (mapC firstM) = w6 at *; generalize w5.heap.size = gb at *))
    go_loopw [6, 7] (fun k i wr => ∃ (n : Nat) (ok : Bool) (b : MapV), n ≤ xs.length ∧ i = .int .i64 n ∧ k = .bool ok ∧ LeftTo b ok xs n ∧ Has wr gb 27 (mapC b) ∧ Has wr ga 27 (mapC FM) ∧ Below w.heap.size w wr) (fun _ i _ => xs.length - (intOf i).toNat)
    case atStart => exact ⟨0, true, firstM, Nat.zero_le _, rfl, rfl, ⟨firstM_ok, rfl⟩, hB6, hA6, hb6⟩
    case round =>
      clear hB6 hA6 hb6
      obtain ⟨n, ok, b, hn, rfl, rfl, hL, hB, hA, hb⟩ := hrel
      cases ok with
      | false =>
        have e1 : FO = false := by have h1 : foldM xs = (zeroM, false) := hL.2; have := hF.out; rw [h1] at this; exact (congrArg Prod.snd this).symm
        rw [e1, errI_false]
        go_wp2
        all_goals
          go_ret
          exact ⟨rfl, hb⟩
      | true =>
        by_cases hlt : n < xs.length
        · have i1 : (n : Int) < (xs.length : Int) := by omega
          have hS := h.later hb
          cases ao with
          | none => have := hS.nil rfl; omega
          | some ad =>
            have hci := sl_at hS n hlt
            have hxn := hx xs[n] (List.getElem_mem hlt)
            have hLn : Hid _ := left_next hL hlt hxn
            have hbo := hL.1
            clear hL hS
            generalize xs[n] = x at *
            go_wp2
            refine wp_region_plan (fun _ => True) (.take 1 (.take 2 (.take 3 (.either 0 (.run 4 (Plan.of [(5, false), (6, true), (7, true), (8, true), (9, false), (10, true)] .done)) 4 (.run 0 (Plan.of [(5, false), (6, true), (7, true), (8, true), (9, false), (10, true)] .done)))))) (by kernel_rfl) (by kernel_rfl) (by kernel_rfl) (by kernel_rfl) trivial ?_
            iterate 3
              refine plan_take _ _ rfl (.inl ⟨by rfl, fun W hS => by go_simp; try with_reducible rfl⟩) ?_
              try simp only [Act.put, List.setIfInBounds_toArray, List.set_cons_zero, List.set_cons_succ]
            refine plan_either ?_ ?_
            · refine plan_run_val _ _ rfl (by rfl) (run_map_has b _ rfl gb rfl hB.drew) trivial ?_
              try simp only [Act.put, List.setIfInBounds_toArray, List.set_cons_zero, List.set_cons_succ]
              refine plan_run_val _ _ rfl (by rfl) (run_inc_any x _ rfl (ad.add (n * 3)) rfl hci) trivial ?_
              try simp only [Act.put, List.setIfInBounds_toArray, List.set_cons_zero, List.set_cons_succ]
              refine plan_run _ rfl (fun K hK => ?_)
              go_simp
              refine (refapply_any b x _ hbo hxn).mono ?_
              rintro e w7 ⟨rfl, hb7⟩
              replace hB := hB.drew.later hb7
              replace hA := hA.drew.later hb7
              replace hb := hb.drew.trans (hb7.mono hb.drew.size)
              refine hK.out _ _ trivial ?_
              clear hK K hb7
              iterate 3
                refine plan_take _ _ rfl (.inl ⟨by rfl, fun W hS => by go_simp; try with_reducible rfl⟩) ?_
                try simp only [Act.put, List.setIfInBounds_toArray, List.set_cons_zero, List.set_cons_succ]
              refine plan_store_has _ rfl (by rfl) 27 _ _ rfl gb rfl (mapC (applyM b x)) rfl 27 (mapC b) (map_size _) (by rw [mapC_size, mapC_size]) (mapC_one _) hB trivial ?_
              try simp only [Act.put, List.setIfInBounds_toArray, List.set_cons_zero, List.set_cons_succ]
              refine plan_take _ _ rfl (.inl ⟨by rfl, fun W hS => by go_simp; try with_reducible rfl⟩) ?_
              try simp only [Act.put, List.setIfInBounds_toArray, List.set_cons_zero, List.set_cons_succ]
              refine plan_done ?_
              go_wp2
              go_roundw
              case rel => exact ⟨n + 1, okA b x, applyM b x, by omega, by go_num, rfl, hLn.out, hB.row _, hA.row_other (by omega) _, below_setRow hb hgb _⟩
              case measure => simp [intOf]; omega
            · refine plan_run_val _ _ rfl (by rfl) (run_inc_any x _ rfl (ad.add (n * 3)) rfl hci) trivial ?_
              try simp only [Act.put, List.setIfInBounds_toArray, List.set_cons_zero, List.set_cons_succ]
              refine plan_run_val _ _ rfl (by rfl) (run_map_has b _ rfl gb rfl hB.drew) trivial ?_
              try simp only [Act.put, List.setIfInBounds_toArray, List.set_cons_zero, List.set_cons_succ]
              refine plan_run _ rfl (fun K hK => ?_)
              go_simp
              refine (refapply_any b x _ hbo hxn).mono ?_
              rintro e w7 ⟨rfl, hb7⟩
              replace hB := hB.drew.later hb7
              replace hA := hA.drew.later hb7
              replace hb := hb.drew.trans (hb7.mono hb.drew.size)
              refine hK.out _ _ trivial ?_
              clear hK K hb7
              iterate 3
                refine plan_take _ _ rfl (.inl ⟨by rfl, fun W hS => by go_simp; try with_reducible rfl⟩) ?_
                try simp only [Act.put, List.setIfInBounds_toArray, List.set_cons_zero, List.set_cons_succ]
              refine plan_store_has _ rfl (by rfl) 27 _ _ rfl gb rfl (mapC (applyM b x)) rfl 27 (mapC b) (map_size _) (by rw [mapC_size, mapC_size]) (mapC_one _) hB trivial ?_
              try simp only [Act.put, List.setIfInBounds_toArray, List.set_cons_zero, List.set_cons_succ]
              refine plan_take _ _ rfl (.inl ⟨by rfl, fun W hS => by go_simp; try with_reducible rfl⟩) ?_
              try simp only [Act.put, List.setIfInBounds_toArray, List.set_cons_zero, List.set_cons_succ]
              refine plan_done ?_
              go_wp2
              go_roundw
              case rel => exact ⟨n + 1, okA b x, applyM b x, by omega, by go_num, rfl, hLn.out, hB.row _, hA.row_other (by omega) _, below_setRow hb hgb _⟩
              case measure => simp [intOf]; omega
        · have e5 : n = xs.length := by omega
          subst e5
          have h1 : foldFrom b (xs.drop xs.length) = foldM xs := hL.2
          rw [List.drop_length, hF.out] at h1
          have e1 : FM = b := (congrArg Prod.fst h1).symm
          have e2 : FO = true := (congrArg Prod.snd h1).symm
          have hbo := hL.1
          have hep : b.epoch = xs.length + 1 := by
            have := foldFrom_epoch xs firstM (by show (foldM xs).2 = true; rw [hF.out, e2])
            have h2 : (foldFrom firstM xs).1 = FM := by show (foldM xs).1 = FM; rw [hF.out]
            rw [h2, e1] at this
            rw [this]
            show 1 + xs.length = _
            omega
          subst e1 e2
          rw [errI_true]
          have c0 := hA.cell 0
          rw [mapC_epoch, hep] at c0
          have hss : sameM FM FM = true := (sameM_is _ _).2 rfl
          clear hF h1 hL hep
          go_wp2_with (first
            | (refine load_map FM (by first | rfl | simp [Region.wanted, yielded]) _ rfl ga rfl ?hg ?_; (case hg => exact hA))
            | (refine load_map FM (by first | rfl | simp [Region.wanted, yielded]) _ rfl gb rfl ?hg ?_; (case hg => exact hB))
            | (refine bin_map FM FM hbo hbo (by first | rfl | simp [Region.wanted, yielded]) _ _ _ rfl rfl rfl ?_; rw [hss]))
          go_ret
          exact ⟨rfl, hb⟩
end Go.Proofs.Ytoffbjdoampebaa
