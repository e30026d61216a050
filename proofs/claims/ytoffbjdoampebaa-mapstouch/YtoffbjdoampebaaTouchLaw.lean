/- paddocklaw3.MapsTouch returns true, for whatever map and increment, where package maps answers as it has to. -/
import Derived.Test.YtoffbjdoampebaaMapsKnown
import Derived.Test.YtoffbjdoampebaaLex
namespace Go.Proofs.Ytoffbjdoampebaa
set_option linter.unusedSimpArgs false
set_option linter.unusedVariables false
open Go.RowKit

theorem turn_host (x : IncV) (o : OsdV) : (turn x o).host = o.host := by
  unfold turn
  split
  · rfl
  · split
    · rfl
    · split <;> rfl

theorem turn_turn (x : IncV) (o : OsdV) : turn x (turn x o) = turn x o := by
  unfold turn
  by_cases h1 : x.kind = 1
  · simp [h1]
  · by_cases h2 : x.kind = 2
    · simp [h2]
    · by_cases h3 : x.kind = 3
      · simp [h3]
      · simp [h1, h2, h3]

theorem next_host (m : MapV) (x : IncV) (i : Fin 5) : ((nextM m x).osd i).host = (m.osd i).host := by
  show (if i.val = x.osd then turn x (m.osd i) else m.osd i).host = _
  split
  · exact turn_host _ _
  · rfl

theorem next_far (m : MapV) (x : IncV) (i : Fin 5) (h : i.val ≠ x.osd) : (nextM m x).osd i = m.osd i := by
  show (if i.val = x.osd then turn x (m.osd i) else m.osd i) = _
  rw [if_neg h]

theorem next_near (m : MapV) (x : IncV) (i : Fin 5) (h : i.val = x.osd) : (nextM m x).osd i = turn x (m.osd i) := by
  show (if i.val = x.osd then turn x (m.osd i) else m.osd i) = _
  rw [if_pos h]

theorem next_twice (m : MapV) (x : IncV) : ({ nextM (nextM m x) x with epoch := (nextM m x).epoch } : MapV) = nextM m x := by
  show (⟨_, (nextM (nextM m x) x).osd⟩ : MapV) = nextM m x
  have : (nextM (nextM m x) x).osd = (nextM m x).osd := by
    funext i
    by_cases h : i.val = x.osd
    · rw [next_near _ _ _ h, next_near _ _ _ h, turn_turn]
    · rw [next_far _ _ _ h]
  rw [this]

theorem osdL_range (m : MapV) (i : Fin 5) (j : Nat) (v : Value) (h : (osdL (m.osd i))[j]? = some v) : (mapC m)[1 + i.val * 3 + j]? = some v := by
  have hj : j < 3 := (List.getElem?_eq_some_iff.1 h).1
  have h3 : j = 0 ∨ j = 1 ∨ j = 2 := by omega
  rcases h3 with rfl | rfl | rfl
  · rw [← h]; exact mapC_up m i
  · rw [← h]; exact mapC_wt m i
  · rw [← h]; exact mapC_host m i

/-- One daemon of a map, whole, in every world of S. -/
theorem yields_osd {ops : Array Oper} {S : World → Prop} {o : Oper} {a : Act} (m : MapV) (i : Fin 5) (hw : Region.wanted o (yielded ops a.tmps) = true) (x : Operand) (ho : o.op = .load 24 x) (g : Nat) (hx : a.eval x = .pointer (some ⟨g, 1 + i.val * 3, none⟩))
    (hg : ∀ w, S w → Has w g 27 (mapC m)) : YieldsIf Try.prog ops S o (.agg (osdC (m.osd i))) a :=
  yieldsIf_load_mid hw 24 x ho g (1 + i.val * 3) hx (osdL (m.osd i)) _ (fun w h => (hg w h).range _ _ (osdL_range m i)) Try.underlying24 rfl osd_size

/-- The daemons of a map, whole, in every world of S. -/
theorem yields_osds {ops : Array Oper} {S : World → Prop} {o : Oper} {a : Act} (m : MapV) (hw : Region.wanted o (yielded ops a.tmps) = true) (x : Operand) (ho : o.op = .load 25 x) (g : Nat) (hx : a.eval x = .pointer (some ⟨g, 1, none⟩))
    (hg : ∀ w, S w → Has w g 27 (mapC m)) : YieldsIf Try.prog ops S o (.agg (osdsL m).toArray) a :=
  yieldsIf_load_mid hw 25 x ho g 1 hx (osdsL m) _ (fun w h => (hg w h).range _ _ (mapC_osds m)) Try.underlying25 rfl (osds_size m)

set_option maxRecDepth 100000 in
set_option maxHeartbeats 8000000 in
theorem touch_walk (S : MapsSpec) (m : MapV) (x : IncV) (w : World) (hm : MapOk m) (hx : IncOk x) :
    Calls Try.prog 5 #[.agg (mapC m), .agg (incC x)] w fun e w' => e = .returned (.bool true) ∧ Below w.heap.size w w' := by
  have hM0 : Has ((w.alloc (.cells (mapC m) 27)).alloc (.cells (incC x) 29)) w.heap.size 27 (mapC m) := (Has.new _ _ _).alloc _
  have hX0 : Has ((w.alloc (.cells (mapC m) 27)).alloc (.cells (incC x) 29)) (w.heap.size + 1) 29 (incC x) := by
    have := Has.new (w.alloc (.cells (mapC m) 27)) 29 (incC x)
    simpa using this
  have hb0 : Below w.heap.size w ((w.alloc (.cells (mapC m) 27)).alloc (.cells (incC x) 29)) := ((Below.refl _ _).alloc (Nat.le_refl _) _).alloc (by simp) _
  go_enter Try.func5, Try.ntmps5
  go_wp2_with (first
    | (go_at_call 9; refine (known_any S _).mono ?_; rintro e w1 ⟨rfl, hb1⟩; have hM := hM0.later hb1; have hX := hX0.later hb1; have hb := hb0.trans (hb1.mono hb0.size); clear hb1 hX0 hM0 hb0)
    | (refine load_map m (by rfl) _ rfl w.heap.size rfl ?hg ?_; (case hg => exact hM))
    | (refine load_inc x (by rfl) _ rfl (w.heap.size + 1) rfl ?hg ?_; (case hg => exact hX)))
  refine (S.apply m x _ hm hx).mono ?_
  rintro e w2 ⟨rfl, hb2⟩
  replace hM := hM.later hb2
  replace hX := hX.later hb2
  replace hb2 := hb.trans (hb2.mono hb.size)
  clear hb
  have hlx := hX.lt
  cases hok : okA m x with
  | false =>
    have hap : applyM m x = zeroM := by unfold applyM; rw [hok]; rfl
    rw [hap, errI_false]
    have hb3 := below_setRow (hb2.alloc hb2.size (.cells (mapC zeroM) 27)) hb2.size (mapC zeroM)
    have hA := (Has.new w2 27 (mapC zeroM)).row (mapC zeroM)
    have hss : sameM zeroM zeroM = true := (sameM_is _ _).2 rfl
    go_wp2_with (first
      | (refine alloc_map (by rfl) rfl ?_)
      | (refine build_map0 (by rfl) rfl ?_)
      | (refine store_map zeroM zeroM (by rfl) _ _ rfl _ rfl rfl ?hg ?_; (case hg => exact Has.new _ _ _); generalize (w2.alloc (.cells (mapC zeroM) 27)).setRow w2.heap.size (mapC zeroM) = w3 at *)
      | (refine load_map zeroM (by rfl) _ rfl _ rfl ?hg ?_; (case hg => exact hA))
      | (refine bin_map zeroM zeroM zeroM_ok zeroM_ok (by rfl) _ _ _ rfl rfl rfl ?_; rw [hss]))
    go_ret
    exact ⟨rfl, hb3⟩
  | true =>
    have hap : applyM m x = nextM m x := by unfold applyM; rw [hok]; rfl
    rw [hap, errI_true]
    obtain ⟨hmi, hxi, hme⟩ := (okA_is m x).1 hok
    have hAo : Hid _ := next_ok hm hx hme
    have hAi : Hid _ := isM_next hmi hxi hme
    have hAe : Hid ((nextM m x).epoch = m.epoch + 1) := rfl
    have hb3 := below_setRow (hb2.alloc hb2.size (.cells (mapC zeroM) 27)) hb2.size (mapC (nextM m x))
    have hA := (Has.new w2 27 (mapC zeroM)).row (mapC (nextM m x))
    have hM3 := (hM.alloc (.cells (mapC zeroM) 27)).row_other (k := w2.heap.size) (by omega) (mapC (nextM m x))
    have hX3 := (hX.alloc (.cells (mapC zeroM) 27)).row_other (k := w2.heap.size) (by omega) (mapC (nextM m x))
    clear hM hX hap hok
    go_wp2_with (first
      | (refine alloc_map (by rfl) rfl ?_)
      | (refine store_map (nextM m x) zeroM (by rfl) _ _ rfl _ rfl rfl ?hg ?_; (case hg => exact Has.new _ _ _); generalize (w2.alloc (.cells (mapC zeroM) 27)).setRow w2.heap.size (mapC (nextM m x)) = w3 at *; have hga := hb2.size; clear hb2; generalize w2.heap.size = ga at *))
    go_loopw [7] (fun i wr => ∃ n : Nat, n ≤ 5 ∧ i = .int .i64 n ∧ Has wr ga 27 (mapC (nextM m x)) ∧ Has wr w.heap.size 27 (mapC m) ∧ Has wr (w.heap.size + 1) 29 (incC x) ∧ Below w.heap.size w wr) (fun i _ => (5 - intOf i).toNat)
    case atStart => exact ⟨0, by decide, rfl, hA, hM3, hX3, hb3⟩
    case round =>
      clear hA hM3 hX3 hb3
      obtain ⟨n, hn, rfl, hA, hM, hX, hb⟩ := hrel
      by_cases hlt : n < 5
      · have i1 : (n : Int) < 5 := by omega
        go_wp2
        obtain ⟨k, o, p⟩ := x
        have hhost := next_host m ⟨k, o, p⟩ ⟨n, hlt⟩
        obtain ⟨x0, x1, x2⟩ := inc_cells hX
        have a2 := hA.cell (1 + n * 3 + 2)
        have m2 := hM.cell (1 + n * 3 + 2)
        rw [mapC_host _ ⟨n, hlt⟩, hhost] at a2
        rw [mapC_host _ ⟨n, hlt⟩] at m2
        generalize (m.osd ⟨n, hlt⟩).host = H at *
        clear hhost x0 x2
        have hobd : o < 256 := hx.osd
        by_cases hno : n = o
        · subst hno
          refine wp_region_plan (fun W => W.cell? ⟨w.heap.size + 1, 1, none⟩ = some (.int .u8 n) ∧ W.cell? ⟨ga, 1 + n * 3 + 2, none⟩ = some (.int .u8 H) ∧ W.cell? ⟨w.heap.size, 1 + n * 3 + 2, none⟩ = some (.int .u8 H) ∧ Has W ga 27 (mapC (nextM m ⟨k, n, p⟩)) ∧ Has W w.heap.size 27 (mapC m) ∧ Has W (w.heap.size + 1) 29 (incC ⟨k, n, p⟩) ∧ Below w.heap.size w W)
            (Plan.of [(0, true), (1, true), (2, true), (3, true), (4, true), (5, true), (6, true), (7, true), (8, true), (9, true), (10, true), (11, true), (12, true), (13, true), (14, true), (15, true), (16, true), (17, true), (18, true), (19, true), (20, true), (21, true), (22, true), (23, true), (24, true), (25, true), (26, true), (27, true), (28, true)] .done)
            (by kernel_rfl) (by kernel_rfl) (by kernel_rfl) (by kernel_rfl) ⟨x1, a2, m2, hA.drew, hM.drew, hX.drew, hb.drew⟩ ?_
          have hwr : Hid (IntKind.i64.wrap (n : Int) = (n : Int)) := by show _ = _; simp [IntKind.wrap, IntKind.bits, IntKind.signed]; omega
          iterate 3
            refine plan_take _ _ rfl (.inl ⟨by rfl, fun W hS => by obtain ⟨z1, z2, z3, z4, z5, z6, z7⟩ := hS; clear z4 z5 z6 z7; go_simp; try with_reducible rfl⟩) ?_
            try simp only [Act.put, List.setIfInBounds_toArray, List.set_cons_zero, List.set_cons_succ]
          refine plan_take _ (.int .i64 (n : Int)) rfl (.inl ⟨by rfl, fun W hS => by go_simp; first | exact hwr.out | (rw [hwr.out]) | simp [hwr.out]⟩) ?_
          try simp only [Act.put, List.setIfInBounds_toArray, List.set_cons_zero, List.set_cons_succ]
          iterate 2
            refine plan_take _ _ rfl (.inl ⟨by rfl, fun W hS => by obtain ⟨z1, z2, z3, z4, z5, z6, z7⟩ := hS; clear z4 z5 z6 z7; go_simp; try with_reducible rfl⟩) ?_
            try simp only [Act.put, List.setIfInBounds_toArray, List.set_cons_zero, List.set_cons_succ]
          iterate 9
            refine plan_pass _ rfl (by rfl) ?_
            try simp only [Act.put, List.setIfInBounds_toArray, List.set_cons_zero, List.set_cons_succ]
          iterate 14
            refine plan_take _ _ rfl (.inl ⟨by rfl, fun W hS => by obtain ⟨z1, z2, z3, z4, z5, z6, z7⟩ := hS; clear z4 z5 z6 z7; go_simp; try with_reducible rfl⟩) ?_
            try simp only [Act.put, List.setIfInBounds_toArray, List.set_cons_zero, List.set_cons_succ]
          refine plan_done ?_
          go_wp2
          go_roundw
          case rel => exact ⟨n + 1, by omega, by go_num, hA.drew, hM.drew, hX.drew, hb.drew⟩
          case measure => simp [intOf]; omega
        · have hno1 : ((n : Int) != (o : Int)) = true := by simp; omega
          have hno2 : (n != o) = true := by simp; omega
          have hno3 : (n == o) = false := by simp; omega
          have hno4 : ((n : Int) == (o : Int)) = false := by simp; omega
          have hno5 : decide (n = o) = false := by simp; omega
          have hno6 : decide ((n : Int) = (o : Int)) = false := by simp; omega
          have hfar := next_far m ⟨k, o, p⟩ ⟨n, hlt⟩ hno
          have hdd : (!sameOsd ((nextM m ⟨k, o, p⟩).osd ⟨n, hlt⟩) (m.osd ⟨n, hlt⟩)) = false := by rw [hfar, (sameOsd_is _ _).2 rfl]; rfl
          have hfA : Hid (OsdFit ((nextM m ⟨k, o, p⟩).osd ⟨n, hlt⟩)) := ⟨hAo.out.wt _, hAo.out.host _⟩
          have hfM : Hid (OsdFit (m.osd ⟨n, hlt⟩)) := ⟨hm.wt _, hm.host _⟩
          clear hfar
          refine wp_region_plan (fun W => W.cell? ⟨w.heap.size + 1, 1, none⟩ = some (.int .u8 o) ∧ W.cell? ⟨ga, 1 + n * 3 + 2, none⟩ = some (.int .u8 H) ∧ W.cell? ⟨w.heap.size, 1 + n * 3 + 2, none⟩ = some (.int .u8 H) ∧ Has W ga 27 (mapC (nextM m ⟨k, o, p⟩)) ∧ Has W w.heap.size 27 (mapC m) ∧ Has W (w.heap.size + 1) 29 (incC ⟨k, o, p⟩) ∧ Below w.heap.size w W)
            (Plan.of [(0, true), (1, true), (2, true), (3, true), (4, true), (5, true), (6, true), (7, true), (8, true), (9, true), (10, true), (11, true), (12, true), (13, true), (14, true), (15, true), (16, true), (17, true), (18, true), (19, true), (20, true), (21, true), (22, true), (23, true), (24, true), (25, true), (26, true), (27, true), (28, true)] .done)
            (by kernel_rfl) (by kernel_rfl) (by kernel_rfl) (by kernel_rfl) ⟨x1, a2, m2, hA.drew, hM.drew, hX.drew, hb.drew⟩ ?_
          have hwr : Hid (IntKind.i64.wrap (o : Int) = (o : Int)) := by show _ = _; simp [IntKind.wrap, IntKind.bits, IntKind.signed]; omega
          iterate 3
            refine plan_take _ _ rfl (.inl ⟨by rfl, fun W hS => by obtain ⟨z1, z2, z3, z4, z5, z6, z7⟩ := hS; clear z4 z5 z6 z7; go_simp; try with_reducible rfl⟩) ?_
            try simp only [Act.put, List.setIfInBounds_toArray, List.set_cons_zero, List.set_cons_succ]
          refine plan_take _ (.int .i64 (o : Int)) rfl (.inl ⟨by rfl, fun W hS => by go_simp; first | exact hwr.out | (rw [hwr.out]) | simp [hwr.out]⟩) ?_
          try simp only [Act.put, List.setIfInBounds_toArray, List.set_cons_zero, List.set_cons_succ]
          iterate 2
            refine plan_take _ _ rfl (.inl ⟨by rfl, fun W hS => by obtain ⟨z1, z2, z3, z4, z5, z6, z7⟩ := hS; clear z4 z5 z6 z7; go_simp; try with_reducible rfl⟩) ?_
            try simp only [Act.put, List.setIfInBounds_toArray, List.set_cons_zero, List.set_cons_succ]
          iterate 3
            refine plan_take _ _ rfl (.inl ⟨by rfl, fun W hS => by obtain ⟨z1, z2, z3, z4, z5, z6, z7⟩ := hS; clear z4 z5 z6 z7; go_simp; try with_reducible rfl⟩) ?_
            try simp only [Act.put, List.setIfInBounds_toArray, List.set_cons_zero, List.set_cons_succ]
          refine plan_take _ _ rfl (yields_osd (nextM m ⟨k, o, p⟩) ⟨n, hlt⟩ (by rfl) _ rfl ga rfl (fun _ h => h.2.2.2.1)) ?_
          try simp only [Act.put, List.setIfInBounds_toArray, List.set_cons_zero, List.set_cons_succ]
          iterate 3
            refine plan_take _ _ rfl (.inl ⟨by rfl, fun W hS => by obtain ⟨z1, z2, z3, z4, z5, z6, z7⟩ := hS; clear z4 z5 z6 z7; go_simp; try with_reducible rfl⟩) ?_
            try simp only [Act.put, List.setIfInBounds_toArray, List.set_cons_zero, List.set_cons_succ]
          refine plan_take _ _ rfl (yields_osd m ⟨n, hlt⟩ (by rfl) _ rfl w.heap.size rfl (fun _ h => h.2.2.2.2.1)) ?_
          try simp only [Act.put, List.setIfInBounds_toArray, List.set_cons_zero, List.set_cons_succ]
          refine plan_take _ _ rfl (yields_bin_agg (by rfl) .neq 24 _ _ _ rfl _ _ rfl rfl _ guard_osd (neq_osd _ _ hfA.out hfM.out)) ?_
          rw [hdd]
          try simp only [Act.put, List.setIfInBounds_toArray, List.set_cons_zero, List.set_cons_succ]
          iterate 14
            refine plan_take _ _ rfl (.inl ⟨by rfl, fun W hS => by obtain ⟨z1, z2, z3, z4, z5, z6, z7⟩ := hS; clear z4 z5 z6 z7; go_simp; try with_reducible rfl⟩) ?_
            try simp only [Act.put, List.setIfInBounds_toArray, List.set_cons_zero, List.set_cons_succ]
          refine plan_done ?_
          go_wp2
          go_roundw
          case rel => exact ⟨n + 1, by omega, by go_num, hA.drew, hM.drew, hX.drew, hb.drew⟩
          case measure => simp [intOf]; omega
      · have e5 : n = 5 := by omega
        subst e5
        go_wp2_with (first
          | (refine load_map (nextM m x) (by rfl) _ rfl ga rfl ?hg ?_; (case hg => exact hA))
          | (refine load_inc x (by rfl) _ rfl (w.heap.size + 1) rfl ?hg ?_; (case hg => exact hX)))
        refine (S.apply (nextM m x) x _ hAo.out hx).mono ?_
        rintro e w4 ⟨rfl, hb4⟩
        replace hA := hA.later hb4
        replace hM := hM.later hb4
        replace hX := hX.later hb4
        replace hb4 := hb.trans (hb4.mono hb.size)
        clear hb
        have hlA := hA.lt
        have hlM := hM.lt
        have hlX := hX.lt
        by_cases he : m.epoch + 1 = 60
        · obtain ⟨o1, o2⟩ := okA_not (m := nextM m x) (x := x) (.inr (.inr (show 60 ≤ m.epoch + 1 by omega)))
          rw [o1, o2, errI_false]
          have hA5 := (hA.alloc (.cells (mapC zeroM) 27)).row_other (k := w4.heap.size) (by omega) (mapC zeroM)
          have hb5 := below_setRow (hb4.alloc hb4.size (.cells (mapC zeroM) 27)) hb4.size (mapC zeroM)
          have c0 := hA5.cell 0
          rw [mapC_epoch, hAe.out, he] at c0
          clear o1 o2 hA hM hX hb4
          go_wp2_with (first
            | (refine alloc_map (by rfl) rfl ?_)
            | (refine store_map zeroM zeroM (by rfl) _ _ rfl _ rfl rfl ?hg ?_; (case hg => exact Has.new _ _ _); generalize (w4.alloc (.cells (mapC zeroM) 27)).setRow w4.heap.size (mapC zeroM) = w5 at *))
          go_ret
          exact ⟨rfl, hb5⟩
        · have hlt60 : m.epoch + 1 < 60 := by omega
          obtain ⟨o1, o2⟩ := okA_yes (m := nextM m x) (x := x) hAi.out hxi hlt60
          have htw : Hid _ := next_twice m x
          have hBo : Hid _ := next_ok hAo.out hx hlt60
          rw [o1, o2, errI_true]
          clear o1 o2 he
          obtain ⟨E, hE⟩ : ∃ E, Hid (m.epoch + 1 = E) := ⟨_, rfl⟩
          have hA5 := (hA.alloc (.cells (mapC zeroM) 27)).row_other (k := w4.heap.size) (by omega) (mapC (nextM (nextM m x) x))
          have hM5 := (hM.alloc (.cells (mapC zeroM) 27)).row_other (k := w4.heap.size) (by omega) (mapC (nextM (nextM m x) x))
          have hX5 := (hX.alloc (.cells (mapC zeroM) 27)).row_other (k := w4.heap.size) (by omega) (mapC (nextM (nextM m x) x))
          have hB5 := (Has.new w4 27 (mapC zeroM)).row (mapC (nextM (nextM m x) x))
          have hb5 := below_setRow (hb4.alloc hb4.size (.cells (mapC zeroM) 27)) hb4.size (mapC (nextM (nextM m x) x))
          have hgB := hb4.size
          have hss : sameM (nextM m x) (nextM m x) = true := (sameM_is _ _).2 rfl
          clear hA hM hX hb4
          go_wp2_with (first
            | (refine alloc_map (by rfl) rfl ?_)
            | (refine store_map (nextM (nextM m x) x) zeroM (by rfl) _ _ rfl _ rfl rfl ?hg ?_; (case hg => exact Has.new _ _ _); generalize (w4.alloc (.cells (mapC zeroM) 27)).setRow w4.heap.size (mapC (nextM (nextM m x) x)) = w5 at *; generalize w4.heap.size = gb at *; have a0 := hA5.cell 0; have b0 := hB5.cell 0; rw [mapC_epoch, hAe.out, hE.out] at a0; rw [mapC_epoch] at b0; have fb := hB5.free))
          have hB6 := hB5.set 0 (.int .u32 (E : Int))
          rw [mapC_setEpoch] at hB6
          have hBA : ({ nextM (nextM m x) x with epoch := E } : MapV) = nextM m x := by
            have h1 : (nextM m x).epoch = E := hAe.out.trans hE.out
            have := htw.out
            rw [h1] at this
            exact this
          rw [hBA] at hB6
          have hA6 := hA5.set_other (a := ⟨gb, 0, none⟩) (by show ga ≠ gb; omega) (.int .u32 (E : Int))
          have hM6 := hM5.set_other (a := ⟨gb, 0, none⟩) (by show w.heap.size ≠ gb; omega) (.int .u32 (E : Int))
          have hX6 := hX5.set_other (a := ⟨gb, 0, none⟩) (by show w.heap.size + 1 ≠ gb; omega) (.int .u32 (E : Int))
          have hb6 : Below w.heap.size w (w5.setCell ⟨gb, 0, none⟩ (.int .u32 (E : Int))) := hb5.setCell hgB _
          clear a0 b0 fb hA5 hM5 hX5 hB5 hb5 hBA
          generalize w5.setCell ⟨gb, 0, none⟩ (.int .u32 (E : Int)) = w6 at *
          obtain ⟨k, o, p⟩ := x
          have ho5 : o < 5 := by rw [isInc_of, decide_eq_true_iff] at hxi; omega
          have hoi : (o : Int) < 5 := by omega
          have hfacts : Hid (∀ W : World, (Has W ga 27 (mapC (nextM m ⟨k, o, p⟩)) ∧ Has W w.heap.size 27 (mapC m) ∧ Has W (w.heap.size + 1) 29 (incC ⟨k, o, p⟩) ∧ Has W gb 27 (mapC (nextM m ⟨k, o, p⟩)) ∧ Below w.heap.size w W) →
              W.cell? ⟨w.heap.size + 1, 0, none⟩ = some (.int .u8 k) ∧ W.cell? ⟨w.heap.size + 1, 1, none⟩ = some (.int .u8 o) ∧ W.cell? ⟨w.heap.size + 1, 2, none⟩ = some (.int .i64 p) ∧
              W.cell? ⟨ga, 0, none⟩ = some (.int .u32 E) ∧ W.cell? ⟨w.heap.size, 0, none⟩ = some (.int .u32 m.epoch) ∧
              W.cell? ⟨ga, 1 + o * 3, none⟩ = some (.bool ((nextM m ⟨k, o, p⟩).osd ⟨o, ho5⟩).up) ∧ W.cell? ⟨ga, 1 + o * 3 + 1, none⟩ = some (.int .i64 ((nextM m ⟨k, o, p⟩).osd ⟨o, ho5⟩).wt) ∧
              W.cell? ⟨w.heap.size, 1 + o * 3, none⟩ = some (.bool (m.osd ⟨o, ho5⟩).up) ∧ W.cell? ⟨w.heap.size, 1 + o * 3 + 1, none⟩ = some (.int .i64 (m.osd ⟨o, ho5⟩).wt)) := by
            intro W ⟨q1, q2, q3, q4, q5⟩
            obtain ⟨x0, x1, x2⟩ := inc_cells q3
            refine ⟨x0, x1, x2, ?_, ?_, ?_, ?_, ?_, ?_⟩
            · rw [q1.cell 0, mapC_epoch, hAe.out, hE.out]
            · rw [q2.cell 0, mapC_epoch]
            · rw [q1.cell (1 + o * 3)]; exact mapC_up _ ⟨o, ho5⟩
            · rw [q1.cell (1 + o * 3 + 1)]; exact mapC_wt _ ⟨o, ho5⟩
            · rw [q2.cell (1 + o * 3)]; exact mapC_up _ ⟨o, ho5⟩
            · rw [q2.cell (1 + o * 3 + 1)]; exact mapC_wt _ ⟨o, ho5⟩
          have hadd : Hid (IntKind.u32.wrap ((m.epoch : Int) + 1) = (E : Int)) := by
            have h1 := hE.out
            show _ = _
            simp [IntKind.wrap, IntKind.bits, IntKind.signed]
            omega
          refine wp_region_lex (fun W => Has W ga 27 (mapC (nextM m ⟨k, o, p⟩)) ∧ Has W w.heap.size 27 (mapC m) ∧ Has W (w.heap.size + 1) 29 (incC ⟨k, o, p⟩) ∧ Has W gb 27 (mapC (nextM m ⟨k, o, p⟩)) ∧ Below w.heap.size w W)
            [(0, true), (1, true), (2, true), (3, true), (4, true), (5, true), (6, true), (7, true), (8, true), (9, true), (10, true), (11, true), (12, true), (13, false), (14, true), (15, true), (16, true), (17, true), (18, true), (19, true), (20, true), (21, true), (22, true), (23, true), (24, true), (25, true), (26, true), (27, true), (28, true), (29, true), (30, true), (31, true), (32, true), (33, true), (34, true), (35, true), (36, true), (37, true), (38, true), (39, true), (40, true), (41, true), (42, true), (43, true), (44, true), (45, true), (46, true), (47, true), (48, true), (49, true), (50, true), (51, true), (52, true), (53, true), (54, true), (55, true), (56, true), (57, true), (58, true), (59, true), (60, true), (61, true), (62, true), (63, true), (64, true), (65, true), (66, true), (67, true), (68, true), (69, true), (70, true), (71, true), (72, true), (73, true), (74, true), (75, true), (76, true), (77, true), (78, true), (79, true), (80, true), (81, true), (82, true), (83, true), (84, true), (85, true), (86, true), (87, true), (88, true), (89, true), (90, true), (91, true), (92, true), (93, true), (94, true), (95, true)]
            (by kernel_rfl) (by kernel_rfl) (by kernel_rfl) ⟨hA6.drew, hM6.drew, hX6.drew, hB6.drew, hb6.drew⟩ ?_
          refine plan_take _ _ rfl (yields_map (nextM m ⟨k, o, p⟩) (by rfl) _ rfl ga rfl (fun _ h => h.1)) ?_
          try simp only [Act.put, List.setIfInBounds_toArray, List.set_cons_zero, List.set_cons_succ]
          refine plan_take _ _ rfl (yields_map (nextM m ⟨k, o, p⟩) (by rfl) _ rfl gb rfl (fun _ h => h.2.2.2.1)) ?_
          try simp only [Act.put, List.setIfInBounds_toArray, List.set_cons_zero, List.set_cons_succ]
          refine plan_take _ _ rfl (yields_eq_map (nextM m ⟨k, o, p⟩) (nextM m ⟨k, o, p⟩) hAo.out hAo.out (by rfl) _ _ _ rfl rfl rfl) ?_
          rw [hss]
          try simp only [Act.put, List.setIfInBounds_toArray, List.set_cons_zero, List.set_cons_succ]
          iterate 5
            first
              | (refine plan_pass _ rfl (by rfl) ?_)
              | (refine plan_take _ _ rfl (.inl ⟨by rfl, fun W hS => by obtain ⟨z1, z2, z3, z4, z5, z6, z7, z8, z9⟩ := hfacts.out W hS; clear hS; go_simp; try with_reducible rfl⟩) ?_)
            try simp only [Act.put, List.setIfInBounds_toArray, List.set_cons_zero, List.set_cons_succ]
          refine plan_take _ (.int .u32 (E : Int)) rfl (.inl ⟨by rfl, fun W hS => by go_simp; first | exact hadd.out | (rw [hadd.out]) | simp [hadd.out]⟩) ?_
          try simp only [Act.put, List.setIfInBounds_toArray, List.set_cons_zero, List.set_cons_succ]
          iterate 3
            first
              | (refine plan_pass _ rfl (by rfl) ?_)
              | (refine plan_take _ _ rfl (.inl ⟨by rfl, fun W hS => by obtain ⟨z1, z2, z3, z4, z5, z6, z7, z8, z9⟩ := hfacts.out W hS; clear hS; go_simp; try with_reducible rfl⟩) ?_)
            try simp only [Act.put, List.setIfInBounds_toArray, List.set_cons_zero, List.set_cons_succ]
          refine plan_take _ _ rfl (yields_map (nextM m ⟨k, o, p⟩) (by rfl) _ rfl ga rfl (fun _ h => h.1)) ?_
          try simp only [Act.put, List.setIfInBounds_toArray, List.set_cons_zero, List.set_cons_succ]
          refine plan_run _ rfl (fun K hK => ?_)
          go_simp
          refine (S.is _ _ hAo.out).mono ?_
          rintro e w7 ⟨rfl, hb7⟩
          rw [hAi.out]
          refine hK.out _ _ ⟨hA6.drew.later hb7, hM6.drew.later hb7, hX6.drew.later hb7, hB6.drew.later hb7, hb6.drew.trans (hb7.mono hb6.drew.size)⟩ ?_
          clear hK K
          iterate 2
            first
              | (refine plan_pass _ rfl (by rfl) ?_)
              | (refine plan_take _ _ rfl (.inl ⟨by rfl, fun W hS => by obtain ⟨z1, z2, z3, z4, z5, z6, z7, z8, z9⟩ := hfacts.out W hS; clear hS; go_simp; try with_reducible rfl⟩) ?_)
            try simp only [Act.put, List.setIfInBounds_toArray, List.set_cons_zero, List.set_cons_succ]
          have hb8 := hb6.drew.trans (hb7.mono hb6.drew.size)
          have hk : k = 1 ∨ k = 2 ∨ k = 3 ∨ k = 4 := by rw [isInc_of, decide_eq_true_iff] at hxi; omega
          rcases hk with hk1 | hk2 | hk3 | hk4
          · subst hk1
            have hnear := next_near m ⟨1, o, p⟩ ⟨o, ho5⟩ rfl
            have e1 : (turn ⟨1, o, p⟩ (m.osd ⟨o, ho5⟩)).up = true := rfl
            have e2 : (turn ⟨1, o, p⟩ (m.osd ⟨o, ho5⟩)).wt = (m.osd ⟨o, ho5⟩).wt := rfl
            rw [hnear, e1, e2] at hfacts
            iterate 80
              first
                | (refine plan_pass _ rfl (by rfl) ?_)
                | (refine plan_take _ _ rfl (.inl ⟨by rfl, fun W hS => by obtain ⟨z1, z2, z3, z4, z5, z6, z7, z8, z9⟩ := hfacts.out W hS; clear hS; go_simp; try with_reducible rfl⟩) ?_)
              try simp only [Act.put, List.setIfInBounds_toArray, List.set_cons_zero, List.set_cons_succ]
            refine plan_done ?_
            go_wp2
            go_ret
            exact ⟨rfl, hb8⟩
          · subst hk2
            have hnear := next_near m ⟨2, o, p⟩ ⟨o, ho5⟩ rfl
            have e1 : (turn ⟨2, o, p⟩ (m.osd ⟨o, ho5⟩)).up = false := rfl
            have e2 : (turn ⟨2, o, p⟩ (m.osd ⟨o, ho5⟩)).wt = (m.osd ⟨o, ho5⟩).wt := rfl
            rw [hnear, e1, e2] at hfacts
            iterate 80
              first
                | (refine plan_pass _ rfl (by rfl) ?_)
                | (refine plan_take _ _ rfl (.inl ⟨by rfl, fun W hS => by obtain ⟨z1, z2, z3, z4, z5, z6, z7, z8, z9⟩ := hfacts.out W hS; clear hS; go_simp; try with_reducible rfl⟩) ?_)
              try simp only [Act.put, List.setIfInBounds_toArray, List.set_cons_zero, List.set_cons_succ]
            refine plan_done ?_
            go_wp2
            go_ret
            exact ⟨rfl, hb8⟩
          · subst hk3
            have hnear := next_near m ⟨3, o, p⟩ ⟨o, ho5⟩ rfl
            have e1 : (turn ⟨3, o, p⟩ (m.osd ⟨o, ho5⟩)).up = (m.osd ⟨o, ho5⟩).up := rfl
            have e2 : (turn ⟨3, o, p⟩ (m.osd ⟨o, ho5⟩)).wt = p := rfl
            rw [hnear, e1, e2] at hfacts
            iterate 80
              first
                | (refine plan_pass _ rfl (by rfl) ?_)
                | (refine plan_take _ _ rfl (.inl ⟨by rfl, fun W hS => by obtain ⟨z1, z2, z3, z4, z5, z6, z7, z8, z9⟩ := hfacts.out W hS; clear hS; go_simp; try with_reducible rfl⟩) ?_)
              try simp only [Act.put, List.setIfInBounds_toArray, List.set_cons_zero, List.set_cons_succ]
            refine plan_done ?_
            go_wp2
            go_ret
            exact ⟨rfl, hb8⟩
          · subst hk4
            have hso : sameO (nextM m ⟨4, o, p⟩) m = true := by rw [next_none _ _ rfl]; exact (sameO_is _ _).2 rfl
            iterate 5
              first
                | (refine plan_pass _ rfl (by rfl) ?_)
                | (refine plan_take _ _ rfl (.inl ⟨by rfl, fun W hS => by obtain ⟨z1, z2, z3, z4, z5, z6, z7, z8, z9⟩ := hfacts.out W hS; clear hS; go_simp; try with_reducible rfl⟩) ?_)
              try simp only [Act.put, List.setIfInBounds_toArray, List.set_cons_zero, List.set_cons_succ]
            refine plan_take _ _ rfl (yields_osds (nextM m ⟨4, o, p⟩) (by rfl) _ rfl ga rfl (fun _ h => h.1)) ?_
            try simp only [Act.put, List.setIfInBounds_toArray, List.set_cons_zero, List.set_cons_succ]
            iterate 1
              first
                | (refine plan_pass _ rfl (by rfl) ?_)
                | (refine plan_take _ _ rfl (.inl ⟨by rfl, fun W hS => by obtain ⟨z1, z2, z3, z4, z5, z6, z7, z8, z9⟩ := hfacts.out W hS; clear hS; go_simp; try with_reducible rfl⟩) ?_)
              try simp only [Act.put, List.setIfInBounds_toArray, List.set_cons_zero, List.set_cons_succ]
            refine plan_take _ _ rfl (yields_osds m (by rfl) _ rfl w.heap.size rfl (fun _ h => h.2.1)) ?_
            try simp only [Act.put, List.setIfInBounds_toArray, List.set_cons_zero, List.set_cons_succ]
            refine plan_take _ _ rfl (yields_bin_agg (by rfl) .eql 25 _ _ _ rfl _ _ rfl rfl _ guard_osds (eq_osds _ _ hAo.out hm)) ?_
            rw [hso]
            try simp only [Act.put, List.setIfInBounds_toArray, List.set_cons_zero, List.set_cons_succ]
            iterate 71
              first
                | (refine plan_pass _ rfl (by rfl) ?_)
                | (refine plan_take _ _ rfl (.inl ⟨by rfl, fun W hS => by obtain ⟨z1, z2, z3, z4, z5, z6, z7, z8, z9⟩ := hfacts.out W hS; clear hS; go_simp; try with_reducible rfl⟩) ?_)
              try simp only [Act.put, List.setIfInBounds_toArray, List.set_cons_zero, List.set_cons_succ]
            refine plan_done ?_
            go_wp2
            go_ret
            exact ⟨rfl, hb8⟩
end Go.Proofs.Ytoffbjdoampebaa
