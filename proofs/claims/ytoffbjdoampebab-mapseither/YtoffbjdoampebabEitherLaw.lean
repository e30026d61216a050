/- paddocklaw3.MapsEither returns true, for whatever increments, where package maps answers as it has to. -/
import Derived.Test.YtoffbjdoampebabMapsKnown
import Derived.Test.YtoffbjdoampebabSliceOf
namespace Go.Proofs.Ytoffbjdoampebab
set_option linter.unusedSimpArgs false
set_option linter.unusedVariables false
open Go.RowKit

theorem next_next (m : MapV) (x y : IncV) (h : x.osd ≠ y.osd) : nextM (nextM m x) y = nextM (nextM m y) x := by
  unfold nextM
  congr 1
  funext j
  by_cases h1 : j.val = x.osd
  · have h2 : ¬ j.val = y.osd := by omega
    simp [h1, h]
  · simp [h1]

theorem fold_two {x y : IncV} (hx : isInc x = true) (hy : isInc y = true) (ox : IncOk x) (oy : IncOk y) : foldM [x, y] = (nextM (nextM firstM x) y, true) := by
  have h1 : okA firstM x = true := (okA_is _ _).2 ⟨by decide, hx, by decide⟩
  have h2 : okA (nextM firstM x) y = true := (okA_is _ _).2 ⟨isM_next (by decide) hx (by decide), hy, show 1 + 1 < 60 by decide⟩
  show (if okA firstM x then (if okA (nextM firstM x) y then (nextM (nextM firstM x) y, true) else (zeroM, false)) else (zeroM, false)) = _
  rw [h1, h2]
  rfl

theorem fold_two_ok {x y : IncV} (ox : IncOk x) (oy : IncOk y) : MapOk (nextM (nextM firstM x) y) := next_ok (next_ok firstM_ok ox (by decide)) oy (show 1 + 1 < 60 by decide)

set_option maxRecDepth 100000 in
set_option maxHeartbeats 2000000 in
theorem either_walk (S : MapsSpec) (x y : IncV) (w : World) (hx : IncOk x) (hy : IncOk y) :
    Calls Try.prog 3 #[.agg (incC x), .agg (incC y)] w fun e w' => e = .returned (.bool true) ∧ Below w.heap.size w w' := by
  have hX0 : Has ((w.alloc (.cells (incC x) 23)).alloc (.cells (incC y) 23)) w.heap.size 23 (incC x) := (Has.new _ _ _).alloc _
  have hY0 : Has ((w.alloc (.cells (incC x) 23)).alloc (.cells (incC y) 23)) (w.heap.size + 1) 23 (incC y) := by
    have := Has.new (w.alloc (.cells (incC x) 23)) 23 (incC y)
    simpa using this
  have hb0 : Below w.heap.size w ((w.alloc (.cells (incC x) 23)).alloc (.cells (incC y) 23)) := ((Below.refl _ _).alloc (Nat.le_refl _) _).alloc (by simp) _
  go_enter Try.func3, Try.ntmps3
  go_wp2_with (first
    | (go_at_call 4; refine (known_any S _).mono ?_; rintro e w1 ⟨rfl, hb1⟩; have hX := hX0.later hb1; have hY := hY0.later hb1; have hb := hb0.trans (hb1.mono hb0.size); clear hb1 hX0 hY0 hb0)
    | (refine load_inc x (by rfl) _ rfl w.heap.size rfl ?hg ?_; (case hg => exact hX)))
  refine (S.isinc x _ hx).mono ?_
  rintro e w2 ⟨rfl, hb2⟩
  replace hX := hX.later hb2
  replace hY := hY.later hb2
  replace hb2 := hb.trans (hb2.mono hb.size)
  clear hb
  cases hI : isInc x with
  | false =>
    go_wp2
    go_ret
    exact ⟨rfl, hb2⟩
  | true =>
    go_wp2_with (first
      | (refine load_inc y (by rfl) _ rfl (w.heap.size + 1) rfl ?hg ?_; (case hg => exact hY)))
    refine (S.isinc y _ hy).mono ?_
    rintro e w3 ⟨rfl, hb3⟩
    replace hX := hX.later hb3
    replace hY := hY.later hb3
    replace hb3 := hb2.trans (hb3.mono hb2.size)
    clear hb2
    cases hJ : isInc y with
    | false =>
      go_wp2
      go_ret
      exact ⟨rfl, hb3⟩
    | true =>
      have hf1 : Hid _ := fold_two hI hJ hx hy
      have hf2 : Hid _ := fold_two hJ hI hy hx
      have hm1 : Hid _ := fold_two_ok hx hy
      have hm2 : Hid _ := fold_two_ok hy hx
      have hnn : Hid _ := next_next firstM x y
      obtain ⟨k, o, n⟩ := x
      obtain ⟨k', o', n'⟩ := y
      obtain ⟨c0, c1, c2⟩ := inc_cells hX
      obtain ⟨d0, d1, d2⟩ := inc_cells hY
      by_cases ho : o = o'
      · have ho1 : ((o : Int) == (o' : Int)) = true := by rw [beq_iff_eq]; omega
        have ho2 : (o == o') = true := by rw [beq_iff_eq]; exact ho
        clear ho
        go_wp2
        go_ret
        exact ⟨rfl, hb3⟩
      · have ho1 : ((o : Int) == (o' : Int)) = false := by rw [beq_eq_false_iff_ne]; omega
        have ho2 : (o == o') = false := by rw [beq_eq_false_iff_ne]; exact ho
        have hsame : Hid (sameM (nextM (nextM firstM ⟨k, o, n⟩) ⟨k', o', n'⟩) (nextM (nextM firstM ⟨k', o', n'⟩) ⟨k, o, n⟩) = true) := (sameM_is _ _).2 (hnn.out ho)
        clear ho hnn
        have hS1 : Sl (w3.alloc (.cells #[.int .u8 k, .int .u8 o, .int .i64 n, .int .u8 k', .int .u8 o', .int .i64 n'] 23)) (some ⟨w3.heap.size, 0, none⟩) 2 3 ([⟨k, o, n⟩, ⟨k', o', n'⟩].map fun x : IncV => (incC x).toList) :=
          Sl.of_block (rows := [⟨k, o, n⟩, ⟨k', o', n'⟩].map fun x : IncV => (incC x).toList) (t := 23) (Has.new w3 23 #[.int .u8 k, .int .u8 o, .int .i64 n, .int .u8 k', .int .u8 o', .int .i64 n']) (fun r hr => by obtain ⟨x, _, rfl⟩ := List.mem_map.1 hr; rfl) (by show 2 ≤ 1000000; decide)
        have hfold := S.fold (some ⟨w3.heap.size, 0, none⟩) 2 [⟨k, o, n⟩, ⟨k', o', n'⟩] _ hS1 (by intro z hz; simp at hz; exact hz.elim (fun e => e ▸ hx) (fun e => e ▸ hy)) (by show 2 ≤ 1000000; decide)
        rw [hf1.out, errI_true] at hfold
        have hX1 := hX.alloc (.cells #[.int .u8 k, .int .u8 o, .int .i64 n, .int .u8 k', .int .u8 o', .int .i64 n'] 23)
        have hY1 := hY.alloc (.cells #[.int .u8 k, .int .u8 o, .int .i64 n, .int .u8 k', .int .u8 o', .int .i64 n'] 23)
        have hb4 := hb3.alloc hb3.size (.cells #[.int .u8 k, .int .u8 o, .int .i64 n, .int .u8 k', .int .u8 o', .int .i64 n'] 23)
        go_wp2_with fail
        refine hfold.mono ?_
        rintro e w4 ⟨rfl, hb5⟩
        clear hfold hS1 c0 c1 c2 d0 d1 d2 hX hY hb3 hf1
        replace hX1 := hX1.later hb5
        replace hY1 := hY1.later hb5
        replace hb5 := hb4.trans (hb5.mono hb4.size)
        clear hb4
        have hlx := hX1.lt
        have hly := hY1.lt
        generalize nextM (nextM firstM ⟨k, o, n⟩) ⟨k', o', n'⟩ = M at *
        have hX2 := (hX1.alloc (.cells (mapC zeroM) 31)).row_other (k := w4.heap.size) (by omega) (mapC M)
        have hY2 := (hY1.alloc (.cells (mapC zeroM) 31)).row_other (k := w4.heap.size) (by omega) (mapC M)
        have hM2 := (Has.new w4 31 (mapC zeroM)).row (mapC M)
        have hb6 := below_setRow (hb5.alloc hb5.size (.cells (mapC zeroM) 31)) hb5.size (mapC M)
        clear hX1 hY1 hb5 hlx hly
        go_wp2_with (first
          | (refine alloc_map (by rfl) rfl ?_)
          | (refine store_map _ zeroM (by rfl) _ _ rfl _ rfl rfl ?hg ?_; (case hg => exact Has.new _ _ _); generalize (w4.alloc (.cells (mapC zeroM) 31)).setRow w4.heap.size (mapC M) = w5 at *; generalize w4.heap.size = gm at *; obtain ⟨c0, c1, c2⟩ := inc_cells hX2; obtain ⟨d0, d1, d2⟩ := inc_cells hY2; have hbS := hb6.size))
        have hS2 : Sl (w5.alloc (.cells #[.int .u8 k', .int .u8 o', .int .i64 n', .int .u8 k, .int .u8 o, .int .i64 n] 23)) (some ⟨w5.heap.size, 0, none⟩) 2 3 ([⟨k', o', n'⟩, ⟨k, o, n⟩].map fun x : IncV => (incC x).toList) :=
          Sl.of_block (rows := [⟨k', o', n'⟩, ⟨k, o, n⟩].map fun x : IncV => (incC x).toList) (t := 23) (Has.new w5 23 #[.int .u8 k', .int .u8 o', .int .i64 n', .int .u8 k, .int .u8 o, .int .i64 n]) (fun r hr => by obtain ⟨x, _, rfl⟩ := List.mem_map.1 hr; rfl) (by show 2 ≤ 1000000; decide)
        have hfold := S.fold (some ⟨w5.heap.size, 0, none⟩) 2 [⟨k', o', n'⟩, ⟨k, o, n⟩] _ hS2 (by intro z hz; simp at hz; exact hz.elim (fun e => e ▸ hy) (fun e => e ▸ hx)) (by show 2 ≤ 1000000; decide)
        rw [hf2.out, errI_true] at hfold
        have hM3 := hM2.alloc (.cells #[.int .u8 k', .int .u8 o', .int .i64 n', .int .u8 k, .int .u8 o, .int .i64 n] 23)
        have hb7 := hb6.alloc hb6.size (.cells #[.int .u8 k', .int .u8 o', .int .i64 n', .int .u8 k, .int .u8 o, .int .i64 n] 23)
        refine hfold.mono ?_
        rintro e w6 ⟨rfl, hb8⟩
        clear hfold hS2 c0 c1 c2 d0 d1 d2 hX2 hY2 hM2 hb6 hf2
        replace hM3 := hM3.later hb8
        replace hb8 := hb7.trans (hb8.mono hb7.size)
        clear hb7
        have hlm := hM3.lt
        generalize nextM (nextM firstM ⟨k', o', n'⟩) ⟨k, o, n⟩ = M' at *
        have hM4 := (hM3.alloc (.cells (mapC zeroM) 31)).row_other (k := w6.heap.size) (by omega) (mapC M')
        have hN4 := (Has.new w6 31 (mapC zeroM)).row (mapC M')
        have hb9 := below_setRow (hb8.alloc hb8.size (.cells (mapC zeroM) 31)) hb8.size (mapC M')
        clear hM3 hb8
        go_wp2_with (first
          | (refine alloc_map (by rfl) rfl ?_)
          | (refine store_map _ zeroM (by rfl) _ _ rfl _ rfl rfl ?hg ?_; (case hg => exact Has.new _ _ _); generalize (w6.alloc (.cells (mapC zeroM) 31)).setRow w6.heap.size (mapC M') = w7 at *; generalize w6.heap.size = gn at *)
          | (refine load_map M (by first | rfl | simp [Region.wanted, yielded]) _ rfl gm rfl ?hg ?_; (case hg => exact hM4))
          | (refine load_map M' (by first | rfl | simp [Region.wanted, yielded]) _ rfl gn rfl ?hg ?_; (case hg => exact hN4))
          | (refine bin_map M M' hm1.out hm2.out (by first | rfl | simp [Region.wanted, yielded]) _ _ _ rfl rfl rfl ?_; rw [hsame.out]))
        go_ret
        exact ⟨rfl, hb9⟩
end Go.Proofs.Ytoffbjdoampebab
