/- paddocklaw10.BallotKeeps returns true, for whatever number, increments, bytes. -/
import Derived.Test.YtlcappkokdgpgaaBalKnown
import Derived.Test.YtlcappkokdgpgaaBalFacts
import Derived.Test.YtlcappkokdgpgaaVal32
namespace Go.Proofs.Ytlcappkokdgpgaa
set_option linter.unusedSimpArgs false
set_option linter.unusedVariables false
set_option maxRecDepth 100000
open Go.RowKit

theorem inc_b3 (k o : Nat) (n : Int) : Try.prog.built 31 [(0, .int .u8 (k : Int)), (1, .int .u8 (o : Int)), (2, .int .i64 n)] = some (incC ⟨k, o, n⟩) := by kernel_rfl
theorem wpList_build_three {P : Program} {ops : Array Oper} {rest : List Oper} {o : Oper} {a : Act} {w : World} {Q : Exit → Act → World → Prop} (hw : Region.wanted o (yielded ops a.tmps) = true) (t : TypeId) (i j k : Nat) (x y z : Operand) (ho : o.op = .build t #[(i, x), (j, y), (k, z)]) (u v s : Value) (hx : a.eval x = u) (hy : a.eval y = v) (hz : a.eval z = s) (c : Array Value) (hf : P.built t [(i, u), (j, v), (k, s)] = some c)
    (h : wpList P ops Q rest (a.put o.dst (.agg c)) w) : wpList P ops Q (o :: rest) a w :=
  wpList_build_has hw t _ ho c (by simpa [hx, hy, hz] using hf) h
theorem yields_val {P : Program} {ops : Array Oper} {S : World → Prop} {o : Oper} {a : Act} (v : Value) (hw : Region.wanted o (yielded ops a.tmps) = true) (hr : ∀ w, (execOp a.eval o).run P w = .ok (.value v) w) : YieldsIf P ops S o v a := .inl ⟨hw, fun w _ => hr w⟩
theorem same_inc (x : IncV) : sameInc x x = true := (sameInc_is _ _).2 rfl

def arr3 (a b c : Nat) : Array Value := #[.int .u8 a, .int .u8 b, .int .u8 c]

set_option maxHeartbeats 8000000 in
theorem keeps_walk (n : Nat) (x y : IncV) (k0 k1 k2 : Nat) (w : World) (hn : n < 4294967296) (hx : IncOk x) (hy : IncOk y) (h0 : k0 < 256) (h1 : k1 < 256) (h2 : k2 < 256) :
    Calls Try.prog 6 #[.int .u32 (n : Int), .agg (incC x), .agg (incC y), .agg (arr3 k0 k1 k2)] w fun e w' => e = .returned (.bool true) ∧ Below w.heap.size w w' := by
  obtain ⟨w1, hw1, hX, hY, hW, hbw⟩ := three_vars w 31 31 48 (incC x) (incC y) (arr3 k0 k1 k2)
  obtain ⟨q, hq0⟩ : ∃ q, n % 1000 = q := ⟨_, rfl⟩
  have hq1 : q < 1000 := by omega
  obtain ⟨m, hm⟩ : ∃ m, q + 1 = m := ⟨_, rfl⟩
  have hm1 : 0 < m ∧ m ≤ 1000 := by omega
  obtain ⟨m1, hm2⟩ : ∃ m', m + 1 = m' := ⟨_, rfl⟩
  obtain ⟨m2, hm3⟩ : ∃ m', m + 2 = m' := ⟨_, rfl⟩
  have hml : m < m1 ∧ m1 < m2 ∧ m2 ≤ 1002 := by omega
  obtain ⟨o1, ho1⟩ : ∃ o, x.osd % 5 = o := ⟨_, rfl⟩
  obtain ⟨o2, ho2⟩ : ∃ o, y.osd % 5 = o := ⟨_, rfl⟩
  obtain ⟨r0, hr0⟩ : ∃ r, k0 % 3 = r := ⟨_, rfl⟩
  obtain ⟨r1, hr1⟩ : ∃ r, k1 % 3 = r := ⟨_, rfl⟩
  obtain ⟨r2, hr2⟩ : ∃ r, k2 % 3 = r := ⟨_, rfl⟩
  have ho1b : o1 < 5 := by omega
  have ho2b : o2 < 5 := by omega
  have hr0b : r0 < 3 := by omega
  have hr1b : r1 < 3 := by omega
  have hr2b : r2 < 3 := by omega
  obtain ⟨b, hb⟩ : ∃ b : BalV, b = ⟨m, r0⟩ := ⟨_, rfl⟩
  obtain ⟨c, hc⟩ : ∃ b : BalV, b = ⟨m1, r1⟩ := ⟨_, rfl⟩
  obtain ⟨d, hd⟩ : ∃ b : BalV, b = ⟨m2, r2⟩ := ⟨_, rfl⟩
  obtain ⟨X, hXe⟩ : ∃ X : IncV, X = ⟨3, o1, 3⟩ := ⟨_, rfl⟩
  obtain ⟨Y, hYe⟩ : ∃ Y : IncV, Y = ⟨1, o2, 0⟩ := ⟨_, rfl⟩
  have hbo : BalOk b := hb ▸ ⟨by show m < _; omega, by show r0 < _; omega⟩
  have hco : BalOk c := hc ▸ ⟨by show m1 < _; omega, by show r1 < _; omega⟩
  have hdo : BalOk d := hd ▸ ⟨by show m2 < _; omega, by show r2 < _; omega⟩
  have hXo : IncOk X := hXe ▸ ⟨by show 3 < 256; decide, by show o1 < 256; omega, by show (-9223372036854775808 : Int) ≤ 3; decide, by show (3 : Int) ≤ 9223372036854775807; decide⟩
  have hYo : IncOk Y := hYe ▸ ⟨by show 1 < 256; decide, by show o2 < 256; omega, by show (-9223372036854775808 : Int) ≤ 0; decide, by show (0 : Int) ≤ 9223372036854775807; decide⟩
  have hbi : isB b = true := hb ▸ isB_of hm1.1 hr0b
  have hci : isB c = true := hc ▸ isB_of (by omega) hr1b
  have hdi : isB d = true := hd ▸ isB_of (by omega) hr2b
  have hXi : isInc X = true := hXe ▸ inc3 ho1b
  have hYi : isInc Y = true := hYe ▸ inc1 ho2b
  have lbc : lessB b c = true := by rw [hb, hc]; exact less_yes hml.1
  have lcb : lessB c b = false := by rw [hb, hc]; exact less_no hml.1
  have ldc : lessB d c = false := by rw [hc, hd]; exact less_no hml.2.1
  obtain ⟨f1, f2⟩ := acc_yes acc0 b X hXi hbi (less_0 b)
  obtain ⟨f3, f4, f5, f6, f7⟩ := prep_yes ⟨b, b, X⟩ c hci lcb
  obtain ⟨f8, f9⟩ := acc_nack ⟨c, b, X⟩ b Y hYi hbi lbc
  obtain ⟨f10, f11⟩ := acc_yes ⟨c, b, X⟩ c Y hYi hci (less_same c)
  obtain ⟨f12, f13, f14, f15, f16⟩ := prep_yes ⟨c, c, Y⟩ d hdi ldc
  rw [has_of hbi] at f7
  rw [has_of hci] at f16
  have ha1 : AccOk ⟨b, b, X⟩ := ⟨hbo, hbo, hXo⟩
  have ha2 : AccOk ⟨c, b, X⟩ := ⟨hco, hbo, hXo⟩
  have ha3 : AccOk ⟨c, c, Y⟩ := ⟨hco, hco, hYo⟩
  replace hq0 : Hid _ := hq0
  replace hm : Hid _ := hm
  replace hm2 : Hid _ := hm2
  replace hm3 : Hid _ := hm3
  replace ho1 : Hid _ := ho1
  replace ho2 : Hid _ := ho2
  replace hr0 : Hid _ := hr0
  replace hr1 : Hid _ := hr1
  replace hr2 : Hid _ := hr2
  replace hb : Hid _ := hb
  replace hc : Hid _ := hc
  replace hd : Hid _ := hd
  replace hXe : Hid _ := hXe
  replace hYe : Hid _ := hYe
  clear hbi hci hdi hXi hYi lbc lcb ldc
  replace f1 : Hid _ := f1
  replace f2 : Hid _ := f2
  replace f3 : Hid _ := f3
  replace f4 : Hid _ := f4
  replace f5 : Hid _ := f5
  replace f6 : Hid _ := f6
  replace f7 : Hid _ := f7
  replace f8 : Hid _ := f8
  replace f9 : Hid _ := f9
  replace f10 : Hid _ := f10
  replace f11 : Hid _ := f11
  replace f12 : Hid _ := f12
  replace f13 : Hid _ := f13
  replace f14 : Hid _ := f14
  replace f15 : Hid _ := f15
  replace f16 : Hid _ := f16
  go_enter Try.func6, Try.ntmps6
  go_wp2_with fail
  refine (bknown_any _).mono ?_
  rintro e w2 ⟨rfl, hq⟩
  replace hX := hX.later hq
  replace hY := hY.later hq
  replace hW := hW.later hq
  replace hbw := hbw.trans (hq.mono hbw.size)
  clear hq hw1
  have cx := (hX.cell 1).trans (show _ = some (.int .u8 (x.osd : Int)) from rfl)
  have hX3 := hX.row (incC X)
  have hY3 := hY.row_other (k := w.heap.size) (by omega) (incC X)
  have hW3 := hW.row_other (k := w.heap.size) (by omega) (incC X)
  have hb3 := below_setRow hbw (Nat.le_refl _) (incC X)
  obtain ⟨w3, hw3⟩ : ∃ W, w2.setRow w.heap.size (incC X) = W := ⟨_, rfl⟩
  rw [hw3] at hX3 hY3 hW3 hb3
  have cy := (hY3.cell 1).trans (show _ = some (.int .u8 (y.osd : Int)) from rfl)
  have hX4 := hX3.row_other (k := w.heap.size + 1) (by omega) (incC Y)
  have hY4 := hY3.row (incC Y)
  have hW4 := hW3.row_other (k := w.heap.size + 1) (by omega) (incC Y)
  have hb4 := below_setRow hb3 (show w.heap.size ≤ w.heap.size + 1 by omega) (incC Y)
  obtain ⟨w4, hw4⟩ : ∃ W, w3.setRow (w.heap.size + 1) (incC Y) = W := ⟨_, rfl⟩
  rw [hw4] at hX4 hY4 hW4 hb4
  go_wp2_with (first
    | (refine wpList_val (.int .u32 (q : Int)) (by rfl) (run_rem_n32 _ _ _ _ rfl n 1000 q rfl rfl hn (by decide) hq0.out) ?_)
    | (refine wpList_val (.int .u32 (m : Int)) (by rfl) (run_add_n32 _ _ _ _ rfl q 1 m rfl rfl hm.out (by omega)) ?_)
    | (refine wpList_val (.int .u8 (o1 : Int)) (by rfl) (run_rem_u8 _ _ _ _ rfl x.osd 5 o1 rfl rfl hx.osd (by decide) ho1.out) ?_)
    | (refine wpList_val (.int .u8 (o2 : Int)) (by rfl) (run_rem_u8 _ _ _ _ rfl y.osd 5 o2 rfl rfl hy.osd (by decide) ho2.out) ?_)
    | (refine wpList_build_three (by rfl) 31 0 1 2 _ _ _ rfl _ _ _ rfl rfl rfl _ (inc_b3 3 o1 3) ?_; rw [← hXe.out])
    | (refine wpList_build_two (by rfl) 31 0 1 _ _ rfl _ _ rfl rfl _ (inc_b2 1 o2) ?_; rw [← hYe.out])
    | (refine store_inc X x (by rfl) _ _ rfl w.heap.size rfl rfl ?hg ?_; (case hg => exact hX); rw [hw3])
    | (refine store_inc Y y (by rfl) _ _ rfl (w.heap.size + 1) rfl rfl ?hg ?_; (case hg => exact hY3); rw [hw4]))
  clear hX hY hW hbw cx cy hX3 hY3 hW3 hb3 hw3 hw4
  have hsz4 := hW4.lt
  refine (bnew_any _).mono ?_
  rintro e w5 ⟨p, rfl, hp, hA, hq⟩
  have hE : Env w w5 [(w.heap.size, 31, incC X), (w.heap.size + 1, 31, incC Y), (w.heap.size + 1 + 1, 48, arr3 k0 k1 k2)] := ((((Env.start hb4).add hX4).add hY4).add hW4).later hq
  have hP : Apart p [(w.heap.size, 31, incC X), (w.heap.size + 1, 31, incC Y), (w.heap.size + 1 + 1, 48, arr3 k0 k1 k2)] := (((Apart.nil p).add (by omega) _ _).add (by omega) _ _).add (by omega) _ _
  replace hp : w.heap.size ≤ p := by omega
  have hplt := hA.lt
  clear hX4 hY4 hW4 hb4 hq hsz4
  obtain ⟨w6, hw6, hB, hq⟩ := new_var w5 29 (balC bal0) (balC b)
  have cw := ((hE.get 2 rfl).cell 0).trans (show _ = some (.int .u8 (k0 : Int)) from rfl)
  replace hP := hP.add (show w5.heap.size ≠ p by omega) 29 (balC b)
  replace hE := (hE.later hq).add hB
  replace hA := hA.later hq
  have hplt6 := hA.lt
  go_wp2_with (first
    | (refine wpList_val (.int .u8 (r0 : Int)) (by rfl) (run_rem_u8 _ _ _ _ rfl k0 3 r0 rfl rfl h0 (by decide) hr0.out) ?_)
    | (refine wpList_build_two (by rfl) 29 0 1 _ _ rfl _ _ rfl rfl _ (bal_built2 m r0) ?_; rw [← hb.out])
    | (refine alloc_bal (by rfl) rfl ?_)
    | (refine store_bal b bal0 (by rfl) _ _ rfl w5.heap.size rfl rfl ?hg ?_; (case hg => exact Has.new _ _ _); rw [hw6]))
  clear hq hB hw6 cw hplt
  obtain ⟨gb, hgb⟩ : ∃ g, g = w5.heap.size := ⟨_, rfl⟩
  rw [← hgb] at hE hP ⊢
  clear hgb
  generalize hL : ([(w.heap.size, 31, incC X), (w.heap.size + 1, 31, incC Y), (w.heap.size + 1 + 1, 48, arr3 k0 k1 k2)] ++ [(gb, 29, balC b)] : List Var) = L at *
  obtain rfl : L = [(w.heap.size, 31, incC X), (w.heap.size + 1, 31, incC Y), (w.heap.size + 1 + 1, 48, arr3 k0 k1 k2), (gb, 29, balC b)] := hL.symm
  clear hL
  have hbs := hE.below.size
  have hltE := hE.lt
  refine wp_region_plan (fun W => Env w W _) (Plan.of [(0, true), (1, true), (2, true), (3, true), (4, true), (5, true), (6, true), (7, true), (8, true), (9, true), (10, true), (11, true)] (.either 12 (Plan.of [(13, false), (14, false), (15, false)] .done) 13 (Plan.of [(12, false), (14, false), (15, false)] .done))) (by kernel_rfl) (by kernel_rfl) (by kernel_rfl) (by kernel_rfl) hE.drew ?_
  iterate 1
    first
      | (refine plan_pass _ rfl (by rfl) ?_)
      | (refine plan_take _ _ rfl (.inl ⟨by rfl, fun W hS => by clear hS; go_simp; try with_reducible rfl⟩) ?_)
    try simp only [Act.put, List.setIfInBounds_toArray, List.set_cons_zero, List.set_cons_succ]
  refine plan_take _ _ rfl (yields_val (.int .u32 (m1 : Int)) (by rfl) (run_add_n32 _ _ _ _ rfl m 1 m1 rfl rfl hm2.out (by omega))) ?_
  try simp only [Act.put, List.setIfInBounds_toArray, List.set_cons_zero, List.set_cons_succ]
  iterate 1
    first
      | (refine plan_pass _ rfl (by rfl) ?_)
      | (refine plan_take _ _ rfl (.inl ⟨by rfl, fun W hS => by clear hS; go_simp; try with_reducible rfl⟩) ?_)
    try simp only [Act.put, List.setIfInBounds_toArray, List.set_cons_zero, List.set_cons_succ]
  iterate 1
    first
      | (refine plan_pass _ rfl (by rfl) ?_)
      | (refine plan_take _ _ rfl (.inl ⟨by rfl, fun W hS => by have z := ((hS.get 2 rfl).cell 1).trans (show _ = some (.int .u8 (k1 : Int)) from rfl); go_simp; try with_reducible rfl⟩) ?_)
    try simp only [Act.put, List.setIfInBounds_toArray, List.set_cons_zero, List.set_cons_succ]
  refine plan_take _ _ rfl (yields_val (.int .u8 (r1 : Int)) (by rfl) (run_rem_u8 _ _ _ _ rfl k1 3 r1 rfl rfl h1 (by decide) hr1.out)) ?_
  try simp only [Act.put, List.setIfInBounds_toArray, List.set_cons_zero, List.set_cons_succ]
  refine plan_take _ _ rfl (yields_build_bal m1 r1 (by rfl) _ _ rfl rfl rfl) ?_
  rw [← hc.out]
  try simp only [Act.put, List.setIfInBounds_toArray, List.set_cons_zero, List.set_cons_succ]
  iterate 1
    first
      | (refine plan_pass _ rfl (by rfl) ?_)
      | (refine plan_take _ _ rfl (.inl ⟨by rfl, fun W hS => by clear hS; go_simp; try with_reducible rfl⟩) ?_)
    try simp only [Act.put, List.setIfInBounds_toArray, List.set_cons_zero, List.set_cons_succ]
  refine plan_take _ _ rfl (yields_val (.int .u32 (m2 : Int)) (by rfl) (run_add_n32 _ _ _ _ rfl m 2 m2 rfl rfl hm3.out (by omega))) ?_
  try simp only [Act.put, List.setIfInBounds_toArray, List.set_cons_zero, List.set_cons_succ]
  iterate 1
    first
      | (refine plan_pass _ rfl (by rfl) ?_)
      | (refine plan_take _ _ rfl (.inl ⟨by rfl, fun W hS => by clear hS; go_simp; try with_reducible rfl⟩) ?_)
    try simp only [Act.put, List.setIfInBounds_toArray, List.set_cons_zero, List.set_cons_succ]
  iterate 1
    first
      | (refine plan_pass _ rfl (by rfl) ?_)
      | (refine plan_take _ _ rfl (.inl ⟨by rfl, fun W hS => by have z := ((hS.get 2 rfl).cell 2).trans (show _ = some (.int .u8 (k2 : Int)) from rfl); go_simp; try with_reducible rfl⟩) ?_)
    try simp only [Act.put, List.setIfInBounds_toArray, List.set_cons_zero, List.set_cons_succ]
  refine plan_take _ _ rfl (yields_val (.int .u8 (r2 : Int)) (by rfl) (run_rem_u8 _ _ _ _ rfl k2 3 r2 rfl rfl h2 (by decide) hr2.out)) ?_
  try simp only [Act.put, List.setIfInBounds_toArray, List.set_cons_zero, List.set_cons_succ]
  refine plan_take _ _ rfl (yields_build_bal m2 r2 (by rfl) _ _ rfl rfl rfl) ?_
  rw [← hd.out]
  try simp only [Act.put, List.setIfInBounds_toArray, List.set_cons_zero, List.set_cons_succ]
  replace hE := hE.drew
  replace hA := hA.drew
  replace hplt6 : p < w6.drew.heap.size := hplt6
  replace hbs : w.heap.size ≤ w6.drew.heap.size := hbs
  generalize w6.drew = wd at *
  have hn1 : ∀ e ∈ [(w.heap.size, 31, incC X), (w.heap.size + 1, 31, incC Y), (w.heap.size + 1 + 1, 48, arr3 k0 k1 k2), (gb, 29, balC b)], e.1 ≠ wd.heap.size := hE.ne (Nat.le_refl _)
  have hn2 : ∀ e ∈ [(w.heap.size, 31, incC X), (w.heap.size + 1, 31, incC Y), (w.heap.size + 1 + 1, 48, arr3 k0 k1 k2), (gb, 29, balC b)], e.1 ≠ wd.heap.size + 1 := hE.ne (Nat.le_succ _)
  obtain ⟨v0, hv0, hC0, hD0, _⟩ := two_vars wd 29 29 (balC bal0) (balC bal0)
  have hE0 := (hE.alloc 29 (balC bal0)).alloc 29 (balC bal0)
  have hA0 := (hA.alloc (.cells (balC bal0) 29)).alloc (.cells (balC bal0) 29)
  rw [hv0] at hE0 hA0
  refine plan_either ?_ ?_
  · refine plan_alloc_has _ rfl (by rfl) 29 rfl (balC bal0) bal_zero (hE.alloc _ _) ?_
    try simp only [Act.put, List.setIfInBounds_toArray, List.set_cons_zero, List.set_cons_succ]
    refine plan_alloc_has _ rfl (by rfl) 29 rfl (balC bal0) bal_zero (by rw [hv0]; exact hE0) ?_
    rw [alloc_sz, hv0]
    try simp only [Act.put, List.setIfInBounds_toArray, List.set_cons_zero, List.set_cons_succ]
    have hE1 := hE0.row_other wd.heap.size (by omega) hn1 (balC c)
    have hE2 := hE1.row_other (wd.heap.size + 1) (by omega) hn2 (balC d)
    have hD1 := hD0.row_other (k := wd.heap.size) (by omega) (balC c)
    have hC2 := (hC0.row (balC c)).row_other (k := wd.heap.size + 1) (by omega) (balC d)
    have hD2 := hD1.row (balC d)
    have hA2 := (hA0.row_other (k := wd.heap.size) (by omega) (balC c)).row_other (k := wd.heap.size + 1) (by omega) (balC d)
    refine plan_store_has _ rfl (by rfl) 29 _ _ rfl wd.heap.size rfl (balC c) rfl 29 (balC bal0) (bal_size _) rfl (bal_one _) hC0 hE1 ?_
    try simp only [Act.put, List.setIfInBounds_toArray, List.set_cons_zero, List.set_cons_succ]
    refine plan_store_has _ rfl (by rfl) 29 _ _ rfl (wd.heap.size + 1) rfl (balC d) rfl 29 (balC bal0) (bal_size _) rfl (bal_one _) hD1 hE2 ?_
    try simp only [Act.put, List.setIfInBounds_toArray, List.set_cons_zero, List.set_cons_succ]
    refine plan_done ?_
    have hgc : wd.heap.size ≠ p := by omega
    have hgd : wd.heap.size + 1 ≠ p := by omega
    clear hE hA hE0 hA0 hE1 hD1 hv0 hC0 hD0 hn1 hn2
    generalize (v0.setRow wd.heap.size (balC c)).setRow (wd.heap.size + 1) (balC d) = w7 at *
    generalize wd.heap.size + 1 = gd at *
    generalize wd.heap.size = gc at *
    replace hE := (hE2.add hC2).add hD2
    replace hP := (hP.add hgc 29 (balC c)).add hgd 29 (balC d)
    clear hE2 hC2 hD2 hltE hgc hgd
    have hA := hA2
    have hplt := hA.lt
    clear hA2 hbs hplt6
    have hk := accept_any p acc0 b X w7 hA acc0_ok hbo hXo
    rw [f1.out, f2.out] at hk
    go_wp2_with (first
      | (refine load_bal b (by rfl) _ rfl gb rfl ?hg ?_; (case hg => exact hE.get 3 rfl))
      | (refine load_inc X (by rfl) _ rfl w.heap.size rfl ?hg ?_; (case hg => exact hE.get 0 rfl)))
    refine hk.mono ?_
    rintro e w8 ⟨rfl, hA, hq⟩
    replace hE := hE.but hq hp hP
    have hlt8 := hA.lt
    clear hk hq hplt
    have hk := prepare_any p ⟨b, b, X⟩ c w8 hA ha1 hco
    rw [f3.out, f4.out, f5.out, f6.out, f7.out] at hk
    go_wp2_with (first
      | (refine load_bal c (by rfl) _ rfl gc rfl ?hg ?_; (case hg => exact hE.get 4 rfl)))
    refine hk.mono ?_
    rintro e w9 ⟨rfl, hA, hq⟩
    replace hE := hE.but hq hp hP
    have hlt9 := hA.lt
    clear hk hq hlt8
    obtain ⟨v1, hv1, hL, hM, v2, hv2, hL2, hM2, hq⟩ := two_filled w9 b X
    replace hP := (hP.add (show (w9).heap.size ≠ p by omega) 29 (balC b)).add (show (w9).heap.size + 1 ≠ p by omega) 31 (incC X)
    replace hE := ((hE.later hq).add hL2).add hM2
    replace hA := hA.later hq
    have hlt := hA.lt
    clear hq hL2 hM2
    have hk := accept_any p ⟨c, b, X⟩ b Y v2 hA ha2 hbo hYo
    rw [f8.out, f9.out] at hk
    go_wp2_with (first
      | (refine alloc_bal (by rfl) rfl ?_)
      | (refine alloc_inc0 (by rfl) rfl ?_; rw [alloc_sz, hv1])
      | (refine store_bal b bal0 (by rfl) _ _ rfl w9.heap.size rfl rfl ?hg ?_; (case hg => exact hL))
      | (refine store_inc X inc0 (by rfl) _ _ rfl (w9.heap.size + 1) rfl rfl ?hg ?_; (case hg => exact hM); rw [hv2])
      | (refine load_bal b (by rfl) _ rfl gb rfl ?hg ?_; (case hg => exact hE.get 3 rfl))
      | (refine load_inc Y (by rfl) _ rfl (w.heap.size + 1) rfl ?hg ?_; (case hg => exact hE.get 1 rfl)))
    refine hk.mono ?_
    rintro e w10 ⟨rfl, hA, hq⟩
    replace hE := hE.but hq hp hP
    clear hk hq hL hM hv1 hv2 hlt
    have hk := accept_any p ⟨c, b, X⟩ c Y w10 hA ha2 hco hYo
    rw [f10.out, f11.out] at hk
    go_wp2_with (first
      | (refine load_bal c (by rfl) _ rfl gc rfl ?hg ?_; (case hg => exact hE.get 4 rfl))
      | (refine load_inc Y (by rfl) _ rfl (w.heap.size + 1) rfl ?hg ?_; (case hg => exact hE.get 1 rfl)))
    refine hk.mono ?_
    rintro e w11 ⟨rfl, hA, hq⟩
    replace hE := hE.but hq hp hP
    clear hk hq
    have hk := prepare_any p ⟨c, c, Y⟩ d w11 hA ha3 hdo
    rw [f12.out, f13.out, f14.out, f15.out, f16.out] at hk
    go_wp2_with (first
      | (refine load_bal d (by rfl) _ rfl gd rfl ?hg ?_; (case hg => exact hE.get 5 rfl)))
    refine hk.mono ?_
    rintro e w12 ⟨rfl, hA, hq⟩
    replace hE := hE.but hq hp hP
    have hlt12 := hA.lt
    clear hk hq
    obtain ⟨v1, hv1, hL, hM, v2, hv2, hL2, hM2, hq⟩ := two_filled w12 c Y
    replace hP := (hP.add (show (w12).heap.size ≠ p by omega) 29 (balC c)).add (show (w12).heap.size + 1 ≠ p by omega) 31 (incC Y)
    replace hE := ((hE.later hq).add hL2).add hM2
    replace hA := hA.later hq
    have hlt := hA.lt
    clear hq hL2 hM2
    go_wp2_with (first
      | (refine alloc_bal (by rfl) rfl ?_)
      | (refine alloc_inc0 (by rfl) rfl ?_; rw [alloc_sz, hv1])
      | (refine store_bal c bal0 (by rfl) _ _ rfl w12.heap.size rfl rfl ?hg ?_; (case hg => exact hL))
      | (refine store_inc Y inc0 (by rfl) _ _ rfl (w12.heap.size + 1) rfl rfl ?hg ?_; (case hg => exact hM); rw [hv2]))
    clear hL hM hv1 hv2 hlt
    have hS := (hE.add hA).drew
    refine wp_region_plan (fun W => Env w W _) (Plan.of [(0, true), (1, true), (2, true), (3, true), (4, true), (5, true), (6, true), (7, true), (8, true), (9, true), (10, true), (11, true), (12, true), (13, true), (14, true), (15, true), (16, true), (17, true), (18, true), (19, true), (20, true), (21, true), (22, true), (23, true), (24, true), (25, true), (26, true), (27, true), (28, true), (29, true), (30, true), (31, true), (32, true), (33, true), (34, true), (35, true), (36, true), (37, true), (38, true), (39, true), (40, true), (41, true), (42, true), (43, true), (44, true), (45, true), (47, true), (46, false), (48, true), (49, true), (50, true)] .done) (by kernel_rfl) (by kernel_rfl) (by kernel_rfl) (by kernel_rfl) hS ?_
    iterate 10
      first
        | (refine plan_pass _ rfl (by rfl) ?_)
        | (refine plan_take _ _ rfl (.inl ⟨by rfl, fun W hS => by clear hS; go_simp; try with_reducible rfl⟩) ?_)
      try simp only [Act.put, List.setIfInBounds_toArray, List.set_cons_zero, List.set_cons_succ]
    refine plan_take _ _ rfl (yields_bal b (by rfl) _ rfl w9.heap.size rfl (fun _ h => h.get 6 rfl)) ?_
    try simp only [Act.put, List.setIfInBounds_toArray, List.set_cons_zero, List.set_cons_succ]
    refine plan_take _ _ rfl (yields_bal b (by rfl) _ rfl gb rfl (fun _ h => h.get 3 rfl)) ?_
    try simp only [Act.put, List.setIfInBounds_toArray, List.set_cons_zero, List.set_cons_succ]
    refine plan_take _ _ rfl (yields_bal_eq b b hbo hbo (by rfl) _ _ _ rfl rfl rfl) ?_
    rw [same_self]
    try simp only [Act.put, List.setIfInBounds_toArray, List.set_cons_zero, List.set_cons_succ]
    iterate 2
      first
        | (refine plan_pass _ rfl (by rfl) ?_)
        | (refine plan_take _ _ rfl (.inl ⟨by rfl, fun W hS => by clear hS; go_simp; try with_reducible rfl⟩) ?_)
      try simp only [Act.put, List.setIfInBounds_toArray, List.set_cons_zero, List.set_cons_succ]
    refine plan_take _ _ rfl (yields_inc X (by rfl) _ rfl (w9.heap.size + 1) rfl (fun _ h => h.get 7 rfl)) ?_
    try simp only [Act.put, List.setIfInBounds_toArray, List.set_cons_zero, List.set_cons_succ]
    refine plan_take _ _ rfl (yields_inc X (by rfl) _ rfl w.heap.size rfl (fun _ h => h.get 0 rfl)) ?_
    try simp only [Act.put, List.setIfInBounds_toArray, List.set_cons_zero, List.set_cons_succ]
    refine plan_take _ _ rfl (yields_inc_eq X X hXo hXo (by rfl) _ _ _ rfl rfl rfl) ?_
    rw [same_inc]
    try simp only [Act.put, List.setIfInBounds_toArray, List.set_cons_zero, List.set_cons_succ]
    iterate 17
      first
        | (refine plan_pass _ rfl (by rfl) ?_)
        | (refine plan_take _ _ rfl (.inl ⟨by rfl, fun W hS => by clear hS; go_simp; try with_reducible rfl⟩) ?_)
      try simp only [Act.put, List.setIfInBounds_toArray, List.set_cons_zero, List.set_cons_succ]
    refine plan_take _ _ rfl (yields_bal c (by rfl) _ rfl w12.heap.size rfl (fun _ h => h.get 8 rfl)) ?_
    try simp only [Act.put, List.setIfInBounds_toArray, List.set_cons_zero, List.set_cons_succ]
    refine plan_take _ _ rfl (yields_bal c (by rfl) _ rfl gc rfl (fun _ h => h.get 4 rfl)) ?_
    try simp only [Act.put, List.setIfInBounds_toArray, List.set_cons_zero, List.set_cons_succ]
    refine plan_take _ _ rfl (yields_bal_eq c c hco hco (by rfl) _ _ _ rfl rfl rfl) ?_
    rw [same_self]
    try simp only [Act.put, List.setIfInBounds_toArray, List.set_cons_zero, List.set_cons_succ]
    iterate 2
      first
        | (refine plan_pass _ rfl (by rfl) ?_)
        | (refine plan_take _ _ rfl (.inl ⟨by rfl, fun W hS => by clear hS; go_simp; try with_reducible rfl⟩) ?_)
      try simp only [Act.put, List.setIfInBounds_toArray, List.set_cons_zero, List.set_cons_succ]
    refine plan_take _ _ rfl (yields_inc Y (by rfl) _ rfl (w12.heap.size + 1) rfl (fun _ h => h.get 9 rfl)) ?_
    try simp only [Act.put, List.setIfInBounds_toArray, List.set_cons_zero, List.set_cons_succ]
    refine plan_take _ _ rfl (yields_inc Y (by rfl) _ rfl (w.heap.size + 1) rfl (fun _ h => h.get 1 rfl)) ?_
    try simp only [Act.put, List.setIfInBounds_toArray, List.set_cons_zero, List.set_cons_succ]
    refine plan_take _ _ rfl (yields_inc_eq Y Y hYo hYo (by rfl) _ _ _ rfl rfl rfl) ?_
    rw [same_inc]
    try simp only [Act.put, List.setIfInBounds_toArray, List.set_cons_zero, List.set_cons_succ]
    iterate 3
      first
        | (refine plan_pass _ rfl (by rfl) ?_)
        | (refine plan_take _ _ rfl (.inl ⟨by rfl, fun W hS => by clear hS; go_simp; try with_reducible rfl⟩) ?_)
      try simp only [Act.put, List.setIfInBounds_toArray, List.set_cons_zero, List.set_cons_succ]
    refine plan_take _ _ rfl (yields_bal d (by rfl) _ rfl gd rfl (fun _ h => h.get 5 rfl)) ?_
    try simp only [Act.put, List.setIfInBounds_toArray, List.set_cons_zero, List.set_cons_succ]
    refine plan_run _ rfl (fun K hK => ?_)
    go_simp
    refine (promised_any p _ _ (hS.get 10 rfl)).mono ?_
    rintro e w13 ⟨rfl, hq⟩
    replace hS := hS.later hq
    refine hK.out _ _ hS ?_
    clear hK K hq
    refine plan_take _ _ rfl (yields_bal_eq d d hdo hdo (by rfl) _ _ _ rfl rfl rfl) ?_
    rw [same_self]
    try simp only [Act.put, List.setIfInBounds_toArray, List.set_cons_zero, List.set_cons_succ]
    iterate 2
      first
        | (refine plan_pass _ rfl (by rfl) ?_)
        | (refine plan_take _ _ rfl (.inl ⟨by rfl, fun W hS => by clear hS; go_simp; try with_reducible rfl⟩) ?_)
      try simp only [Act.put, List.setIfInBounds_toArray, List.set_cons_zero, List.set_cons_succ]
    refine plan_done ?_
    go_wp2
    go_ret
    exact ⟨rfl, hS.below⟩
  · refine plan_alloc_has _ rfl (by rfl) 29 rfl (balC bal0) bal_zero (hE.alloc _ _) ?_
    try simp only [Act.put, List.setIfInBounds_toArray, List.set_cons_zero, List.set_cons_succ]
    refine plan_alloc_has _ rfl (by rfl) 29 rfl (balC bal0) bal_zero (by rw [hv0]; exact hE0) ?_
    rw [alloc_sz, hv0]
    try simp only [Act.put, List.setIfInBounds_toArray, List.set_cons_zero, List.set_cons_succ]
    have hE1 := hE0.row_other (wd.heap.size + 1) (by omega) hn2 (balC c)
    have hE2 := hE1.row_other wd.heap.size (by omega) hn1 (balC d)
    have hD1 := hC0.row_other (k := wd.heap.size + 1) (by omega) (balC c)
    have hC2 := (hD0.row (balC c)).row_other (k := wd.heap.size) (by omega) (balC d)
    have hD2 := hD1.row (balC d)
    have hA2 := (hA0.row_other (k := wd.heap.size + 1) (by omega) (balC c)).row_other (k := wd.heap.size) (by omega) (balC d)
    refine plan_store_has _ rfl (by rfl) 29 _ _ rfl (wd.heap.size + 1) rfl (balC c) rfl 29 (balC bal0) (bal_size _) rfl (bal_one _) hD0 hE1 ?_
    try simp only [Act.put, List.setIfInBounds_toArray, List.set_cons_zero, List.set_cons_succ]
    refine plan_store_has _ rfl (by rfl) 29 _ _ rfl wd.heap.size rfl (balC d) rfl 29 (balC bal0) (bal_size _) rfl (bal_one _) hD1 hE2 ?_
    try simp only [Act.put, List.setIfInBounds_toArray, List.set_cons_zero, List.set_cons_succ]
    refine plan_done ?_
    have hgc : wd.heap.size + 1 ≠ p := by omega
    have hgd : wd.heap.size ≠ p := by omega
    clear hE hA hE0 hA0 hE1 hD1 hv0 hC0 hD0 hn1 hn2
    generalize (v0.setRow (wd.heap.size + 1) (balC c)).setRow wd.heap.size (balC d) = w7 at *
    generalize wd.heap.size + 1 = gc at *
    generalize wd.heap.size = gd at *
    replace hE := (hE2.add hC2).add hD2
    replace hP := (hP.add hgc 29 (balC c)).add hgd 29 (balC d)
    clear hE2 hC2 hD2 hltE hgc hgd
    have hA := hA2
    have hplt := hA.lt
    clear hA2 hbs hplt6
    have hk := accept_any p acc0 b X w7 hA acc0_ok hbo hXo
    rw [f1.out, f2.out] at hk
    go_wp2_with (first
      | (refine load_bal b (by rfl) _ rfl gb rfl ?hg ?_; (case hg => exact hE.get 3 rfl))
      | (refine load_inc X (by rfl) _ rfl w.heap.size rfl ?hg ?_; (case hg => exact hE.get 0 rfl)))
    refine hk.mono ?_
    rintro e w8 ⟨rfl, hA, hq⟩
    replace hE := hE.but hq hp hP
    have hlt8 := hA.lt
    clear hk hq hplt
    have hk := prepare_any p ⟨b, b, X⟩ c w8 hA ha1 hco
    rw [f3.out, f4.out, f5.out, f6.out, f7.out] at hk
    go_wp2_with (first
      | (refine load_bal c (by rfl) _ rfl gc rfl ?hg ?_; (case hg => exact hE.get 4 rfl)))
    refine hk.mono ?_
    rintro e w9 ⟨rfl, hA, hq⟩
    replace hE := hE.but hq hp hP
    have hlt9 := hA.lt
    clear hk hq hlt8
    obtain ⟨v1, hv1, hL, hM, v2, hv2, hL2, hM2, hq⟩ := two_filled w9 b X
    replace hP := (hP.add (show (w9).heap.size ≠ p by omega) 29 (balC b)).add (show (w9).heap.size + 1 ≠ p by omega) 31 (incC X)
    replace hE := ((hE.later hq).add hL2).add hM2
    replace hA := hA.later hq
    have hlt := hA.lt
    clear hq hL2 hM2
    have hk := accept_any p ⟨c, b, X⟩ b Y v2 hA ha2 hbo hYo
    rw [f8.out, f9.out] at hk
    go_wp2_with (first
      | (refine alloc_bal (by rfl) rfl ?_)
      | (refine alloc_inc0 (by rfl) rfl ?_; rw [alloc_sz, hv1])
      | (refine store_bal b bal0 (by rfl) _ _ rfl w9.heap.size rfl rfl ?hg ?_; (case hg => exact hL))
      | (refine store_inc X inc0 (by rfl) _ _ rfl (w9.heap.size + 1) rfl rfl ?hg ?_; (case hg => exact hM); rw [hv2])
      | (refine load_bal b (by rfl) _ rfl gb rfl ?hg ?_; (case hg => exact hE.get 3 rfl))
      | (refine load_inc Y (by rfl) _ rfl (w.heap.size + 1) rfl ?hg ?_; (case hg => exact hE.get 1 rfl)))
    refine hk.mono ?_
    rintro e w10 ⟨rfl, hA, hq⟩
    replace hE := hE.but hq hp hP
    clear hk hq hL hM hv1 hv2 hlt
    have hk := accept_any p ⟨c, b, X⟩ c Y w10 hA ha2 hco hYo
    rw [f10.out, f11.out] at hk
    go_wp2_with (first
      | (refine load_bal c (by rfl) _ rfl gc rfl ?hg ?_; (case hg => exact hE.get 4 rfl))
      | (refine load_inc Y (by rfl) _ rfl (w.heap.size + 1) rfl ?hg ?_; (case hg => exact hE.get 1 rfl)))
    refine hk.mono ?_
    rintro e w11 ⟨rfl, hA, hq⟩
    replace hE := hE.but hq hp hP
    clear hk hq
    have hk := prepare_any p ⟨c, c, Y⟩ d w11 hA ha3 hdo
    rw [f12.out, f13.out, f14.out, f15.out, f16.out] at hk
    go_wp2_with (first
      | (refine load_bal d (by rfl) _ rfl gd rfl ?hg ?_; (case hg => exact hE.get 5 rfl)))
    refine hk.mono ?_
    rintro e w12 ⟨rfl, hA, hq⟩
    replace hE := hE.but hq hp hP
    have hlt12 := hA.lt
    clear hk hq
    obtain ⟨v1, hv1, hL, hM, v2, hv2, hL2, hM2, hq⟩ := two_filled w12 c Y
    replace hP := (hP.add (show (w12).heap.size ≠ p by omega) 29 (balC c)).add (show (w12).heap.size + 1 ≠ p by omega) 31 (incC Y)
    replace hE := ((hE.later hq).add hL2).add hM2
    replace hA := hA.later hq
    have hlt := hA.lt
    clear hq hL2 hM2
    go_wp2_with (first
      | (refine alloc_bal (by rfl) rfl ?_)
      | (refine alloc_inc0 (by rfl) rfl ?_; rw [alloc_sz, hv1])
      | (refine store_bal c bal0 (by rfl) _ _ rfl w12.heap.size rfl rfl ?hg ?_; (case hg => exact hL))
      | (refine store_inc Y inc0 (by rfl) _ _ rfl (w12.heap.size + 1) rfl rfl ?hg ?_; (case hg => exact hM); rw [hv2]))
    clear hL hM hv1 hv2 hlt
    have hS := (hE.add hA).drew
    refine wp_region_plan (fun W => Env w W _) (Plan.of [(0, true), (1, true), (2, true), (3, true), (4, true), (5, true), (6, true), (7, true), (8, true), (9, true), (10, true), (11, true), (12, true), (13, true), (14, true), (15, true), (16, true), (17, true), (18, true), (19, true), (20, true), (21, true), (22, true), (23, true), (24, true), (25, true), (26, true), (27, true), (28, true), (29, true), (30, true), (31, true), (32, true), (33, true), (34, true), (35, true), (36, true), (37, true), (38, true), (39, true), (40, true), (41, true), (42, true), (43, true), (44, true), (45, true), (47, true), (46, false), (48, true), (49, true), (50, true)] .done) (by kernel_rfl) (by kernel_rfl) (by kernel_rfl) (by kernel_rfl) hS ?_
    iterate 10
      first
        | (refine plan_pass _ rfl (by rfl) ?_)
        | (refine plan_take _ _ rfl (.inl ⟨by rfl, fun W hS => by clear hS; go_simp; try with_reducible rfl⟩) ?_)
      try simp only [Act.put, List.setIfInBounds_toArray, List.set_cons_zero, List.set_cons_succ]
    refine plan_take _ _ rfl (yields_bal b (by rfl) _ rfl w9.heap.size rfl (fun _ h => h.get 6 rfl)) ?_
    try simp only [Act.put, List.setIfInBounds_toArray, List.set_cons_zero, List.set_cons_succ]
    refine plan_take _ _ rfl (yields_bal b (by rfl) _ rfl gb rfl (fun _ h => h.get 3 rfl)) ?_
    try simp only [Act.put, List.setIfInBounds_toArray, List.set_cons_zero, List.set_cons_succ]
    refine plan_take _ _ rfl (yields_bal_eq b b hbo hbo (by rfl) _ _ _ rfl rfl rfl) ?_
    rw [same_self]
    try simp only [Act.put, List.setIfInBounds_toArray, List.set_cons_zero, List.set_cons_succ]
    iterate 2
      first
        | (refine plan_pass _ rfl (by rfl) ?_)
        | (refine plan_take _ _ rfl (.inl ⟨by rfl, fun W hS => by clear hS; go_simp; try with_reducible rfl⟩) ?_)
      try simp only [Act.put, List.setIfInBounds_toArray, List.set_cons_zero, List.set_cons_succ]
    refine plan_take _ _ rfl (yields_inc X (by rfl) _ rfl (w9.heap.size + 1) rfl (fun _ h => h.get 7 rfl)) ?_
    try simp only [Act.put, List.setIfInBounds_toArray, List.set_cons_zero, List.set_cons_succ]
    refine plan_take _ _ rfl (yields_inc X (by rfl) _ rfl w.heap.size rfl (fun _ h => h.get 0 rfl)) ?_
    try simp only [Act.put, List.setIfInBounds_toArray, List.set_cons_zero, List.set_cons_succ]
    refine plan_take _ _ rfl (yields_inc_eq X X hXo hXo (by rfl) _ _ _ rfl rfl rfl) ?_
    rw [same_inc]
    try simp only [Act.put, List.setIfInBounds_toArray, List.set_cons_zero, List.set_cons_succ]
    iterate 17
      first
        | (refine plan_pass _ rfl (by rfl) ?_)
        | (refine plan_take _ _ rfl (.inl ⟨by rfl, fun W hS => by clear hS; go_simp; try with_reducible rfl⟩) ?_)
      try simp only [Act.put, List.setIfInBounds_toArray, List.set_cons_zero, List.set_cons_succ]
    refine plan_take _ _ rfl (yields_bal c (by rfl) _ rfl w12.heap.size rfl (fun _ h => h.get 8 rfl)) ?_
    try simp only [Act.put, List.setIfInBounds_toArray, List.set_cons_zero, List.set_cons_succ]
    refine plan_take _ _ rfl (yields_bal c (by rfl) _ rfl gc rfl (fun _ h => h.get 4 rfl)) ?_
    try simp only [Act.put, List.setIfInBounds_toArray, List.set_cons_zero, List.set_cons_succ]
    refine plan_take _ _ rfl (yields_bal_eq c c hco hco (by rfl) _ _ _ rfl rfl rfl) ?_
    rw [same_self]
    try simp only [Act.put, List.setIfInBounds_toArray, List.set_cons_zero, List.set_cons_succ]
    iterate 2
      first
        | (refine plan_pass _ rfl (by rfl) ?_)
        | (refine plan_take _ _ rfl (.inl ⟨by rfl, fun W hS => by clear hS; go_simp; try with_reducible rfl⟩) ?_)
      try simp only [Act.put, List.setIfInBounds_toArray, List.set_cons_zero, List.set_cons_succ]
    refine plan_take _ _ rfl (yields_inc Y (by rfl) _ rfl (w12.heap.size + 1) rfl (fun _ h => h.get 9 rfl)) ?_
    try simp only [Act.put, List.setIfInBounds_toArray, List.set_cons_zero, List.set_cons_succ]
    refine plan_take _ _ rfl (yields_inc Y (by rfl) _ rfl (w.heap.size + 1) rfl (fun _ h => h.get 1 rfl)) ?_
    try simp only [Act.put, List.setIfInBounds_toArray, List.set_cons_zero, List.set_cons_succ]
    refine plan_take _ _ rfl (yields_inc_eq Y Y hYo hYo (by rfl) _ _ _ rfl rfl rfl) ?_
    rw [same_inc]
    try simp only [Act.put, List.setIfInBounds_toArray, List.set_cons_zero, List.set_cons_succ]
    iterate 3
      first
        | (refine plan_pass _ rfl (by rfl) ?_)
        | (refine plan_take _ _ rfl (.inl ⟨by rfl, fun W hS => by clear hS; go_simp; try with_reducible rfl⟩) ?_)
      try simp only [Act.put, List.setIfInBounds_toArray, List.set_cons_zero, List.set_cons_succ]
    refine plan_take _ _ rfl (yields_bal d (by rfl) _ rfl gd rfl (fun _ h => h.get 5 rfl)) ?_
    try simp only [Act.put, List.setIfInBounds_toArray, List.set_cons_zero, List.set_cons_succ]
    refine plan_run _ rfl (fun K hK => ?_)
    go_simp
    refine (promised_any p _ _ (hS.get 10 rfl)).mono ?_
    rintro e w13 ⟨rfl, hq⟩
    replace hS := hS.later hq
    refine hK.out _ _ hS ?_
    clear hK K hq
    refine plan_take _ _ rfl (yields_bal_eq d d hdo hdo (by rfl) _ _ _ rfl rfl rfl) ?_
    rw [same_self]
    try simp only [Act.put, List.setIfInBounds_toArray, List.set_cons_zero, List.set_cons_succ]
    iterate 2
      first
        | (refine plan_pass _ rfl (by rfl) ?_)
        | (refine plan_take _ _ rfl (.inl ⟨by rfl, fun W hS => by clear hS; go_simp; try with_reducible rfl⟩) ?_)
      try simp only [Act.put, List.setIfInBounds_toArray, List.set_cons_zero, List.set_cons_succ]
    refine plan_done ?_
    go_wp2
    go_ret
    exact ⟨rfl, hS.below⟩
end Go.Proofs.Ytlcappkokdgpgaa
