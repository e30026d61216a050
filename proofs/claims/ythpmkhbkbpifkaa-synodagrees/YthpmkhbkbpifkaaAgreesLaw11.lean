/- paddocklaw11.SynodAgrees returns true, for whatever increments and row of turns. -/
import Derived.Test.YthpmkhbkbpifkaaAgreesPre
import Derived.Test.YthpmkhbkbpifkaaBalCalls
import Derived.Test.YthpmkhbkbpifkaaAny
import Derived.Test.YthpmkhbkbpifkaaPackTools
namespace Go.Proofs.Ythpmkhbkbpifkaa
set_option linter.unusedSimpArgs false
set_option linter.unusedVariables false
set_option maxRecDepth 100000
open Go.RowKit

theorem Pro.cells_other {w : World} {p g : Nat} {v : ProV} (h : Pro w p v) (hg : p ≠ g) (vs : List Value) (o : Nat) : Pro (w.setCells g o vs) p v := h.but (but_setCells vs o) hg
theorem Pro.set_other {w : World} {p g : Nat} {v : ProV} (h : Pro w p v) (hg : p ≠ g) (o : Nat) (u : Value) : Pro (w.setCell ⟨g, o, none⟩ u) p v := h.but (but_setCell o u) hg
def pt (p : Nat) : Value := .pointer (some ⟨p, 0, none⟩)

theorem SysAt.row_other {w : World} {p a : Nat → Nat} {s : Sys} (h : SysAt w p a s) {g : Nat} (hp : ∀ i, i < 3 → p i ≠ g) (ha : ∀ i, i < 3 → a i ≠ g) (c : Array Value) : SysAt (w.setRow g c) p a s := ⟨fun i hi => (h.pr i hi).row_other (hp i hi) c, fun i hi => (h.ac i hi).row_other (ha i hi) c, h.ok⟩
theorem yields_valA {P : Program} {ops : Array Oper} {S : World → Prop} {o : Oper} {a : Act} (v : Value) (hw : Region.wanted o (yielded ops a.tmps) = true) (hr : ∀ w, (execOp a.eval o).run P w = .ok (.value v) w) : YieldsIf P ops S o v a := .inl ⟨hw, fun w _ => hr w⟩

set_option maxHeartbeats 40000000 in
theorem agrees_walk (x0 x1 x2 : IncV) (ao : Option Addr) (c : Nat) (l : List TurnV) (w : World) (k0 : IncOk x0) (k1 : IncOk x1) (k2 : IncOk x2) (hSl : Sl w ao c 3 (turnR l)) (hl : ∀ t ∈ l, TurnOk t) :
    Calls Try.prog 4 #[.agg (inc9 x0 x1 x2), .slice ao l.length c] w fun e w' => e = .returned (.bool true) ∧ Below w.heap.size w w' := by
  have hle := turn_le hSl
  have hcap := hSl.cap
  obtain ⟨w1, hw1, hX, hb⟩ := one_var w 44 (inc9 x0 x1 x2)
  go_enter Try.func4, Try.ntmps4
  go_wp2_with fail
  refine (known_any _).mono ?_
  rintro e w2 ⟨rfl, hq⟩
  replace hX := hX.later hq
  replace hb := hb.trans (hq.mono hb.size)
  clear hq hw1
  by_cases hlen : l.length ≤ 300
  · have hlenI : (l.length : Int) ≤ 300 := by omega
    obtain ⟨o0, ho0⟩ : ∃ o, x0.osd % 5 = o := ⟨_, rfl⟩
    obtain ⟨o1, ho1⟩ : ∃ o, x1.osd % 5 = o := ⟨_, rfl⟩
    obtain ⟨o2, ho2⟩ : ∃ o, x2.osd % 5 = o := ⟨_, rfl⟩
    have hob0 : o0 < 5 := by omega
    have hob1 : o1 < 5 := by omega
    have hob2 : o2 < 5 := by omega
    have hx0 := k0.osd
    have hx1 := k1.osd
    have hx2 := k2.osd
    replace ho0 : Hid _ := ho0
    replace ho1 : Hid _ := ho1
    replace ho2 : Hid _ := ho2
    have hY0 := w3_ok (n := 0) hob0 (by decide) (by decide)
    have hY1 := w3_ok (n := 1) hob1 (by decide) (by decide)
    have hY2 := w3_ok (n := 2) hob2 (by decide) (by decide)
    obtain ⟨gp, hgp⟩ : ∃ q, w2.heap.size = q := ⟨_, rfl⟩
    obtain ⟨W, hW3, hGp, hGa, hq⟩ := two_vars w2 46 48 nil3 nil3
    have hXl := hX.lt
    replace hX := hX.later hq
    replace hb := hb.trans (hq.mono hb.size)
    have hGal := hGa.lt
    clear hq
    go_wp2_with (first
      | ((with_reducible refine at_all ?_); first
        | (refine wpList_alloc_has (by rfl) 48 rfl nil3 arra_zero3 ?_; rw [alloc_sz, hW3]; (try simp only [Act.put, List.setIfInBounds_toArray, List.set_cons_zero, List.set_cons_succ]))
        | (refine wpList_alloc_has (by rfl) 46 rfl nil3 arrp_zero3 ?_; (try simp only [Act.put, List.setIfInBounds_toArray, List.set_cons_zero, List.set_cons_succ]))))
    clear hW3
    rw [hgp] at hGp hGa hXl hGal ⊢
    clear hgp
    refine wp_loop_rounds 4 ?_
    have z := inc9_o0 hX
    have th : Hid (World.there W w.heap.size 0 (incC (⟨3, o0, 0⟩ : IncV)).size) := inc9_there hX 0 3 (by decide)
    replace hX := hX.inc9_set0 (⟨3, o0, 0⟩ : IncV)
    replace hGp := hGp.cells_other (k := w.heap.size) (by omega) (incC (⟨3, o0, 0⟩ : IncV)).toList 0
    replace hGa := hGa.cells_other (k := w.heap.size) (by omega) (incC (⟨3, o0, 0⟩ : IncV)).toList 0
    replace hb := below_setCells hb (Nat.le_refl w.heap.size) (incC (⟨3, o0, 0⟩ : IncV)).toList 0
    obtain ⟨Wa, hWa⟩ : ∃ V, W.setCells w.heap.size 0 (incC (⟨3, o0, 0⟩ : IncV)).toList = V := ⟨_, rfl⟩
    rw [hWa] at hX hGp hGa hb
    replace hWa : Hid _ := hWa
    rw [rounds_succ]
    go_wp2_with (first
      | ((with_reducible refine at_bin ?_); (refine wpList_val (.int .u8 (o0 : Int)) (by rfl) (run_rem_u8 _ _ _ _ rfl x0.osd 5 o0 rfl rfl hx0 (by decide) ho0.out) ?_; (try simp only [Act.put, List.setIfInBounds_toArray, List.set_cons_zero, List.set_cons_succ])))
      | ((with_reducible refine at_bld ?_); (refine wpList_build_33 (by rfl) 23 0 1 2 _ _ _ rfl _ _ _ rfl rfl rfl (incC (⟨3, o0, 0⟩ : IncV)) (inc_b3' 3 o0 0) ?_; (try simp only [Act.put, List.setIfInBounds_toArray, List.set_cons_zero, List.set_cons_succ])))
      | ((with_reducible refine at_sto ?_); (refine wpList_store_mid' (by rfl) 23 _ _ rfl w.heap.size 0 (incC (⟨3, o0, 0⟩ : IncV)) rfl rfl ?hg (inc_size _) (inc_one _) ?_; (case hg => exact th.out); rw [hWa.out]; (try simp only [Act.put, List.setIfInBounds_toArray, List.set_cons_zero, List.set_cons_succ]))))
    clear z th hWa
    refine wp_region_plan (fun V => Has V w.heap.size 44 (inc9 ⟨3, o0, 0⟩ x1 x2)) (Plan.of [(0, true), (1, true), (2, true), (3, true), (4, true), (5, true), (6, true), (7, false), (9, true), (8, false), (10, false), (11, true), (12, false)] .done) (by kernel_rfl) (by kernel_rfl) (by kernel_rfl) (by kernel_rfl) hX.drew ?_
    replace hX := hX.drew
    replace hGp := hGp.drew
    replace hGa := hGa.drew
    replace hb := hb.drew
    generalize Wa.drew = Wb at *
    iterate 3
      first
        | (refine plan_pass _ rfl (by rfl) ?_)
        | (refine plan_take _ _ rfl (.inl ⟨by rfl, fun W hS => by clear hS; go_simp; try with_reducible rfl⟩) ?_)
      try simp only [Act.put, List.setIfInBounds_toArray, List.set_cons_zero, List.set_cons_succ]
    refine plan_take _ (.int .u8 0) rfl (.inl ⟨by rfl, fun V hV => by clear hV; go_simp; try (first | rfl | decide)⟩) ?_
    try simp only [Act.put, List.setIfInBounds_toArray, List.set_cons_zero, List.set_cons_succ]
    iterate 2
      first
        | (refine plan_pass _ rfl (by rfl) ?_)
        | (refine plan_take _ _ rfl (.inl ⟨by rfl, fun W hS => by clear hS; go_simp; try with_reducible rfl⟩) ?_)
      try simp only [Act.put, List.setIfInBounds_toArray, List.set_cons_zero, List.set_cons_succ]
    refine plan_take _ _ rfl (yields_inc_mid (⟨3, o0, 0⟩ : IncV) (by rfl) _ rfl w.heap.size 0 rfl (fun _ h => inc9_0 h)) ?_
    try simp only [Act.put, List.setIfInBounds_toArray, List.set_cons_zero, List.set_cons_succ]
    have hsz := hGa.lt
    refine plan_run _ rfl (fun K hK => ?_)
    go_simp
    refine (pnew_any 0 (⟨3, o0, 0⟩ : IncV) _ (by decide) hY0).mono ?_
    rintro e Wc ⟨p0, rfl, hl0, hP0, hq⟩
    have q0 : gp + 1 < p0 := by omega
    clear hl0
    replace hX := hX.later hq
    replace hGp := hGp.later hq
    replace hGa := hGa.later hq
    replace hb := hb.trans (hq.mono hb.size)
    refine hK.out _ _ hX ?_
    clear hK K hq
    try simp only [Act.put, List.setIfInBounds_toArray, List.set_cons_zero, List.set_cons_succ]
    iterate 1
      first
        | (refine plan_pass _ rfl (by rfl) ?_)
        | (refine plan_take _ _ rfl (.inl ⟨by rfl, fun W hS => by clear hS; go_simp; try with_reducible rfl⟩) ?_)
      try simp only [Act.put, List.setIfInBounds_toArray, List.set_cons_zero, List.set_cons_succ]
    have hpl0 := hP0.lt
    refine plan_run _ rfl (fun K hK => ?_)
    go_simp
    refine (bnew_any _).mono ?_
    rintro e Wd ⟨a0, rfl, hm0, hA0, hq⟩
    have r0 : p0 < a0 := by omega
    clear hm0 hpl0
    replace hX := hX.later hq
    replace hGp := hGp.later hq
    replace hGa := hGa.later hq
    replace hb := hb.trans (hq.mono hb.size)
    replace hP0 := hP0.later hq
    refine hK.out _ _ hX ?_
    clear hK K hq
    try simp only [Act.put, List.setIfInBounds_toArray, List.set_cons_zero, List.set_cons_succ]
    have z := (hGp.cell 0).trans (show _ = some (Value.pointer none) from rfl)
    have zf := hGp.free 0
    replace hX := hX.set_other (a := ⟨gp, 0, none⟩) (show w.heap.size ≠ gp by omega) (pt p0)
    replace hGa := hGa.set_other (a := ⟨gp, 0, none⟩) (show gp + 1 ≠ gp by omega) (pt p0)
    replace hb := hb.setCell (show w.heap.size ≤ (⟨gp, 0, none⟩ : Addr).block by show w.heap.size ≤ gp; omega) (pt p0)
    have hGp2 : Has (Wd.setCell ⟨gp, 0, none⟩ (pt p0)) gp 46 #[(pt p0), .pointer none, .pointer none] := hGp.set 0 (pt p0)
    replace hP0 := hP0.set_other (g := gp) (show p0 ≠ gp by omega) 0 (pt p0)
    replace hA0 := hA0.set_other (a := ⟨gp, 0, none⟩) (show a0 ≠ gp by omega) (pt p0)
    obtain ⟨We, hWe⟩ : ∃ V, Wd.setCell ⟨gp, 0, none⟩ (pt p0) = V := ⟨_, rfl⟩
    rw [hWe] at hX hGa hb hGp2 hP0 hA0
    have hWe' : Wd.setCell ⟨gp, 0, none⟩ (.pointer (some ⟨p0, 0, none⟩)) = We := hWe
    refine plan_run _ rfl (fun K hK => ?_)
    go_simp
    try rw [hWe']
    refine hK.out _ _ hX ?_
    clear hK K z zf hGp hWe hWe'
    have hGp := hGp2
    clear hGp2
    try simp only [Act.put, List.setIfInBounds_toArray, List.set_cons_zero, List.set_cons_succ]
    iterate 1
      first
        | (refine plan_pass _ rfl (by rfl) ?_)
        | (refine plan_take _ _ rfl (.inl ⟨by rfl, fun W hS => by clear hS; go_simp; try with_reducible rfl⟩) ?_)
      try simp only [Act.put, List.setIfInBounds_toArray, List.set_cons_zero, List.set_cons_succ]
    have z := (hGa.cell 0).trans (show _ = some (Value.pointer none) from rfl)
    have zf := hGa.free 0
    replace hX := hX.set_other (a := ⟨gp + 1, 0, none⟩) (show w.heap.size ≠ gp + 1 by omega) (pt a0)
    replace hGp := hGp.set_other (a := ⟨gp + 1, 0, none⟩) (show gp ≠ gp + 1 by omega) (pt a0)
    replace hb := hb.setCell (show w.heap.size ≤ (⟨gp + 1, 0, none⟩ : Addr).block by show w.heap.size ≤ gp + 1; omega) (pt a0)
    have hGa2 : Has (We.setCell ⟨gp + 1, 0, none⟩ (pt a0)) (gp + 1) 48 #[(pt a0), .pointer none, .pointer none] := hGa.set 0 (pt a0)
    replace hP0 := hP0.set_other (g := gp + 1) (show p0 ≠ gp + 1 by omega) 0 (pt a0)
    replace hA0 := hA0.set_other (a := ⟨gp + 1, 0, none⟩) (show a0 ≠ gp + 1 by omega) (pt a0)
    obtain ⟨Wf, hWf⟩ : ∃ V, We.setCell ⟨gp + 1, 0, none⟩ (pt a0) = V := ⟨_, rfl⟩
    rw [hWf] at hX hGp hb hGa2 hP0 hA0
    have hWf' : We.setCell ⟨gp + 1, 0, none⟩ (.pointer (some ⟨a0, 0, none⟩)) = Wf := hWf
    refine plan_run _ rfl (fun K hK => ?_)
    go_simp
    try rw [hWf']
    refine hK.out _ _ hX ?_
    clear hK K z zf hGa hWf hWf' hsz 
    have hGa := hGa2
    clear hGa2
    try simp only [Act.put, List.setIfInBounds_toArray, List.set_cons_zero, List.set_cons_succ]
    refine plan_done ?_
    go_wp2
    generalize Wf = W at *
    have z := inc9_o1 hX
    have th : Hid (World.there W w.heap.size 3 (incC (⟨3, o1, 1⟩ : IncV)).size) := inc9_there hX 3 3 (by decide)
    replace hX := hX.inc9_set1 (⟨3, o1, 1⟩ : IncV)
    replace hGp := hGp.cells_other (k := w.heap.size) (by omega) (incC (⟨3, o1, 1⟩ : IncV)).toList 3
    replace hGa := hGa.cells_other (k := w.heap.size) (by omega) (incC (⟨3, o1, 1⟩ : IncV)).toList 3
    replace hb := below_setCells hb (Nat.le_refl w.heap.size) (incC (⟨3, o1, 1⟩ : IncV)).toList 3
    replace hP0 := hP0.cells_other (g := w.heap.size) (by omega) (incC (⟨3, o1, 1⟩ : IncV)).toList 3
    replace hA0 := hA0.cells_other (k := w.heap.size) (by omega) (incC (⟨3, o1, 1⟩ : IncV)).toList 3
    obtain ⟨Wa, hWa⟩ : ∃ V, W.setCells w.heap.size 3 (incC (⟨3, o1, 1⟩ : IncV)).toList = V := ⟨_, rfl⟩
    rw [hWa] at hX hGp hGa hb hP0 hA0
    replace hWa : Hid _ := hWa
    rw [rounds_succ]
    go_wp2_with (first
      | ((with_reducible refine at_bin ?_); (refine wpList_val (.int .u8 (o1 : Int)) (by rfl) (run_rem_u8 _ _ _ _ rfl x1.osd 5 o1 rfl rfl hx1 (by decide) ho1.out) ?_; (try simp only [Act.put, List.setIfInBounds_toArray, List.set_cons_zero, List.set_cons_succ])))
      | ((with_reducible refine at_bld ?_); (refine wpList_build_33 (by rfl) 23 0 1 2 _ _ _ rfl _ _ _ rfl rfl rfl (incC (⟨3, o1, 1⟩ : IncV)) (inc_b3' 3 o1 1) ?_; (try simp only [Act.put, List.setIfInBounds_toArray, List.set_cons_zero, List.set_cons_succ])))
      | ((with_reducible refine at_sto ?_); (refine wpList_store_mid' (by rfl) 23 _ _ rfl w.heap.size 3 (incC (⟨3, o1, 1⟩ : IncV)) rfl rfl ?hg (inc_size _) (inc_one _) ?_; (case hg => exact th.out); rw [hWa.out]; (try simp only [Act.put, List.setIfInBounds_toArray, List.set_cons_zero, List.set_cons_succ]))))
    clear z th hWa
    refine wp_region_plan (fun V => Has V w.heap.size 44 (inc9 ⟨3, o0, 0⟩ ⟨3, o1, 1⟩ x2)) (Plan.of [(0, true), (1, true), (2, true), (3, true), (4, true), (5, true), (6, true), (7, false), (9, true), (8, false), (10, false), (11, true), (12, false)] .done) (by kernel_rfl) (by kernel_rfl) (by kernel_rfl) (by kernel_rfl) hX.drew ?_
    replace hX := hX.drew
    replace hGp := hGp.drew
    replace hGa := hGa.drew
    replace hb := hb.drew
    replace hP0 := hP0.drew
    replace hA0 := hA0.drew
    generalize Wa.drew = Wb at *
    iterate 3
      first
        | (refine plan_pass _ rfl (by rfl) ?_)
        | (refine plan_take _ _ rfl (.inl ⟨by rfl, fun W hS => by clear hS; go_simp; try with_reducible rfl⟩) ?_)
      try simp only [Act.put, List.setIfInBounds_toArray, List.set_cons_zero, List.set_cons_succ]
    refine plan_take _ (.int .u8 1) rfl (.inl ⟨by rfl, fun V hV => by clear hV; go_simp; try (first | rfl | decide)⟩) ?_
    try simp only [Act.put, List.setIfInBounds_toArray, List.set_cons_zero, List.set_cons_succ]
    iterate 2
      first
        | (refine plan_pass _ rfl (by rfl) ?_)
        | (refine plan_take _ _ rfl (.inl ⟨by rfl, fun W hS => by clear hS; go_simp; try with_reducible rfl⟩) ?_)
      try simp only [Act.put, List.setIfInBounds_toArray, List.set_cons_zero, List.set_cons_succ]
    refine plan_take _ _ rfl (yields_inc_mid (⟨3, o1, 1⟩ : IncV) (by rfl) _ rfl w.heap.size 3 rfl (fun _ h => inc9_1 h)) ?_
    try simp only [Act.put, List.setIfInBounds_toArray, List.set_cons_zero, List.set_cons_succ]
    have hsz := hGa.lt
    have hsz0 := hA0.lt
    refine plan_run _ rfl (fun K hK => ?_)
    go_simp
    refine (pnew_any 1 (⟨3, o1, 1⟩ : IncV) _ (by decide) hY1).mono ?_
    rintro e Wc ⟨p1, rfl, hl1, hP1, hq⟩
    have q1 : gp + 1 < p1 := by omega
    have q10 : a0 < p1 := by omega
    clear hl1
    replace hX := hX.later hq
    replace hGp := hGp.later hq
    replace hGa := hGa.later hq
    replace hb := hb.trans (hq.mono hb.size)
    replace hP0 := hP0.later hq
    replace hA0 := hA0.later hq
    refine hK.out _ _ hX ?_
    clear hK K hq
    try simp only [Act.put, List.setIfInBounds_toArray, List.set_cons_zero, List.set_cons_succ]
    iterate 1
      first
        | (refine plan_pass _ rfl (by rfl) ?_)
        | (refine plan_take _ _ rfl (.inl ⟨by rfl, fun W hS => by clear hS; go_simp; try with_reducible rfl⟩) ?_)
      try simp only [Act.put, List.setIfInBounds_toArray, List.set_cons_zero, List.set_cons_succ]
    have hpl1 := hP1.lt
    refine plan_run _ rfl (fun K hK => ?_)
    go_simp
    refine (bnew_any _).mono ?_
    rintro e Wd ⟨a1, rfl, hm1, hA1, hq⟩
    have r1 : p1 < a1 := by omega
    clear hm1 hpl1
    replace hX := hX.later hq
    replace hGp := hGp.later hq
    replace hGa := hGa.later hq
    replace hb := hb.trans (hq.mono hb.size)
    replace hP1 := hP1.later hq
    replace hP0 := hP0.later hq
    replace hA0 := hA0.later hq
    refine hK.out _ _ hX ?_
    clear hK K hq
    try simp only [Act.put, List.setIfInBounds_toArray, List.set_cons_zero, List.set_cons_succ]
    have z := (hGp.cell 1).trans (show _ = some (Value.pointer none) from rfl)
    have zf := hGp.free 1
    replace hX := hX.set_other (a := ⟨gp, 1, none⟩) (show w.heap.size ≠ gp by omega) (pt p1)
    replace hGa := hGa.set_other (a := ⟨gp, 1, none⟩) (show gp + 1 ≠ gp by omega) (pt p1)
    replace hb := hb.setCell (show w.heap.size ≤ (⟨gp, 1, none⟩ : Addr).block by show w.heap.size ≤ gp; omega) (pt p1)
    have hGp2 : Has (Wd.setCell ⟨gp, 1, none⟩ (pt p1)) gp 46 #[(pt p0), (pt p1), .pointer none] := hGp.set 1 (pt p1)
    replace hP0 := hP0.set_other (g := gp) (show p0 ≠ gp by omega) 1 (pt p1)
    replace hA0 := hA0.set_other (a := ⟨gp, 1, none⟩) (show a0 ≠ gp by omega) (pt p1)
    replace hP1 := hP1.set_other (g := gp) (show p1 ≠ gp by omega) 1 (pt p1)
    replace hA1 := hA1.set_other (a := ⟨gp, 1, none⟩) (show a1 ≠ gp by omega) (pt p1)
    obtain ⟨We, hWe⟩ : ∃ V, Wd.setCell ⟨gp, 1, none⟩ (pt p1) = V := ⟨_, rfl⟩
    rw [hWe] at hX hGa hb hGp2 hP0 hA0 hP1 hA1
    have hWe' : Wd.setCell ⟨gp, 1, none⟩ (.pointer (some ⟨p1, 0, none⟩)) = We := hWe
    refine plan_run _ rfl (fun K hK => ?_)
    go_simp
    try rw [hWe']
    refine hK.out _ _ hX ?_
    clear hK K z zf hGp hWe hWe'
    have hGp := hGp2
    clear hGp2
    try simp only [Act.put, List.setIfInBounds_toArray, List.set_cons_zero, List.set_cons_succ]
    iterate 1
      first
        | (refine plan_pass _ rfl (by rfl) ?_)
        | (refine plan_take _ _ rfl (.inl ⟨by rfl, fun W hS => by clear hS; go_simp; try with_reducible rfl⟩) ?_)
      try simp only [Act.put, List.setIfInBounds_toArray, List.set_cons_zero, List.set_cons_succ]
    have z := (hGa.cell 1).trans (show _ = some (Value.pointer none) from rfl)
    have zf := hGa.free 1
    replace hX := hX.set_other (a := ⟨gp + 1, 1, none⟩) (show w.heap.size ≠ gp + 1 by omega) (pt a1)
    replace hGp := hGp.set_other (a := ⟨gp + 1, 1, none⟩) (show gp ≠ gp + 1 by omega) (pt a1)
    replace hb := hb.setCell (show w.heap.size ≤ (⟨gp + 1, 1, none⟩ : Addr).block by show w.heap.size ≤ gp + 1; omega) (pt a1)
    have hGa2 : Has (We.setCell ⟨gp + 1, 1, none⟩ (pt a1)) (gp + 1) 48 #[(pt a0), (pt a1), .pointer none] := hGa.set 1 (pt a1)
    replace hP0 := hP0.set_other (g := gp + 1) (show p0 ≠ gp + 1 by omega) 1 (pt a1)
    replace hA0 := hA0.set_other (a := ⟨gp + 1, 1, none⟩) (show a0 ≠ gp + 1 by omega) (pt a1)
    replace hP1 := hP1.set_other (g := gp + 1) (show p1 ≠ gp + 1 by omega) 1 (pt a1)
    replace hA1 := hA1.set_other (a := ⟨gp + 1, 1, none⟩) (show a1 ≠ gp + 1 by omega) (pt a1)
    obtain ⟨Wf, hWf⟩ : ∃ V, We.setCell ⟨gp + 1, 1, none⟩ (pt a1) = V := ⟨_, rfl⟩
    rw [hWf] at hX hGp hb hGa2 hP0 hA0 hP1 hA1
    have hWf' : We.setCell ⟨gp + 1, 1, none⟩ (.pointer (some ⟨a1, 0, none⟩)) = Wf := hWf
    refine plan_run _ rfl (fun K hK => ?_)
    go_simp
    try rw [hWf']
    refine hK.out _ _ hX ?_
    clear hK K z zf hGa hWf hWf' hsz hsz0
    have hGa := hGa2
    clear hGa2
    try simp only [Act.put, List.setIfInBounds_toArray, List.set_cons_zero, List.set_cons_succ]
    refine plan_done ?_
    go_wp2
    generalize Wf = W at *
    have z := inc9_o2 hX
    have th : Hid (World.there W w.heap.size 6 (incC (⟨3, o2, 2⟩ : IncV)).size) := inc9_there hX 6 3 (by decide)
    replace hX := hX.inc9_set2 (⟨3, o2, 2⟩ : IncV)
    replace hGp := hGp.cells_other (k := w.heap.size) (by omega) (incC (⟨3, o2, 2⟩ : IncV)).toList 6
    replace hGa := hGa.cells_other (k := w.heap.size) (by omega) (incC (⟨3, o2, 2⟩ : IncV)).toList 6
    replace hb := below_setCells hb (Nat.le_refl w.heap.size) (incC (⟨3, o2, 2⟩ : IncV)).toList 6
    replace hP0 := hP0.cells_other (g := w.heap.size) (by omega) (incC (⟨3, o2, 2⟩ : IncV)).toList 6
    replace hA0 := hA0.cells_other (k := w.heap.size) (by omega) (incC (⟨3, o2, 2⟩ : IncV)).toList 6
    replace hP1 := hP1.cells_other (g := w.heap.size) (by omega) (incC (⟨3, o2, 2⟩ : IncV)).toList 6
    replace hA1 := hA1.cells_other (k := w.heap.size) (by omega) (incC (⟨3, o2, 2⟩ : IncV)).toList 6
    obtain ⟨Wa, hWa⟩ : ∃ V, W.setCells w.heap.size 6 (incC (⟨3, o2, 2⟩ : IncV)).toList = V := ⟨_, rfl⟩
    rw [hWa] at hX hGp hGa hb hP0 hA0 hP1 hA1
    replace hWa : Hid _ := hWa
    rw [rounds_succ]
    go_wp2_with (first
      | ((with_reducible refine at_bin ?_); (refine wpList_val (.int .u8 (o2 : Int)) (by rfl) (run_rem_u8 _ _ _ _ rfl x2.osd 5 o2 rfl rfl hx2 (by decide) ho2.out) ?_; (try simp only [Act.put, List.setIfInBounds_toArray, List.set_cons_zero, List.set_cons_succ])))
      | ((with_reducible refine at_bld ?_); (refine wpList_build_33 (by rfl) 23 0 1 2 _ _ _ rfl _ _ _ rfl rfl rfl (incC (⟨3, o2, 2⟩ : IncV)) (inc_b3' 3 o2 2) ?_; (try simp only [Act.put, List.setIfInBounds_toArray, List.set_cons_zero, List.set_cons_succ])))
      | ((with_reducible refine at_sto ?_); (refine wpList_store_mid' (by rfl) 23 _ _ rfl w.heap.size 6 (incC (⟨3, o2, 2⟩ : IncV)) rfl rfl ?hg (inc_size _) (inc_one _) ?_; (case hg => exact th.out); rw [hWa.out]; (try simp only [Act.put, List.setIfInBounds_toArray, List.set_cons_zero, List.set_cons_succ]))))
    clear z th hWa
    refine wp_region_plan (fun V => Has V w.heap.size 44 (inc9 ⟨3, o0, 0⟩ ⟨3, o1, 1⟩ ⟨3, o2, 2⟩)) (Plan.of [(0, true), (1, true), (2, true), (3, true), (4, true), (5, true), (6, true), (7, false), (9, true), (8, false), (10, false), (11, true), (12, false)] .done) (by kernel_rfl) (by kernel_rfl) (by kernel_rfl) (by kernel_rfl) hX.drew ?_
    replace hX := hX.drew
    replace hGp := hGp.drew
    replace hGa := hGa.drew
    replace hb := hb.drew
    replace hP0 := hP0.drew
    replace hA0 := hA0.drew
    replace hP1 := hP1.drew
    replace hA1 := hA1.drew
    generalize Wa.drew = Wb at *
    iterate 3
      first
        | (refine plan_pass _ rfl (by rfl) ?_)
        | (refine plan_take _ _ rfl (.inl ⟨by rfl, fun W hS => by clear hS; go_simp; try with_reducible rfl⟩) ?_)
      try simp only [Act.put, List.setIfInBounds_toArray, List.set_cons_zero, List.set_cons_succ]
    refine plan_take _ (.int .u8 2) rfl (.inl ⟨by rfl, fun V hV => by clear hV; go_simp; try (first | rfl | decide)⟩) ?_
    try simp only [Act.put, List.setIfInBounds_toArray, List.set_cons_zero, List.set_cons_succ]
    iterate 2
      first
        | (refine plan_pass _ rfl (by rfl) ?_)
        | (refine plan_take _ _ rfl (.inl ⟨by rfl, fun W hS => by clear hS; go_simp; try with_reducible rfl⟩) ?_)
      try simp only [Act.put, List.setIfInBounds_toArray, List.set_cons_zero, List.set_cons_succ]
    refine plan_take _ _ rfl (yields_inc_mid (⟨3, o2, 2⟩ : IncV) (by rfl) _ rfl w.heap.size 6 rfl (fun _ h => inc9_2 h)) ?_
    try simp only [Act.put, List.setIfInBounds_toArray, List.set_cons_zero, List.set_cons_succ]
    have hsz := hGa.lt
    have hsz0 := hA0.lt
    have hsz1 := hA1.lt
    refine plan_run _ rfl (fun K hK => ?_)
    go_simp
    refine (pnew_any 2 (⟨3, o2, 2⟩ : IncV) _ (by decide) hY2).mono ?_
    rintro e Wc ⟨p2, rfl, hl2, hP2, hq⟩
    have q2 : gp + 1 < p2 := by omega
    have q20 : a0 < p2 := by omega
    have q21 : a1 < p2 := by omega
    clear hl2
    replace hX := hX.later hq
    replace hGp := hGp.later hq
    replace hGa := hGa.later hq
    replace hb := hb.trans (hq.mono hb.size)
    replace hP0 := hP0.later hq
    replace hA0 := hA0.later hq
    replace hP1 := hP1.later hq
    replace hA1 := hA1.later hq
    refine hK.out _ _ hX ?_
    clear hK K hq
    try simp only [Act.put, List.setIfInBounds_toArray, List.set_cons_zero, List.set_cons_succ]
    iterate 1
      first
        | (refine plan_pass _ rfl (by rfl) ?_)
        | (refine plan_take _ _ rfl (.inl ⟨by rfl, fun W hS => by clear hS; go_simp; try with_reducible rfl⟩) ?_)
      try simp only [Act.put, List.setIfInBounds_toArray, List.set_cons_zero, List.set_cons_succ]
    have hpl2 := hP2.lt
    refine plan_run _ rfl (fun K hK => ?_)
    go_simp
    refine (bnew_any _).mono ?_
    rintro e Wd ⟨a2, rfl, hm2, hA2, hq⟩
    have r2 : p2 < a2 := by omega
    clear hm2 hpl2
    replace hX := hX.later hq
    replace hGp := hGp.later hq
    replace hGa := hGa.later hq
    replace hb := hb.trans (hq.mono hb.size)
    replace hP2 := hP2.later hq
    replace hP0 := hP0.later hq
    replace hA0 := hA0.later hq
    replace hP1 := hP1.later hq
    replace hA1 := hA1.later hq
    refine hK.out _ _ hX ?_
    clear hK K hq
    try simp only [Act.put, List.setIfInBounds_toArray, List.set_cons_zero, List.set_cons_succ]
    have z := (hGp.cell 2).trans (show _ = some (Value.pointer none) from rfl)
    have zf := hGp.free 2
    replace hX := hX.set_other (a := ⟨gp, 2, none⟩) (show w.heap.size ≠ gp by omega) (pt p2)
    replace hGa := hGa.set_other (a := ⟨gp, 2, none⟩) (show gp + 1 ≠ gp by omega) (pt p2)
    replace hb := hb.setCell (show w.heap.size ≤ (⟨gp, 2, none⟩ : Addr).block by show w.heap.size ≤ gp; omega) (pt p2)
    have hGp2 : Has (Wd.setCell ⟨gp, 2, none⟩ (pt p2)) gp 46 #[(pt p0), (pt p1), (pt p2)] := hGp.set 2 (pt p2)
    replace hP0 := hP0.set_other (g := gp) (show p0 ≠ gp by omega) 2 (pt p2)
    replace hA0 := hA0.set_other (a := ⟨gp, 2, none⟩) (show a0 ≠ gp by omega) (pt p2)
    replace hP1 := hP1.set_other (g := gp) (show p1 ≠ gp by omega) 2 (pt p2)
    replace hA1 := hA1.set_other (a := ⟨gp, 2, none⟩) (show a1 ≠ gp by omega) (pt p2)
    replace hP2 := hP2.set_other (g := gp) (show p2 ≠ gp by omega) 2 (pt p2)
    replace hA2 := hA2.set_other (a := ⟨gp, 2, none⟩) (show a2 ≠ gp by omega) (pt p2)
    obtain ⟨We, hWe⟩ : ∃ V, Wd.setCell ⟨gp, 2, none⟩ (pt p2) = V := ⟨_, rfl⟩
    rw [hWe] at hX hGa hb hGp2 hP0 hA0 hP1 hA1 hP2 hA2
    have hWe' : Wd.setCell ⟨gp, 2, none⟩ (.pointer (some ⟨p2, 0, none⟩)) = We := hWe
    refine plan_run _ rfl (fun K hK => ?_)
    go_simp
    try rw [hWe']
    refine hK.out _ _ hX ?_
    clear hK K z zf hGp hWe hWe'
    have hGp := hGp2
    clear hGp2
    try simp only [Act.put, List.setIfInBounds_toArray, List.set_cons_zero, List.set_cons_succ]
    iterate 1
      first
        | (refine plan_pass _ rfl (by rfl) ?_)
        | (refine plan_take _ _ rfl (.inl ⟨by rfl, fun W hS => by clear hS; go_simp; try with_reducible rfl⟩) ?_)
      try simp only [Act.put, List.setIfInBounds_toArray, List.set_cons_zero, List.set_cons_succ]
    have z := (hGa.cell 2).trans (show _ = some (Value.pointer none) from rfl)
    have zf := hGa.free 2
    replace hX := hX.set_other (a := ⟨gp + 1, 2, none⟩) (show w.heap.size ≠ gp + 1 by omega) (pt a2)
    replace hGp := hGp.set_other (a := ⟨gp + 1, 2, none⟩) (show gp ≠ gp + 1 by omega) (pt a2)
    replace hb := hb.setCell (show w.heap.size ≤ (⟨gp + 1, 2, none⟩ : Addr).block by show w.heap.size ≤ gp + 1; omega) (pt a2)
    have hGa2 : Has (We.setCell ⟨gp + 1, 2, none⟩ (pt a2)) (gp + 1) 48 #[(pt a0), (pt a1), (pt a2)] := hGa.set 2 (pt a2)
    replace hP0 := hP0.set_other (g := gp + 1) (show p0 ≠ gp + 1 by omega) 2 (pt a2)
    replace hA0 := hA0.set_other (a := ⟨gp + 1, 2, none⟩) (show a0 ≠ gp + 1 by omega) (pt a2)
    replace hP1 := hP1.set_other (g := gp + 1) (show p1 ≠ gp + 1 by omega) 2 (pt a2)
    replace hA1 := hA1.set_other (a := ⟨gp + 1, 2, none⟩) (show a1 ≠ gp + 1 by omega) (pt a2)
    replace hP2 := hP2.set_other (g := gp + 1) (show p2 ≠ gp + 1 by omega) 2 (pt a2)
    replace hA2 := hA2.set_other (a := ⟨gp + 1, 2, none⟩) (show a2 ≠ gp + 1 by omega) (pt a2)
    obtain ⟨Wf, hWf⟩ : ∃ V, We.setCell ⟨gp + 1, 2, none⟩ (pt a2) = V := ⟨_, rfl⟩
    rw [hWf] at hX hGp hb hGa2 hP0 hA0 hP1 hA1 hP2 hA2
    have hWf' : We.setCell ⟨gp + 1, 2, none⟩ (.pointer (some ⟨a2, 0, none⟩)) = Wf := hWf
    refine plan_run _ rfl (fun K hK => ?_)
    go_simp
    try rw [hWf']
    refine hK.out _ _ hX ?_
    clear hK K z zf hGa hWf hWf' hsz hsz0 hsz1
    have hGa := hGa2
    clear hGa2
    try simp only [Act.put, List.setIfInBounds_toArray, List.set_cons_zero, List.set_cons_succ]
    refine plan_done ?_
    go_wp2
    generalize Wf = W at *
    rw [rounds_succ]
    go_wp2
    have hla := hA2.lt
    generalize (⟨3, o0, 0⟩ : IncV) = y0 at *
    generalize (⟨3, o1, 1⟩ : IncV) = y1 at *
    generalize (⟨3, o2, 2⟩ : IncV) = y2 at *
    clear hob0 hob1 hob2 ho0 ho1 ho2 hx0 hx1 hx2 k0 k1 k2
    obtain ⟨p, rfl, rfl, rfl⟩ : ∃ p : Nat → Nat, p 0 = p0 ∧ p 1 = p1 ∧ p 2 = p2 := ⟨fun i => match i with | 0 => p0 | 1 => p1 | _ => p2, rfl, rfl, rfl⟩
    obtain ⟨a, rfl, rfl, rfl⟩ : ∃ p : Nat → Nat, p 0 = a0 ∧ p 1 = a1 ∧ p 2 = a2 := ⟨fun i => match i with | 0 => a0 | 1 => a1 | _ => a2, rfl, rfl, rfl⟩
    obtain ⟨X, rfl, rfl, rfl⟩ : ∃ p : Nat → IncV, p 0 = y0 ∧ p 1 = y1 ∧ p 2 = y2 := ⟨fun i => match i with | 0 => y0 | 1 => y1 | _ => y2, rfl, rfl, rfl⟩
    have hXo : ∀ i, i < 3 → IncOk (X i) := fun i hi => match i, hi with
      | 0, _ => hY0
      | 1, _ => hY1
      | 2, _ => hY2
    replace hGp : Has W gp 46 (ptr3 p) := hGp
    replace hGa : Has W (gp + 1) 48 (ptr3 a) := hGa
    have hT : SysAt W p a ⟨fun k => newM k (X k), fun _ => acc0⟩ := ⟨fun i hi => match i, hi with
      | 0, _ => hP0
      | 1, _ => hP1
      | 2, _ => hP2, fun i hi => match i, hi with
      | 0, _ => hA0
      | 1, _ => hA1
      | 2, _ => hA2, fun i _ => acc0_ok⟩
    have hE : Env w W [(w.heap.size, 44, inc9 (X 0) (X 1) (X 2)), (gp, 46, ptr3 p), (gp + 1, 48, ptr3 a)] := (((Env.start hb).add hX).add hGp).add hGa
    have hord : ∀ i, i < 3 → gp + 1 < p i ∧ gp + 1 < a i := fun i hi => match i, hi with
      | 0, _ => ⟨by omega, by omega⟩
      | 1, _ => ⟨by omega, by omega⟩
      | 2, _ => ⟨by omega, by omega⟩
    have hsp : Spots w p a := by
      refine ⟨fun i hi => by have := hord i hi; omega, fun i hi => by have := hord i hi; omega, fun i j hi hj e => ?_, fun i j hi hj e => ?_, fun i j hi hj => ?_⟩
      all_goals
        have hi' : i = 0 ∨ i = 1 ∨ i = 2 := by omega
        have hj' : j = 0 ∨ j = 1 ∨ j = 2 := by omega
        rcases hi' with rfl | rfl | rfl <;> rcases hj' with rfl | rfl | rfl <;> omega
    have hmem : ∀ g, gp + 1 < g → Apart g [(w.heap.size, 44, inc9 (X 0) (X 1) (X 2)), (gp, 46, ptr3 p), (gp + 1, 48, ptr3 a)] := fun g hg e he => by
      simp only [List.mem_cons, List.not_mem_nil, or_false] at he
      rcases he with he | he | he <;> rw [he]
      · show w.heap.size ≠ g; omega
      · show gp ≠ g; omega
      · show gp + 1 ≠ g; omega
    have hAp : Hid (∀ i, i < 3 → Apart (p i) [(w.heap.size, 44, inc9 (X 0) (X 1) (X 2)), (gp, 46, ptr3 p), (gp + 1, 48, ptr3 a)]) := fun i hi => hmem _ (hord i hi).1
    have hAa : Hid (∀ i, i < 3 → Apart (a i) [(w.heap.size, 44, inc9 (X 0) (X 1) (X 2)), (gp, 46, ptr3 p), (gp + 1, 48, ptr3 a)]) := fun i hi => hmem _ (hord i hi).2
    have hG := Good11.first X
    clear hP0 hP1 hP2 hA0 hA1 hA2 hX hGp hGa hb hmem hord hY0 hY1 hY2 q0 q1 q10 q2 q20 q21 r0 r1 r2 hla hXl hGal
    replace hXo : Hid _ := hXo
    go_loopw [8] (fun i wr => ∃ (n : Nat) (s : Sys), n ≤ l.length ∧ i = .int .i64 n ∧ SysAt wr p a s ∧ Good11 n X s ∧ Env w wr [(w.heap.size, 44, inc9 (X 0) (X 1) (X 2)), (gp, 46, ptr3 p), (gp + 1, 48, ptr3 a)]) (fun i _ => l.length - (intOf i).toNat)
    case atStart => exact ⟨0, _, Nat.zero_le _, rfl, hT, hG, hE⟩
    case round =>
      clear hT hG hE
      obtain ⟨n, s, hn, rfl, hT, hG, hE⟩ := hrel
      replace hXo := hXo.out
      by_cases hlt : n < l.length
      · have hnI : (n : Int) < (l.length : Int) := by omega
        cases ao with
        | none => have h1 := hSl.nil rfl; omega
        | some ad =>
          have hzp : Hid (∀ V, Below w.heap.size w V → V.cell? (ad.add (n * 3)) = some (.int .u8 l[n].p)) := fun V hV => turn_p (hSl.later hV) n hlt
          have hza : Hid (∀ V, Below w.heap.size w V → V.cell? ⟨(ad.add (n * 3)).block, (ad.add (n * 3)).off + 1, none⟩ = some (.int .u8 l[n].a)) := fun V hV => turn_a (hSl.later hV) n hlt
          have hzw : Hid (∀ V, Below w.heap.size w V → V.cell? ⟨(ad.add (n * 3)).block, (ad.add (n * 3)).off + 2, none⟩ = some (.int .u8 l[n].what)) := fun V hV => turn_w (hSl.later hV) n hlt
          have ht := hl l[n] (List.getElem_mem hlt)
          generalize l[n] = t at *
          obtain ⟨k, hk⟩ : ∃ q, t.p % 3 = q := ⟨_, rfl⟩
          obtain ⟨j, hj⟩ : ∃ q, t.a % 3 = q := ⟨_, rfl⟩
          obtain ⟨T8, h8⟩ : ∃ q, t.what % 8 = q := ⟨_, rfl⟩
          obtain ⟨T2, h2⟩ : ∃ q, t.what % 2 = q := ⟨_, rfl⟩
          have hk3 : k < 3 := by omega
          have hj3 : j < 3 := by omega
          have hT2 : T2 = 0 ∨ T2 = 1 := by omega
          have hT8 : T8 < 8 := by omega
          have hk3I : (k : Int) < 3 := by omega
          have hj3I : (j : Int) < 3 := by omega
          have hjw : Hid (IntKind.u8.wrap (j : Int) = (j : Int)) := by show _ = _; simp [IntKind.wrap, IntKind.bits, IntKind.signed]; omega
          replace hk : Hid _ := hk
          replace hj : Hid _ := hj
          replace h8 : Hid _ := h8
          replace h2 : Hid _ := h2
          go_wp2
          refine wp_region_plan (fun V => Env w V [(w.heap.size, 44, inc9 (X 0) (X 1) (X 2)), (gp, 46, ptr3 p), (gp + 1, 48, ptr3 a)]) (Plan.of [(0, true), (1, true), (2, true), (3, true), (4, true), (5, true), (6, true), (7, true), (8, true), (9, true), (10, true), (11, true), (12, true), (13, true), (14, true), (15, true)] .done) (by kernel_rfl) (by kernel_rfl) (by kernel_rfl) (by kernel_rfl) hE.drew ?_
          replace hE := hE.drew
          replace hT := hT.drew
          generalize wr.drew = wa at *
          iterate 4
            first
              | (refine plan_pass _ rfl (by rfl) ?_)
              | (refine plan_take _ _ rfl (.inl ⟨by rfl, fun W hS => by clear hS; go_simp; try with_reducible rfl⟩) ?_)
            try simp only [Act.put, List.setIfInBounds_toArray, List.set_cons_zero, List.set_cons_succ]
          iterate 1
            first
              | (refine plan_pass _ rfl (by rfl) ?_)
              | (refine plan_take _ _ rfl (.inl ⟨by rfl, fun W hS => by have z := hzp.out _ hS.below; go_simp; try with_reducible rfl⟩) ?_)
            try simp only [Act.put, List.setIfInBounds_toArray, List.set_cons_zero, List.set_cons_succ]
          refine plan_take _ (.int .u8 ((k : Nat) : Int)) rfl (yields_valA _ (by rfl) (run_rem_u8 _ _ _ _ rfl t.p 3 k rfl rfl ht.p (by decide) hk.out)) ?_
          try simp only [Act.put, List.setIfInBounds_toArray, List.set_cons_zero, List.set_cons_succ]
          iterate 5
            first
              | (refine plan_pass _ rfl (by rfl) ?_)
              | (refine plan_take _ _ rfl (.inl ⟨by rfl, fun W hS => by clear hS; go_simp; try with_reducible rfl⟩) ?_)
            try simp only [Act.put, List.setIfInBounds_toArray, List.set_cons_zero, List.set_cons_succ]
          iterate 1
            first
              | (refine plan_pass _ rfl (by rfl) ?_)
              | (refine plan_take _ _ rfl (.inl ⟨by rfl, fun W hS => by have z := hza.out _ hS.below; go_simp; try with_reducible rfl⟩) ?_)
            try simp only [Act.put, List.setIfInBounds_toArray, List.set_cons_zero, List.set_cons_succ]
          refine plan_take _ (.int .u8 ((j : Nat) : Int)) rfl (yields_valA _ (by rfl) (run_rem_u8 _ _ _ _ rfl t.a 3 j rfl rfl ht.a (by decide) hj.out)) ?_
          try simp only [Act.put, List.setIfInBounds_toArray, List.set_cons_zero, List.set_cons_succ]
          iterate 3
            first
              | (refine plan_pass _ rfl (by rfl) ?_)
              | (refine plan_take _ _ rfl (.inl ⟨by rfl, fun W hS => by clear hS; go_simp; try with_reducible rfl⟩) ?_)
            try simp only [Act.put, List.setIfInBounds_toArray, List.set_cons_zero, List.set_cons_succ]
          refine plan_done ?_
          have zk := ptr3_at (hE.get 1 rfl) k hk3
          obtain ⟨b, hbe⟩ : ∃ q, (s.pr k).b = q := ⟨_, rfl⟩
          have hbo : BalOk b := hbe ▸ (hT.pr k hk3).ok.b
          have hk1 := pballot_any (p k) (s.pr k) wa (hT.pr k hk3)
          rw [hbe] at hk1
          replace hbe : Hid _ := hbe
          go_wp2_with fail
          refine hk1.mono ?_
          rintro e wc ⟨rfl, hq⟩
          replace hT := hT.later hq
          replace hE := hE.later hq
          clear hq hk1 zk
          obtain ⟨wd, hwd, hB, hq⟩ := new_var wc 31 (balC bal0) (balC b)
          have hAp1 : ∀ i, i < 3 → Apart (p i) ([(w.heap.size, 44, inc9 (X 0) (X 1) (X 2)), (gp, 46, ptr3 p), (gp + 1, 48, ptr3 a)] ++ [(wc.heap.size, 31, balC b)]) := fun i hi => (hAp.out i hi).add (by have := (hT.pr i hi).lt; omega) 31 (balC b)
          have hAa1 : ∀ i, i < 3 → Apart (a i) ([(w.heap.size, 44, inc9 (X 0) (X 1) (X 2)), (gp, 46, ptr3 p), (gp + 1, 48, ptr3 a)] ++ [(wc.heap.size, 31, balC b)]) := fun i hi => (hAa.out i hi).add (by have := (hT.ac i hi).lt; omega) 31 (balC b)
          replace hT := hT.later hq
          replace hE := (hE.later hq).add hB
          clear hq hB
          have zwh := hzw.out _ hE.below
          by_cases hT80 : T8 = 0
          · have h80 : ((T8 : Nat) : Int) = 0 := by omega
            go_wp2_with (first
              | ((with_reducible refine at_all ?_); (refine alloc_bal (by rfl) rfl ?_; (try simp only [Act.put, List.setIfInBounds_toArray, List.set_cons_zero, List.set_cons_succ])))
              | ((with_reducible refine at_sto ?_); (refine store_bal b bal0 (by rfl) _ _ rfl wc.heap.size rfl rfl ?hg ?_; (case hg => exact Has.new _ _ _); rw [hwd]; (try simp only [Act.put, List.setIfInBounds_toArray, List.set_cons_zero, List.set_cons_succ])))
              | ((with_reducible refine at_g0 ?_); ((with_reducible refine at_bin ?_); first
                | (refine wpList_val (.int .u8 ((T8 : Nat) : Int)) (by rfl) (run_rem_u8 _ _ _ _ rfl t.what 8 T8 rfl rfl ht.what (by decide) h8.out) ?_; (try simp only [Act.put, List.setIfInBounds_toArray, List.set_cons_zero, List.set_cons_succ]))
                | (refine wpList_val (.int .u8 ((T2 : Nat) : Int)) (by rfl) (run_rem_u8 _ _ _ _ rfl t.what 2 T2 rfl rfl ht.what (by decide) h2.out) ?_; (try simp only [Act.put, List.setIfInBounds_toArray, List.set_cons_zero, List.set_cons_succ])))))
            clear hwd
            generalize wc.heap.size = gb at *
            refine wp_region_plan (fun V => Env w V [(w.heap.size, 44, inc9 (X 0) (X 1) (X 2)), (gp, 46, ptr3 p), (gp + 1, 48, ptr3 a), (gb, 31, balC b)]) (Plan.of [(0, true), (1, true), (2, true), (3, true), (4, true), (5, true), (6, false), (7, false)] .done) (by kernel_rfl) (by kernel_rfl) (by kernel_rfl) (by kernel_rfl) hE.drew ?_
            replace hE := hE.drew
            replace hT := hT.drew
            generalize wd.drew = we at *
            iterate 2
              first
                | (refine plan_pass _ rfl (by rfl) ?_)
                | (refine plan_take _ _ rfl (.inl ⟨by rfl, fun W hS => by clear hS; go_simp; try with_reducible rfl⟩) ?_)
              try simp only [Act.put, List.setIfInBounds_toArray, List.set_cons_zero, List.set_cons_succ]
            refine plan_take _ (.pointer (some ⟨p k, 0, none⟩)) rfl (.inl ⟨by rfl, fun V hV => by have z := ptr3_at (hV.get 1 rfl) k hk3; clear hV; go_simp; try with_reducible rfl⟩) ?_
            try simp only [Act.put, List.setIfInBounds_toArray, List.set_cons_zero, List.set_cons_succ]
            iterate 2
              first
                | (refine plan_pass _ rfl (by rfl) ?_)
                | (refine plan_take _ _ rfl (.inl ⟨by rfl, fun W hS => by clear hS; go_simp; try with_reducible rfl⟩) ?_)
              try simp only [Act.put, List.setIfInBounds_toArray, List.set_cons_zero, List.set_cons_succ]
            refine plan_take _ (.pointer (some ⟨a j, 0, none⟩)) rfl (.inl ⟨by rfl, fun V hV => by have z := ptr3_at (hV.get 2 rfl) j hj3; clear hV; go_simp; try with_reducible rfl⟩) ?_
            try simp only [Act.put, List.setIfInBounds_toArray, List.set_cons_zero, List.set_cons_succ]
            refine plan_run _ rfl (fun K hK => ?_)
            go_simp
            refine (promised_any (a j) (s.ac j) _ (hT.ac j hj3)).mono ?_
            rintro e wf ⟨rfl, hq⟩
            replace hT := hT.later hq
            replace hE := hE.later hq
            refine hK.out _ _ hE ?_
            clear hK K hq
            try simp only [Act.put, List.setIfInBounds_toArray, List.set_cons_zero, List.set_cons_succ]
            refine plan_run _ rfl (fun K hK => ?_)
            go_simp
            refine (pstart_any (p k) (s.pr k) (s.ac j).pro _ (hT.pr k hk3) (hT.ok j hj3).pro).mono ?_
            rintro e wg ⟨rfl, hPg, hq⟩
            replace hT := hT.putP hsp hk3 hPg hq
            replace hE := hE.but hq (hsp.pl k hk3) (hAp1 k hk3)
            refine hK.out _ _ hE ?_
            clear hK K hq hPg
            try simp only [Act.put, List.setIfInBounds_toArray, List.set_cons_zero, List.set_cons_succ]
            refine plan_done ?_
            replace hG := hG.start (by omega) hk3 hj3
            have hE9 : Env w _ [(w.heap.size, 44, inc9 (X 0) (X 1) (X 2)), (gp, 46, ptr3 p), (gp + 1, 48, ptr3 a)] := (((Env.start hE.below).add (hE.get 0 rfl)).add (hE.get 1 rfl)).add (hE.get 2 rfl)
            clear hE
            obtain ⟨D, hDo, hD3⟩ := hG.same3 hXo
            have gA := hE9.get 0 rfl
            have gP := hE9.get 1 rfl
            go_wp2_with ((with_reducible refine at_loa ?_); first
              | (refine wpList_load_has (by rfl) 46 _ rfl gp rfl 46 (ptr3 p) _ Try.underlying46 rfl (ptr3_size p) ?hg ?_; (case hg => exact gP); (try simp only [Act.put, List.setIfInBounds_toArray, List.set_cons_zero, List.set_cons_succ]))
              | (refine wpList_load_has (by rfl) 44 _ rfl w.heap.size rfl 44 (inc9 (X 0) (X 1) (X 2)) _ Try.underlying44 rfl (inc9_size _ _ _) ?hg ?_; (case hg => exact gA); (try simp only [Act.put, List.setIfInBounds_toArray, List.set_cons_zero, List.set_cons_succ])))
            refine (agree_any p _ D (X 0) (X 1) (X 2) _ hT.pr hD3 hDo (hXo 0 (by decide)) (hXo 1 (by decide)) (hXo 2 (by decide))).mono ?_
            rintro e wz ⟨rfl, hq⟩
            replace hT := hT.later hq
            replace hE9 := hE9.later hq
            clear hq gA gP hD3 hDo
            go_wp2
            go_roundw
            case rel => exact ⟨n + 1, _, by omega, by go_num, hT, hG, hE9⟩
            case measure => simp [intOf]; omega
          · rcases hT2 with hT20 | hT21
            · have h80 : ¬ ((T8 : Nat) : Int) = 0 := by omega
              have h80b : (((T8 : Nat) : Int) == 0) = false := beq_eq_false_iff_ne.2 h80
              have h21 : ¬ ((T2 : Nat) : Int) = 1 := by omega
              have h21b : (((T2 : Nat) : Int) == 1) = false := beq_eq_false_iff_ne.2 h21
              replace hT20 : Hid _ := hT20
              have zk := ptr3_at (hE.get 1 rfl) k hk3
              go_wp2_with (first
                | ((with_reducible refine at_all ?_); (refine alloc_bal (by rfl) rfl ?_; (try simp only [Act.put, List.setIfInBounds_toArray, List.set_cons_zero, List.set_cons_succ])))
                | ((with_reducible refine at_sto ?_); (refine store_bal b bal0 (by rfl) _ _ rfl wc.heap.size rfl rfl ?hg ?_; (case hg => exact Has.new _ _ _); rw [hwd]; (try simp only [Act.put, List.setIfInBounds_toArray, List.set_cons_zero, List.set_cons_succ])))
                | ((with_reducible refine at_g0 ?_); ((with_reducible refine at_bin ?_); first
                  | (refine wpList_val (.int .u8 ((T8 : Nat) : Int)) (by rfl) (run_rem_u8 _ _ _ _ rfl t.what 8 T8 rfl rfl ht.what (by decide) h8.out) ?_; (try simp only [Act.put, List.setIfInBounds_toArray, List.set_cons_zero, List.set_cons_succ]))
                  | (refine wpList_val (.int .u8 ((T2 : Nat) : Int)) (by rfl) (run_rem_u8 _ _ _ _ rfl t.what 2 T2 rfl rfl ht.what (by decide) h2.out) ?_; (try simp only [Act.put, List.setIfInBounds_toArray, List.set_cons_zero, List.set_cons_succ])))))
              clear hwd
              generalize wc.heap.size = gb at *
              clear zk
              refine (pvalue_any (p k) (s.pr k) _ (hT.pr k hk3)).mono ?_
              rintro e wf ⟨y, rfl, hyo, hy, hq⟩
              replace hT := hT.later hq
              replace hE := hE.later hq
              clear hq
              cases hV : (s.pr k).hasV with
              | false =>
                clear hy
                obtain ⟨wg, hwg, hY, hq⟩ := new_var wf 23 (incC inc0) (incC y)
                have hgy : ∀ i, i < 3 → wf.heap.size ≠ p i ∧ wf.heap.size ≠ a i := fun i hi => ⟨by have := (hT.pr i hi).lt; omega, by have := (hT.ac i hi).lt; omega⟩
                replace hT := hT.later hq
                replace hE := (hE.later hq).add hY
                clear hq hY
                go_wp2_with (first
                  | ((with_reducible refine at_all ?_); (refine alloc_inc0 (by rfl) rfl ?_; (try simp only [Act.put, List.setIfInBounds_toArray, List.set_cons_zero, List.set_cons_succ])))
                  | ((with_reducible refine at_sto ?_); (refine store_inc y inc0 (by rfl) _ _ rfl wf.heap.size rfl rfl ?hg ?_; (case hg => exact Has.new _ _ _); rw [hwg]; (try simp only [Act.put, List.setIfInBounds_toArray, List.set_cons_zero, List.set_cons_succ]))))
                clear hwg
                generalize wf.heap.size = gv at *
                have hAp3 : ∀ i, i < 3 → Apart (p i) [(w.heap.size, 44, inc9 (X 0) (X 1) (X 2)), (gp, 46, ptr3 p), (gp + 1, 48, ptr3 a), (gb, 31, balC b), (gv, 23, incC y)] := fun i hi => (hAp1 i hi).add (hgy i hi).1 23 (incC y)
                have hAa3 : ∀ i, i < 3 → Apart (a i) [(w.heap.size, 44, inc9 (X 0) (X 1) (X 2)), (gp, 46, ptr3 p), (gp + 1, 48, ptr3 a), (gb, 31, balC b), (gv, 23, incC y)] := fun i hi => (hAa1 i hi).add (hgy i hi).2 23 (incC y)
                refine wp_region_plan (fun V => Env w V [(w.heap.size, 44, inc9 (X 0) (X 1) (X 2)), (gp, 46, ptr3 p), (gp + 1, 48, ptr3 a), (gb, 31, balC b), (gv, 23, incC y)]) (Plan.of [(0, true), (1, true), (2, true), (3, true), (4, true), (5, true), (6, true), (7, false), (8, true), (9, true), (10, true), (11, true), (12, true), (13, true), (14, true), (15, true), (16, true), (17, true), (18, true)] .done) (by kernel_rfl) (by kernel_rfl) (by kernel_rfl) (by kernel_rfl) hE.drew ?_
                replace hE := hE.drew
                replace hT := hT.drew
                generalize wg.drew = wh at *
                iterate 7
                  first
                    | (refine plan_pass _ rfl (by rfl) ?_)
                    | (refine plan_take _ _ rfl (.inl ⟨by rfl, fun W hS => by clear hS; go_simp; try with_reducible rfl⟩) ?_)
                  try simp only [Act.put, List.setIfInBounds_toArray, List.set_cons_zero, List.set_cons_succ]
                refine plan_run _ rfl (fun K hK => ?_)
                rw [if_neg (fun hh => Bool.noConfusion (show true = false from hh.symm.trans (by rfl)))]
                refine hK.out _ _ hE ?_
                clear hK K
                try simp only [Act.put, List.setIfInBounds_toArray, List.set_cons_zero, List.set_cons_succ]
                iterate 11
                  first
                    | (refine plan_pass _ rfl (by rfl) ?_)
                    | (refine plan_take _ _ rfl (.inl ⟨by rfl, fun W hS => by clear hS; go_simp; try with_reducible rfl⟩) ?_)
                  try simp only [Act.put, List.setIfInBounds_toArray, List.set_cons_zero, List.set_cons_succ]
                refine plan_done ?_
                replace hG := hG.more
                have hE9 : Env w _ [(w.heap.size, 44, inc9 (X 0) (X 1) (X 2)), (gp, 46, ptr3 p), (gp + 1, 48, ptr3 a)] := (((Env.start hE.below).add (hE.get 0 rfl)).add (hE.get 1 rfl)).add (hE.get 2 rfl)
                clear hE
                obtain ⟨D, hDo, hD3⟩ := hG.same3 hXo
                have gA := hE9.get 0 rfl
                have gP := hE9.get 1 rfl
                go_wp2_with ((with_reducible refine at_loa ?_); first
                  | (refine wpList_load_has (by rfl) 46 _ rfl gp rfl 46 (ptr3 p) _ Try.underlying46 rfl (ptr3_size p) ?hg ?_; (case hg => exact gP); (try simp only [Act.put, List.setIfInBounds_toArray, List.set_cons_zero, List.set_cons_succ]))
                  | (refine wpList_load_has (by rfl) 44 _ rfl w.heap.size rfl 44 (inc9 (X 0) (X 1) (X 2)) _ Try.underlying44 rfl (inc9_size _ _ _) ?hg ?_; (case hg => exact gA); (try simp only [Act.put, List.setIfInBounds_toArray, List.set_cons_zero, List.set_cons_succ])))
                refine (agree_any p _ D (X 0) (X 1) (X 2) _ hT.pr hD3 hDo (hXo 0 (by decide)) (hXo 1 (by decide)) (hXo 2 (by decide))).mono ?_
                rintro e wz ⟨rfl, hq⟩
                replace hT := hT.later hq
                replace hE9 := hE9.later hq
                clear hq gA gP hD3 hDo
                go_wp2
                go_roundw
                case rel => exact ⟨n + 1, _, by omega, by go_num, hT, hG, hE9⟩
                case measure => simp [intOf]; omega
              | true =>
                obtain rfl : (s.pr k).value = y := (hy hV).symm
                clear hy
                obtain ⟨hg1, hg2⟩ := hG.acc hk3 hj3 hV
                obtain ⟨y, hye⟩ : ∃ q, (s.pr k).value = q := ⟨_, rfl⟩
                rw [hye] at hyo hg1 hg2 ⊢
                rw [hbe.out] at hg1 hg2
                replace hye : Hid _ := hye
                clear hV
                obtain ⟨wg, hwg, hY, hq⟩ := new_var wf 23 (incC inc0) (incC y)
                have hgy : ∀ i, i < 3 → wf.heap.size ≠ p i ∧ wf.heap.size ≠ a i := fun i hi => ⟨by have := (hT.pr i hi).lt; omega, by have := (hT.ac i hi).lt; omega⟩
                replace hT := hT.later hq
                replace hE := (hE.later hq).add hY
                clear hq hY
                go_wp2_with (first
                  | ((with_reducible refine at_all ?_); (refine alloc_inc0 (by rfl) rfl ?_; (try simp only [Act.put, List.setIfInBounds_toArray, List.set_cons_zero, List.set_cons_succ])))
                  | ((with_reducible refine at_sto ?_); (refine store_inc y inc0 (by rfl) _ _ rfl wf.heap.size rfl rfl ?hg ?_; (case hg => exact Has.new _ _ _); rw [hwg]; (try simp only [Act.put, List.setIfInBounds_toArray, List.set_cons_zero, List.set_cons_succ]))))
                clear hwg
                generalize wf.heap.size = gv at *
                have hAp3 : ∀ i, i < 3 → Apart (p i) [(w.heap.size, 44, inc9 (X 0) (X 1) (X 2)), (gp, 46, ptr3 p), (gp + 1, 48, ptr3 a), (gb, 31, balC b), (gv, 23, incC y)] := fun i hi => (hAp1 i hi).add (hgy i hi).1 23 (incC y)
                have hAa3 : ∀ i, i < 3 → Apart (a i) [(w.heap.size, 44, inc9 (X 0) (X 1) (X 2)), (gp, 46, ptr3 p), (gp + 1, 48, ptr3 a), (gb, 31, balC b), (gv, 23, incC y)] := fun i hi => (hAa1 i hi).add (hgy i hi).2 23 (incC y)
                have hc := fun W (h : Has W (a j) 77 (accC (s.ac j))) => accept_any (a j) (s.ac j) b y W h (hT.ok j hj3) hbo hyo
                have hbok := accM_ok (hT.ok j hj3) hbo hyo
                obtain ⟨E, hEe⟩ : ∃ q, errA (s.ac j).pro b y = q := ⟨_, rfl⟩
                obtain ⟨AM, hAM⟩ : ∃ q, accM (s.ac j) b y = q := ⟨_, rfl⟩
                simp only [hEe, hAM] at hc
                rw [hAM] at hbok hg1 hg2
                rw [hEe] at hg2
                replace hEe : Hid _ := hEe
                replace hAM : Hid _ := hAM
                replace hg2 : Hid _ := hg2
                by_cases hE0 : E = 0
                · subst hE0
                  by_cases h86 : T8 < 6
                  · have h86I : ((T8 : Nat) : Int) < 6 := by omega
                    refine wp_region_plan (fun V => Env w V [(w.heap.size, 44, inc9 (X 0) (X 1) (X 2)), (gp, 46, ptr3 p), (gp + 1, 48, ptr3 a), (gb, 31, balC b), (gv, 23, incC y)]) (Plan.of [(0, true), (1, true), (2, true), (3, true), (4, true), (5, true), (6, true), (7, false), (8, true), (9, true), (10, true), (11, true), (12, true), (13, true), (14, true), (15, true), (16, true), (17, true), (18, true)] .done) (by kernel_rfl) (by kernel_rfl) (by kernel_rfl) (by kernel_rfl) hE.drew ?_
                    replace hE := hE.drew
                    replace hT := hT.drew
                    generalize wg.drew = wh at *
                    iterate 4
                      first
                        | (refine plan_pass _ rfl (by rfl) ?_)
                        | (refine plan_take _ _ rfl (.inl ⟨by rfl, fun W hS => by clear hS; go_simp; try with_reducible rfl⟩) ?_)
                      try simp only [Act.put, List.setIfInBounds_toArray, List.set_cons_zero, List.set_cons_succ]
                    refine plan_take _ (.pointer (some ⟨a j, 0, none⟩)) rfl (.inl ⟨by rfl, fun V hV => by have z := ptr3_at (hV.get 2 rfl) j hj3; clear hV; go_simp; try with_reducible rfl⟩) ?_
                    try simp only [Act.put, List.setIfInBounds_toArray, List.set_cons_zero, List.set_cons_succ]
                    refine plan_take _ _ rfl (yields_bal b (by rfl) _ rfl gb rfl (fun _ h => h.get 3 rfl)) ?_
                    try simp only [Act.put, List.setIfInBounds_toArray, List.set_cons_zero, List.set_cons_succ]
                    refine plan_take _ _ rfl (yields_inc y (by rfl) _ rfl gv rfl (fun _ h => h.get 4 rfl)) ?_
                    try simp only [Act.put, List.setIfInBounds_toArray, List.set_cons_zero, List.set_cons_succ]
                    refine plan_run _ rfl (fun K hK => ?_)
                    go_simp
                    refine (hc _ (hT.ac j hj3)).mono ?_
                    rintro en wi ⟨rfl, hAm, hq⟩
                    replace hT := hT.putA hsp hj3 hAm hbok hq
                    replace hE := hE.but hq (hsp.al j hj3) (hAa3 j hj3)
                    refine hK.out _ _ hE ?_
                    clear hK K hq hAm
                    try simp only [Act.put, List.setIfInBounds_toArray, List.set_cons_zero, List.set_cons_succ]
                    refine plan_take _ (.bool true) rfl (.inl ⟨by rfl, fun V hV => by clear hV; go_simp; try rfl⟩) ?_
                    try simp only [Act.put, List.setIfInBounds_toArray, List.set_cons_zero, List.set_cons_succ]
                    iterate 6
                      first
                        | (refine plan_pass _ rfl (by rfl) ?_)
                        | (refine plan_take _ _ rfl (.inl ⟨by rfl, fun W hS => by clear hS; go_simp; try with_reducible rfl⟩) ?_)
                      try simp only [Act.put, List.setIfInBounds_toArray, List.set_cons_zero, List.set_cons_succ]
                    iterate 1
                      first
                        | (refine plan_pass _ rfl (by rfl) ?_)
                        | (refine plan_take _ _ rfl (.inl ⟨by rfl, fun W hS => by have z := hzw.out _ hS.below; go_simp; try with_reducible rfl⟩) ?_)
                      try simp only [Act.put, List.setIfInBounds_toArray, List.set_cons_zero, List.set_cons_succ]
                    refine plan_take _ (.int .u8 ((T8 : Nat) : Int)) rfl (yields_valA _ (by rfl) (run_rem_u8 _ _ _ _ rfl t.what 8 T8 rfl rfl ht.what (by decide) h8.out)) ?_
                    try simp only [Act.put, List.setIfInBounds_toArray, List.set_cons_zero, List.set_cons_succ]
                    refine plan_take _ (.bool true) rfl (.inl ⟨by rfl, fun V hV => by clear hV; go_simp; try omega⟩) ?_
                    try simp only [Act.put, List.setIfInBounds_toArray, List.set_cons_zero, List.set_cons_succ]
                    iterate 1
                      first
                        | (refine plan_pass _ rfl (by rfl) ?_)
                        | (refine plan_take _ _ rfl (.inl ⟨by rfl, fun W hS => by clear hS; go_simp; try with_reducible rfl⟩) ?_)
                      try simp only [Act.put, List.setIfInBounds_toArray, List.set_cons_zero, List.set_cons_succ]
                    refine plan_done ?_
                    obtain ⟨s1, hs1⟩ : ∃ q, s.putA j AM = q := ⟨_, rfl⟩
                    rw [hs1] at hT
                    have hs1k : s1.pr k = s.pr k := by rw [← hs1]; rfl
                    go_wp2
                    refine wp_region_plan (fun V => Env w V [(w.heap.size, 44, inc9 (X 0) (X 1) (X 2)), (gp, 46, ptr3 p), (gp + 1, 48, ptr3 a), (gb, 31, balC b), (gv, 23, incC y)]) (Plan.of [(0, true), (1, true), (2, true), (3, true), (4, true), (5, true), (6, false)] .done) (by kernel_rfl) (by kernel_rfl) (by kernel_rfl) (by kernel_rfl) hE.drew ?_
                    replace hE := hE.drew
                    replace hT := hT.drew
                    generalize wi.drew = wj at *
                    iterate 2
                      first
                        | (refine plan_pass _ rfl (by rfl) ?_)
                        | (refine plan_take _ _ rfl (.inl ⟨by rfl, fun W hS => by clear hS; go_simp; try with_reducible rfl⟩) ?_)
                      try simp only [Act.put, List.setIfInBounds_toArray, List.set_cons_zero, List.set_cons_succ]
                    refine plan_take _ (.pointer (some ⟨p k, 0, none⟩)) rfl (.inl ⟨by rfl, fun V hV => by have z := ptr3_at (hV.get 1 rfl) k hk3; clear hV; go_simp; try with_reducible rfl⟩) ?_
                    try simp only [Act.put, List.setIfInBounds_toArray, List.set_cons_zero, List.set_cons_succ]
                    iterate 1
                      first
                        | (refine plan_pass _ rfl (by rfl) ?_)
                        | (refine plan_take _ _ rfl (.inl ⟨by rfl, fun W hS => by clear hS; go_simp; try with_reducible rfl⟩) ?_)
                      try simp only [Act.put, List.setIfInBounds_toArray, List.set_cons_zero, List.set_cons_succ]
                    refine plan_take _ (.int .u8 ((j : Nat) : Int)) rfl (.inl ⟨by rfl, fun V hV => by clear hV; go_simp; try (first | rfl | exact hjw.out)⟩) ?_
                    try simp only [Act.put, List.setIfInBounds_toArray, List.set_cons_zero, List.set_cons_succ]
                    refine plan_take _ _ rfl (yields_bal b (by rfl) _ rfl gb rfl (fun _ h => h.get 3 rfl)) ?_
                    try simp only [Act.put, List.setIfInBounds_toArray, List.set_cons_zero, List.set_cons_succ]
                    refine plan_run _ rfl (fun K hK => ?_)
                    go_simp
                    refine (paccepted_any (p k) (s1.pr k) j b _ (hT.pr k hk3) (by omega) hbo).mono ?_
                    rintro e wl ⟨rfl, hPj, hq⟩
                    replace hT := hT.putP hsp hk3 hPj hq
                    replace hE := hE.but hq (hsp.pl k hk3) (hAp3 k hk3)
                    refine hK.out _ _ hE ?_
                    clear hK K hq hPj
                    try simp only [Act.put, List.setIfInBounds_toArray, List.set_cons_zero, List.set_cons_succ]
                    refine plan_done ?_
                    rw [hs1k, ← hs1] at hT
                    replace hG := (hg2.out (by trivial)).more
                    have hE9 : Env w _ [(w.heap.size, 44, inc9 (X 0) (X 1) (X 2)), (gp, 46, ptr3 p), (gp + 1, 48, ptr3 a)] := (((Env.start hE.below).add (hE.get 0 rfl)).add (hE.get 1 rfl)).add (hE.get 2 rfl)
                    clear hE
                    obtain ⟨D, hDo, hD3⟩ := hG.same3 hXo
                    have gA := hE9.get 0 rfl
                    have gP := hE9.get 1 rfl
                    go_wp2_with ((with_reducible refine at_loa ?_); first
                      | (refine wpList_load_has (by rfl) 46 _ rfl gp rfl 46 (ptr3 p) _ Try.underlying46 rfl (ptr3_size p) ?hg ?_; (case hg => exact gP); (try simp only [Act.put, List.setIfInBounds_toArray, List.set_cons_zero, List.set_cons_succ]))
                      | (refine wpList_load_has (by rfl) 44 _ rfl w.heap.size rfl 44 (inc9 (X 0) (X 1) (X 2)) _ Try.underlying44 rfl (inc9_size _ _ _) ?hg ?_; (case hg => exact gA); (try simp only [Act.put, List.setIfInBounds_toArray, List.set_cons_zero, List.set_cons_succ])))
                    refine (agree_any p _ D (X 0) (X 1) (X 2) _ hT.pr hD3 hDo (hXo 0 (by decide)) (hXo 1 (by decide)) (hXo 2 (by decide))).mono ?_
                    rintro e wz ⟨rfl, hq⟩
                    replace hT := hT.later hq
                    replace hE9 := hE9.later hq
                    clear hq gA gP hD3 hDo
                    go_wp2
                    go_roundw
                    case rel => exact ⟨n + 1, _, by omega, by go_num, hT, hG, hE9⟩
                    case measure => simp [intOf]; omega
                  · have h86I : ¬ ((T8 : Nat) : Int) < 6 := by omega
                    have h86J : (6 : Int) ≤ ((T8 : Nat) : Int) := by omega
                    refine wp_region_plan (fun V => Env w V [(w.heap.size, 44, inc9 (X 0) (X 1) (X 2)), (gp, 46, ptr3 p), (gp + 1, 48, ptr3 a), (gb, 31, balC b), (gv, 23, incC y)]) (Plan.of [(0, true), (1, true), (2, true), (3, true), (4, true), (5, true), (6, true), (7, false), (8, true), (9, true), (10, true), (11, true), (12, true), (13, true), (14, true), (15, true), (16, true), (17, true), (18, true)] .done) (by kernel_rfl) (by kernel_rfl) (by kernel_rfl) (by kernel_rfl) hE.drew ?_
                    replace hE := hE.drew
                    replace hT := hT.drew
                    generalize wg.drew = wh at *
                    iterate 4
                      first
                        | (refine plan_pass _ rfl (by rfl) ?_)
                        | (refine plan_take _ _ rfl (.inl ⟨by rfl, fun W hS => by clear hS; go_simp; try with_reducible rfl⟩) ?_)
                      try simp only [Act.put, List.setIfInBounds_toArray, List.set_cons_zero, List.set_cons_succ]
                    refine plan_take _ (.pointer (some ⟨a j, 0, none⟩)) rfl (.inl ⟨by rfl, fun V hV => by have z := ptr3_at (hV.get 2 rfl) j hj3; clear hV; go_simp; try with_reducible rfl⟩) ?_
                    try simp only [Act.put, List.setIfInBounds_toArray, List.set_cons_zero, List.set_cons_succ]
                    refine plan_take _ _ rfl (yields_bal b (by rfl) _ rfl gb rfl (fun _ h => h.get 3 rfl)) ?_
                    try simp only [Act.put, List.setIfInBounds_toArray, List.set_cons_zero, List.set_cons_succ]
                    refine plan_take _ _ rfl (yields_inc y (by rfl) _ rfl gv rfl (fun _ h => h.get 4 rfl)) ?_
                    try simp only [Act.put, List.setIfInBounds_toArray, List.set_cons_zero, List.set_cons_succ]
                    refine plan_run _ rfl (fun K hK => ?_)
                    go_simp
                    refine (hc _ (hT.ac j hj3)).mono ?_
                    rintro en wi ⟨rfl, hAm, hq⟩
                    replace hT := hT.putA hsp hj3 hAm hbok hq
                    replace hE := hE.but hq (hsp.al j hj3) (hAa3 j hj3)
                    refine hK.out _ _ hE ?_
                    clear hK K hq hAm
                    try simp only [Act.put, List.setIfInBounds_toArray, List.set_cons_zero, List.set_cons_succ]
                    refine plan_take _ (.bool true) rfl (.inl ⟨by rfl, fun V hV => by clear hV; go_simp; try rfl⟩) ?_
                    try simp only [Act.put, List.setIfInBounds_toArray, List.set_cons_zero, List.set_cons_succ]
                    iterate 6
                      first
                        | (refine plan_pass _ rfl (by rfl) ?_)
                        | (refine plan_take _ _ rfl (.inl ⟨by rfl, fun W hS => by clear hS; go_simp; try with_reducible rfl⟩) ?_)
                      try simp only [Act.put, List.setIfInBounds_toArray, List.set_cons_zero, List.set_cons_succ]
                    iterate 1
                      first
                        | (refine plan_pass _ rfl (by rfl) ?_)
                        | (refine plan_take _ _ rfl (.inl ⟨by rfl, fun W hS => by have z := hzw.out _ hS.below; go_simp; try with_reducible rfl⟩) ?_)
                      try simp only [Act.put, List.setIfInBounds_toArray, List.set_cons_zero, List.set_cons_succ]
                    refine plan_take _ (.int .u8 ((T8 : Nat) : Int)) rfl (yields_valA _ (by rfl) (run_rem_u8 _ _ _ _ rfl t.what 8 T8 rfl rfl ht.what (by decide) h8.out)) ?_
                    try simp only [Act.put, List.setIfInBounds_toArray, List.set_cons_zero, List.set_cons_succ]
                    refine plan_take _ (.bool false) rfl (.inl ⟨by rfl, fun V hV => by clear hV; go_simp; try omega⟩) ?_
                    try simp only [Act.put, List.setIfInBounds_toArray, List.set_cons_zero, List.set_cons_succ]
                    iterate 1
                      first
                        | (refine plan_pass _ rfl (by rfl) ?_)
                        | (refine plan_take _ _ rfl (.inl ⟨by rfl, fun W hS => by clear hS; go_simp; try with_reducible rfl⟩) ?_)
                      try simp only [Act.put, List.setIfInBounds_toArray, List.set_cons_zero, List.set_cons_succ]
                    refine plan_done ?_
                    replace hG := hg1.more
                    have hE9 : Env w _ [(w.heap.size, 44, inc9 (X 0) (X 1) (X 2)), (gp, 46, ptr3 p), (gp + 1, 48, ptr3 a)] := (((Env.start hE.below).add (hE.get 0 rfl)).add (hE.get 1 rfl)).add (hE.get 2 rfl)
                    clear hE
                    obtain ⟨D, hDo, hD3⟩ := hG.same3 hXo
                    have gA := hE9.get 0 rfl
                    have gP := hE9.get 1 rfl
                    go_wp2_with ((with_reducible refine at_loa ?_); first
                      | (refine wpList_load_has (by rfl) 46 _ rfl gp rfl 46 (ptr3 p) _ Try.underlying46 rfl (ptr3_size p) ?hg ?_; (case hg => exact gP); (try simp only [Act.put, List.setIfInBounds_toArray, List.set_cons_zero, List.set_cons_succ]))
                      | (refine wpList_load_has (by rfl) 44 _ rfl w.heap.size rfl 44 (inc9 (X 0) (X 1) (X 2)) _ Try.underlying44 rfl (inc9_size _ _ _) ?hg ?_; (case hg => exact gA); (try simp only [Act.put, List.setIfInBounds_toArray, List.set_cons_zero, List.set_cons_succ])))
                    refine (agree_any p _ D (X 0) (X 1) (X 2) _ hT.pr hD3 hDo (hXo 0 (by decide)) (hXo 1 (by decide)) (hXo 2 (by decide))).mono ?_
                    rintro e wz ⟨rfl, hq⟩
                    replace hT := hT.later hq
                    replace hE9 := hE9.later hq
                    clear hq gA gP hD3 hDo
                    go_wp2
                    go_roundw
                    case rel => exact ⟨n + 1, _, by omega, by go_num, hT, hG, hE9⟩
                    case measure => simp [intOf]; omega
                · have hE0I : ¬ ((E : Nat) : Int) = 0 := by omega
                  have hE0b : (((E : Nat) : Int) == 0) = false := beq_eq_false_iff_ne.2 hE0I
                  refine wp_region_plan (fun V => Env w V [(w.heap.size, 44, inc9 (X 0) (X 1) (X 2)), (gp, 46, ptr3 p), (gp + 1, 48, ptr3 a), (gb, 31, balC b), (gv, 23, incC y)]) (Plan.of [(0, true), (1, true), (2, true), (3, true), (4, true), (5, true), (6, true), (7, false), (8, true), (9, true), (10, true), (11, true), (12, true), (13, true), (14, true), (15, true), (16, true), (17, true), (18, true)] .done) (by kernel_rfl) (by kernel_rfl) (by kernel_rfl) (by kernel_rfl) hE.drew ?_
                  replace hE := hE.drew
                  replace hT := hT.drew
                  generalize wg.drew = wh at *
                  iterate 4
                    first
                      | (refine plan_pass _ rfl (by rfl) ?_)
                      | (refine plan_take _ _ rfl (.inl ⟨by rfl, fun W hS => by clear hS; go_simp; try with_reducible rfl⟩) ?_)
                    try simp only [Act.put, List.setIfInBounds_toArray, List.set_cons_zero, List.set_cons_succ]
                  refine plan_take _ (.pointer (some ⟨a j, 0, none⟩)) rfl (.inl ⟨by rfl, fun V hV => by have z := ptr3_at (hV.get 2 rfl) j hj3; clear hV; go_simp; try with_reducible rfl⟩) ?_
                  try simp only [Act.put, List.setIfInBounds_toArray, List.set_cons_zero, List.set_cons_succ]
                  refine plan_take _ _ rfl (yields_bal b (by rfl) _ rfl gb rfl (fun _ h => h.get 3 rfl)) ?_
                  try simp only [Act.put, List.setIfInBounds_toArray, List.set_cons_zero, List.set_cons_succ]
                  refine plan_take _ _ rfl (yields_inc y (by rfl) _ rfl gv rfl (fun _ h => h.get 4 rfl)) ?_
                  try simp only [Act.put, List.setIfInBounds_toArray, List.set_cons_zero, List.set_cons_succ]
                  refine plan_run _ rfl (fun K hK => ?_)
                  go_simp
                  refine (hc _ (hT.ac j hj3)).mono ?_
                  rintro en wi ⟨rfl, hAm, hq⟩
                  replace hT := hT.putA hsp hj3 hAm hbok hq
                  replace hE := hE.but hq (hsp.al j hj3) (hAa3 j hj3)
                  refine hK.out _ _ hE ?_
                  clear hK K hq hAm
                  try simp only [Act.put, List.setIfInBounds_toArray, List.set_cons_zero, List.set_cons_succ]
                  refine plan_take _ (.bool false) rfl (.inl ⟨by rfl, fun V hV => by clear hV; go_simp; try rfl⟩) ?_
                  try simp only [Act.put, List.setIfInBounds_toArray, List.set_cons_zero, List.set_cons_succ]
                  iterate 10
                    first
                      | (refine plan_pass _ rfl (by rfl) ?_)
                      | (refine plan_take _ _ rfl (.inl ⟨by rfl, fun W hS => by clear hS; go_simp; try with_reducible rfl⟩) ?_)
                    try simp only [Act.put, List.setIfInBounds_toArray, List.set_cons_zero, List.set_cons_succ]
                  refine plan_done ?_
                  replace hG := hg1.more
                  have hE9 : Env w _ [(w.heap.size, 44, inc9 (X 0) (X 1) (X 2)), (gp, 46, ptr3 p), (gp + 1, 48, ptr3 a)] := (((Env.start hE.below).add (hE.get 0 rfl)).add (hE.get 1 rfl)).add (hE.get 2 rfl)
                  clear hE
                  obtain ⟨D, hDo, hD3⟩ := hG.same3 hXo
                  have gA := hE9.get 0 rfl
                  have gP := hE9.get 1 rfl
                  go_wp2_with ((with_reducible refine at_loa ?_); first
                    | (refine wpList_load_has (by rfl) 46 _ rfl gp rfl 46 (ptr3 p) _ Try.underlying46 rfl (ptr3_size p) ?hg ?_; (case hg => exact gP); (try simp only [Act.put, List.setIfInBounds_toArray, List.set_cons_zero, List.set_cons_succ]))
                    | (refine wpList_load_has (by rfl) 44 _ rfl w.heap.size rfl 44 (inc9 (X 0) (X 1) (X 2)) _ Try.underlying44 rfl (inc9_size _ _ _) ?hg ?_; (case hg => exact gA); (try simp only [Act.put, List.setIfInBounds_toArray, List.set_cons_zero, List.set_cons_succ])))
                  refine (agree_any p _ D (X 0) (X 1) (X 2) _ hT.pr hD3 hDo (hXo 0 (by decide)) (hXo 1 (by decide)) (hXo 2 (by decide))).mono ?_
                  rintro e wz ⟨rfl, hq⟩
                  replace hT := hT.later hq
                  replace hE9 := hE9.later hq
                  clear hq gA gP hD3 hDo
                  go_wp2
                  go_roundw
                  case rel => exact ⟨n + 1, _, by omega, by go_num, hT, hG, hE9⟩
                  case measure => simp [intOf]; omega
            · have h80 : ¬ ((T8 : Nat) : Int) = 0 := by omega
              have h80b : (((T8 : Nat) : Int) == 0) = false := beq_eq_false_iff_ne.2 h80
              have h21 : (((T2 : Nat) : Int) == 1) = true := beq_iff_eq.2 (by omega)
              replace hT21 : Hid _ := hT21
              go_wp2_with (first
                | ((with_reducible refine at_all ?_); (refine alloc_bal (by rfl) rfl ?_; (try simp only [Act.put, List.setIfInBounds_toArray, List.set_cons_zero, List.set_cons_succ])))
                | ((with_reducible refine at_sto ?_); (refine store_bal b bal0 (by rfl) _ _ rfl wc.heap.size rfl rfl ?hg ?_; (case hg => exact Has.new _ _ _); rw [hwd]; (try simp only [Act.put, List.setIfInBounds_toArray, List.set_cons_zero, List.set_cons_succ])))
                | ((with_reducible refine at_g0 ?_); ((with_reducible refine at_bin ?_); first
                  | (refine wpList_val (.int .u8 ((T8 : Nat) : Int)) (by rfl) (run_rem_u8 _ _ _ _ rfl t.what 8 T8 rfl rfl ht.what (by decide) h8.out) ?_; (try simp only [Act.put, List.setIfInBounds_toArray, List.set_cons_zero, List.set_cons_succ]))
                  | (refine wpList_val (.int .u8 ((T2 : Nat) : Int)) (by rfl) (run_rem_u8 _ _ _ _ rfl t.what 2 T2 rfl rfl ht.what (by decide) h2.out) ?_; (try simp only [Act.put, List.setIfInBounds_toArray, List.set_cons_zero, List.set_cons_succ])))))
              clear hwd
              generalize wc.heap.size = gb at *
              have hc := fun W (h : Has W (a j) 77 (accC (s.ac j))) => prepare_any (a j) (s.ac j) b W h (hT.ok j hj3) hbo
              have hbok := prepM_ok (b := b) (hT.ok j hj3) hbo
              obtain ⟨TB, hTB⟩ : ∃ q, tellB (s.ac j) b = q := ⟨_, rfl⟩
              obtain ⟨TX, hTX⟩ : ∃ q, tellX (s.ac j) b = q := ⟨_, rfl⟩
              obtain ⟨TH, hTH⟩ : ∃ q, tellH (s.ac j) b = q := ⟨_, rfl⟩
              obtain ⟨E, hEe⟩ : ∃ q, errP (s.ac j).pro b = q := ⟨_, rfl⟩
              have hTBo : BalOk TB := by rw [← hTB]; exact tellB_ok (hT.ok j hj3)
              have hTXo : IncOk TX := by rw [← hTX]; exact tellX_ok (hT.ok j hj3)
              simp only [hTB, hTX, hTH, hEe] at hc
              obtain ⟨AM, hAM⟩ : ∃ q, prepM (s.ac j) b = q := ⟨_, rfl⟩
              simp only [hAM] at hc
              rw [hAM] at hbok
              have hlowp : ∀ i, i < 3 → p i < wd.heap.size := fun i hi => (hT.pr i hi).lt
              have hlowa : ∀ i, i < 3 → a i < wd.heap.size := fun i hi => (hT.ac i hi).lt
              let F8 : Act → Act → World → Prop := fun act act' w' => ∃ (gd ge : Nat), act' = ((((((((((((((act.put (some 129) (.int .i64 (j : Nat))).put (some 130) (.pointer (some ⟨gp + 1, j, none⟩))).put (some 131) (.pointer (some ⟨a j, 0, none⟩))).put (some 132) (.agg (balC b))).put (some 133) (.tuple #[.agg (balC TB), .agg (incC TX), .bool TH, .int .i64 (E : Nat)])).put (some 128) (.tuple #[.agg (balC TB), .agg (incC TX), .bool TH, .int .i64 (E : Nat)])).put (some 134) (.agg (balC TB))).put (some 135) (.agg (incC TX))).put (some 136) (.bool TH)).put (some 137) (.int .i64 (E : Nat))).put (some 12) (.pointer (some ⟨gd, 0, none⟩))).put (some 13) (.pointer (some ⟨ge, 0, none⟩))).put (some 14) (.bool TH)).put (some 15) (.int .i64 (E : Nat))) ∧ SysAt w' p a (s.putA j AM) ∧ Env w w' [(w.heap.size, 44, inc9 (X 0) (X 1) (X 2)), (gp, 46, ptr3 p), (gp + 1, 48, ptr3 a), (gb, 31, balC b), (gd, 31, balC TB), (ge, 23, incC TX)] ∧ (∀ i, i < 3 → p i ≠ gd ∧ p i ≠ ge)
              have hS := hE.drew
              replace hT := hT.drew
              replace hTB : Hid _ := hTB
              replace hTX : Hid _ := hTX
              replace hTH : Hid _ := hTH
              replace hEe : Hid _ := hEe
              replace hAM : Hid _ := hAM
              have hgdp := hAp1
              refine wp_region_any_mid (fun W => Env w W [(w.heap.size, 44, inc9 (X 0) (X 1) (X 2)), (gp, 46, ptr3 p), (gp + 1, 48, ptr3 a), (gb, 31, balC b)]) 16 (Array.replicate 16 false) F8 (by kernel_rfl) (by kernel_rfl) (by kernel_rfl) ?_ ?_
              · replace hlowp : ∀ i, i < 3 → p i < wd.drew.heap.size := hlowp
                replace hlowa : ∀ i, i < 3 → a i < wd.drew.heap.size := hlowa
                obtain ⟨zq, hzq⟩ : ∃ z, z = wd.drew.heap.size := ⟨_, rfl⟩
                rw [← hzq] at hlowp hlowa
                have hsz : zq ≤ wd.drew.heap.size := by omega
                have hApz : ∀ g, zq ≤ g → ∀ e ∈ [(w.heap.size, 44, inc9 (X 0) (X 1) (X 2)), (gp, 46, ptr3 p), (gp + 1, 48, ptr3 a), (gb, 31, balC b)], e.1 ≠ g := fun g hg => hS.ne (by omega)
                have hwz : w.heap.size ≤ zq := by have := hS.below.size; omega
                clear hzq hE
                generalize wd.drew = wn at *
                refine any_take 0 _ _ rfl (by kernel_rfl) (by kernel_rfl) (by kernel_rfl) hS (.inl ⟨by rfl, fun W hS => by clear hS; go_simp; try with_reducible rfl⟩) ?_
                try simp only [Act.put, List.setIfInBounds_toArray, List.set_cons_zero, List.set_cons_succ]
                refine any_take 1 _ _ rfl (by kernel_rfl) (by kernel_rfl) (by kernel_rfl) hS (.inl ⟨by rfl, fun W hS => by clear hS; go_simp; try with_reducible rfl⟩) ?_
                try simp only [Act.put, List.setIfInBounds_toArray, List.set_cons_zero, List.set_cons_succ]
                refine any_take 2 _ (.pointer (some ⟨a j, 0, none⟩)) rfl (by kernel_rfl) (by kernel_rfl) (by kernel_rfl) hS (.inl ⟨by rfl, fun W hW => by have z := ptr3_at (hW.get 2 rfl) j hj3; clear hW; go_simp; try with_reducible rfl⟩) ?_
                try simp only [Act.put, List.setIfInBounds_toArray, List.set_cons_zero, List.set_cons_succ]
                refine any_take 3 _ _ rfl (by kernel_rfl) (by kernel_rfl) (by kernel_rfl) hS (yields_bal b (by rfl) _ rfl gb rfl (fun _ h => h.get 3 rfl)) ?_
                try simp only [Act.put, List.setIfInBounds_toArray, List.set_cons_zero, List.set_cons_succ]
                refine any_three 4 10 11 (by kernel_rfl) ?_ ?_ ?_
                · refine any_run _ rfl (fun K hK => ?_)
                  go_simp
                  refine (hc _ (hT.ac j hj3)).mono ?_
                  rintro en wm ⟨rfl, hAm, hq⟩
                  try replace hA := hq.has hA (by have := hlowa j hj3; omega)
                  try replace hB := hq.has hB (by have := hlowa j hj3; omega)
                  replace hsz := Nat.le_trans hsz hq.size
                  replace hT := hT.putA hsp hj3 hAm hbok hq
                  replace hS := hS.but hq (hsp.al j hj3) (hAa1 j hj3)
                  refine hK.out _ _ hS ?_
                  clear hK K hq hAm
                  try simp only [Act.put, List.setIfInBounds_toArray, List.set_cons_zero, List.set_cons_succ]
                  obtain ⟨wn, hwn⟩ : ∃ W, W = wm := ⟨_, rfl⟩
                  subst hwn
                  refine any_take 5 _ _ rfl (by kernel_rfl) (by kernel_rfl) (by kernel_rfl) hS (.inl ⟨by rfl, fun W hS => by clear hS; go_simp; try with_reducible rfl⟩) ?_
                  try simp only [Act.put, List.setIfInBounds_toArray, List.set_cons_zero, List.set_cons_succ]
                  refine any_take 6 _ _ rfl (by kernel_rfl) (by kernel_rfl) (by kernel_rfl) hS (.inl ⟨by rfl, fun W hS => by clear hS; go_simp; try with_reducible rfl⟩) ?_
                  try simp only [Act.put, List.setIfInBounds_toArray, List.set_cons_zero, List.set_cons_succ]
                  refine any_take 7 _ _ rfl (by kernel_rfl) (by kernel_rfl) (by kernel_rfl) hS (.inl ⟨by rfl, fun W hS => by clear hS; go_simp; try with_reducible rfl⟩) ?_
                  try simp only [Act.put, List.setIfInBounds_toArray, List.set_cons_zero, List.set_cons_succ]
                  refine any_take 8 _ _ rfl (by kernel_rfl) (by kernel_rfl) (by kernel_rfl) hS (.inl ⟨by rfl, fun W hS => by clear hS; go_simp; try with_reducible rfl⟩) ?_
                  try simp only [Act.put, List.setIfInBounds_toArray, List.set_cons_zero, List.set_cons_succ]
                  refine any_take 9 _ _ rfl (by kernel_rfl) (by kernel_rfl) (by kernel_rfl) hS (.inl ⟨by rfl, fun W hS => by clear hS; go_simp; try with_reducible rfl⟩) ?_
                  try simp only [Act.put, List.setIfInBounds_toArray, List.set_cons_zero, List.set_cons_succ]
                  refine any_two 10 11 (by kernel_rfl) ?_ ?_
                  · try have hne := Nat.ne_of_lt hA.lt
                    try have hne := Nat.ne_of_lt hB.lt
                    refine any_alloc_has _ rfl (by rfl) 31 rfl (balC bal0) bal_zero (hS.alloc _ _) ?_
                    try simp only [Act.put, List.setIfInBounds_toArray, List.set_cons_zero, List.set_cons_succ]
                    obtain ⟨wm, hwm, hNew, hq⟩ := one_var wn 31 (balC bal0)
                    rw [hwm]
                    have hgd : zq ≤ wn.heap.size := hsz
                    try replace hA := hA.later hq
                    try replace hB := hB.later hq
                    replace hsz := Nat.le_trans hsz hq.size
                    replace hT := hT.later hq
                    replace hS := hS.later hq
                    have hA := hNew
                    clear hq hwm hNew
                    generalize wn.heap.size = gd at *
                    obtain ⟨wn, hwn⟩ : ∃ W, W = wm := ⟨_, rfl⟩
                    subst hwn
                    refine any_one 11 (by kernel_rfl) ?_
                    try have hne := Nat.ne_of_lt hA.lt
                    try have hne := Nat.ne_of_lt hB.lt
                    refine any_alloc_has _ rfl (by rfl) 23 rfl (incC inc0) inc_zero (hS.alloc _ _) ?_
                    try simp only [Act.put, List.setIfInBounds_toArray, List.set_cons_zero, List.set_cons_succ]
                    obtain ⟨wm, hwm, hNew, hq⟩ := one_var wn 23 (incC inc0)
                    rw [hwm]
                    have hge : zq ≤ wn.heap.size := hsz
                    try replace hA := hA.later hq
                    try replace hB := hB.later hq
                    replace hsz := Nat.le_trans hsz hq.size
                    replace hT := hT.later hq
                    replace hS := hS.later hq
                    have hB := hNew
                    clear hq hwm hNew
                    generalize wn.heap.size = ge at *
                    obtain ⟨wn, hwn⟩ : ∃ W, W = wm := ⟨_, rfl⟩
                    subst hwn
                    have hne1 : gd ≠ ge := by first | exact hne | exact hne.symm
                    have hA1 := hA.row (balC TB)
                    have hB1 := hB.row_other (k := gd) (fun e => hne1 e.symm) (balC TB)
                    have hA2 := hA1.row_other (k := ge) hne1 (incC TX)
                    have hB2 := hB1.row (incC TX)
                    have hT1 := hT.row_other (g := gd) (fun i hi => by have := hlowp i hi; omega) (fun i hi => by have := hlowa i hi; omega) (balC TB)
                    have hT2 := hT1.row_other (g := ge) (fun i hi => by have := hlowp i hi; omega) (fun i hi => by have := hlowa i hi; omega) (incC TX)
                    have hS1 := hS.row_other gd (by omega) (hApz gd hgd) (balC TB)
                    have hS2 := hS1.row_other ge (by omega) (hApz ge hge) (incC TX)
                    refine any_one 12 (by kernel_rfl) ?_
                    refine any_store_has _ rfl (by rfl) 31 _ _ rfl gd rfl (balC TB) rfl 31 (balC bal0) (bal_size _) rfl (bal_one _) hA hS1 ?_
                    try simp only [Act.put, List.setIfInBounds_toArray, List.set_cons_zero, List.set_cons_succ]
                    refine any_one 13 (by kernel_rfl) ?_
                    refine any_store_has _ rfl (by rfl) 23 _ _ rfl ge rfl (incC TX) rfl 23 (incC inc0) (inc_size _) rfl (inc_one _) hB1 hS2 ?_
                    try simp only [Act.put, List.setIfInBounds_toArray, List.set_cons_zero, List.set_cons_succ]
                    clear hT hT1 hA hB hA1 hB1 hS1
                    replace hS := hS2
                    refine any_take 14 _ _ rfl (by kernel_rfl) (by kernel_rfl) (by kernel_rfl) hS (.inl ⟨by rfl, fun W hS => by clear hS; go_simp; try with_reducible rfl⟩) ?_
                    try simp only [Act.put, List.setIfInBounds_toArray, List.set_cons_zero, List.set_cons_succ]
                    refine any_take 15 _ _ rfl (by kernel_rfl) (by kernel_rfl) (by kernel_rfl) hS (.inl ⟨by rfl, fun W hS => by clear hS; go_simp; try with_reducible rfl⟩) ?_
                    try simp only [Act.put, List.setIfInBounds_toArray, List.set_cons_zero, List.set_cons_succ]
                    refine any_done (by kernel_rfl) ?_
                    refine mid_done ?_
                    exact ⟨gd, ge, by simp only [Act.put, List.setIfInBounds_toArray, List.set_cons_zero, List.set_cons_succ] <;> rfl, hT2, (hS.add hA2).add hB2, fun i hi => ⟨by have := hlowp i hi; omega, by have := hlowp i hi; omega⟩⟩
                  · try have hne := Nat.ne_of_lt hA.lt
                    try have hne := Nat.ne_of_lt hB.lt
                    refine any_alloc_has _ rfl (by rfl) 23 rfl (incC inc0) inc_zero (hS.alloc _ _) ?_
                    try simp only [Act.put, List.setIfInBounds_toArray, List.set_cons_zero, List.set_cons_succ]
                    obtain ⟨wm, hwm, hNew, hq⟩ := one_var wn 23 (incC inc0)
                    rw [hwm]
                    have hge : zq ≤ wn.heap.size := hsz
                    try replace hA := hA.later hq
                    try replace hB := hB.later hq
                    replace hsz := Nat.le_trans hsz hq.size
                    replace hT := hT.later hq
                    replace hS := hS.later hq
                    have hB := hNew
                    clear hq hwm hNew
                    generalize wn.heap.size = ge at *
                    obtain ⟨wn, hwn⟩ : ∃ W, W = wm := ⟨_, rfl⟩
                    subst hwn
                    refine any_one 10 (by kernel_rfl) ?_
                    try have hne := Nat.ne_of_lt hA.lt
                    try have hne := Nat.ne_of_lt hB.lt
                    refine any_alloc_has _ rfl (by rfl) 31 rfl (balC bal0) bal_zero (hS.alloc _ _) ?_
                    try simp only [Act.put, List.setIfInBounds_toArray, List.set_cons_zero, List.set_cons_succ]
                    obtain ⟨wm, hwm, hNew, hq⟩ := one_var wn 31 (balC bal0)
                    rw [hwm]
                    have hgd : zq ≤ wn.heap.size := hsz
                    try replace hA := hA.later hq
                    try replace hB := hB.later hq
                    replace hsz := Nat.le_trans hsz hq.size
                    replace hT := hT.later hq
                    replace hS := hS.later hq
                    have hA := hNew
                    clear hq hwm hNew
                    generalize wn.heap.size = gd at *
                    obtain ⟨wn, hwn⟩ : ∃ W, W = wm := ⟨_, rfl⟩
                    subst hwn
                    have hne1 : gd ≠ ge := by first | exact hne | exact hne.symm
                    have hA1 := hA.row (balC TB)
                    have hB1 := hB.row_other (k := gd) (fun e => hne1 e.symm) (balC TB)
                    have hA2 := hA1.row_other (k := ge) hne1 (incC TX)
                    have hB2 := hB1.row (incC TX)
                    have hT1 := hT.row_other (g := gd) (fun i hi => by have := hlowp i hi; omega) (fun i hi => by have := hlowa i hi; omega) (balC TB)
                    have hT2 := hT1.row_other (g := ge) (fun i hi => by have := hlowp i hi; omega) (fun i hi => by have := hlowa i hi; omega) (incC TX)
                    have hS1 := hS.row_other gd (by omega) (hApz gd hgd) (balC TB)
                    have hS2 := hS1.row_other ge (by omega) (hApz ge hge) (incC TX)
                    refine any_one 12 (by kernel_rfl) ?_
                    refine any_store_has _ rfl (by rfl) 31 _ _ rfl gd rfl (balC TB) rfl 31 (balC bal0) (bal_size _) rfl (bal_one _) hA hS1 ?_
                    try simp only [Act.put, List.setIfInBounds_toArray, List.set_cons_zero, List.set_cons_succ]
                    refine any_one 13 (by kernel_rfl) ?_
                    refine any_store_has _ rfl (by rfl) 23 _ _ rfl ge rfl (incC TX) rfl 23 (incC inc0) (inc_size _) rfl (inc_one _) hB1 hS2 ?_
                    try simp only [Act.put, List.setIfInBounds_toArray, List.set_cons_zero, List.set_cons_succ]
                    clear hT hT1 hA hB hA1 hB1 hS1
                    replace hS := hS2
                    refine any_take 14 _ _ rfl (by kernel_rfl) (by kernel_rfl) (by kernel_rfl) hS (.inl ⟨by rfl, fun W hS => by clear hS; go_simp; try with_reducible rfl⟩) ?_
                    try simp only [Act.put, List.setIfInBounds_toArray, List.set_cons_zero, List.set_cons_succ]
                    refine any_take 15 _ _ rfl (by kernel_rfl) (by kernel_rfl) (by kernel_rfl) hS (.inl ⟨by rfl, fun W hS => by clear hS; go_simp; try with_reducible rfl⟩) ?_
                    try simp only [Act.put, List.setIfInBounds_toArray, List.set_cons_zero, List.set_cons_succ]
                    refine any_done (by kernel_rfl) ?_
                    refine mid_done ?_
                    exact ⟨gd, ge, by simp only [Act.put, List.setIfInBounds_toArray, List.set_cons_zero, List.set_cons_succ] <;> rfl, hT2, (hS.add hA2).add hB2, fun i hi => ⟨by have := hlowp i hi; omega, by have := hlowp i hi; omega⟩⟩
                · try have hne := Nat.ne_of_lt hA.lt
                  try have hne := Nat.ne_of_lt hB.lt
                  refine any_alloc_has _ rfl (by rfl) 31 rfl (balC bal0) bal_zero (hS.alloc _ _) ?_
                  try simp only [Act.put, List.setIfInBounds_toArray, List.set_cons_zero, List.set_cons_succ]
                  obtain ⟨wm, hwm, hNew, hq⟩ := one_var wn 31 (balC bal0)
                  rw [hwm]
                  have hgd : zq ≤ wn.heap.size := hsz
                  try replace hA := hA.later hq
                  try replace hB := hB.later hq
                  replace hsz := Nat.le_trans hsz hq.size
                  replace hT := hT.later hq
                  replace hS := hS.later hq
                  have hA := hNew
                  clear hq hwm hNew
                  generalize wn.heap.size = gd at *
                  obtain ⟨wn, hwn⟩ : ∃ W, W = wm := ⟨_, rfl⟩
                  subst hwn
                  refine any_two 4 11 (by kernel_rfl) ?_ ?_
                  · refine any_run _ rfl (fun K hK => ?_)
                    go_simp
                    refine (hc _ (hT.ac j hj3)).mono ?_
                    rintro en wm ⟨rfl, hAm, hq⟩
                    try replace hA := hq.has hA (by have := hlowa j hj3; omega)
                    try replace hB := hq.has hB (by have := hlowa j hj3; omega)
                    replace hsz := Nat.le_trans hsz hq.size
                    replace hT := hT.putA hsp hj3 hAm hbok hq
                    replace hS := hS.but hq (hsp.al j hj3) (hAa1 j hj3)
                    refine hK.out _ _ hS ?_
                    clear hK K hq hAm
                    try simp only [Act.put, List.setIfInBounds_toArray, List.set_cons_zero, List.set_cons_succ]
                    obtain ⟨wn, hwn⟩ : ∃ W, W = wm := ⟨_, rfl⟩
                    subst hwn
                    refine any_take 5 _ _ rfl (by kernel_rfl) (by kernel_rfl) (by kernel_rfl) hS (.inl ⟨by rfl, fun W hS => by clear hS; go_simp; try with_reducible rfl⟩) ?_
                    try simp only [Act.put, List.setIfInBounds_toArray, List.set_cons_zero, List.set_cons_succ]
                    refine any_take 6 _ _ rfl (by kernel_rfl) (by kernel_rfl) (by kernel_rfl) hS (.inl ⟨by rfl, fun W hS => by clear hS; go_simp; try with_reducible rfl⟩) ?_
                    try simp only [Act.put, List.setIfInBounds_toArray, List.set_cons_zero, List.set_cons_succ]
                    refine any_take 7 _ _ rfl (by kernel_rfl) (by kernel_rfl) (by kernel_rfl) hS (.inl ⟨by rfl, fun W hS => by clear hS; go_simp; try with_reducible rfl⟩) ?_
                    try simp only [Act.put, List.setIfInBounds_toArray, List.set_cons_zero, List.set_cons_succ]
                    refine any_take 8 _ _ rfl (by kernel_rfl) (by kernel_rfl) (by kernel_rfl) hS (.inl ⟨by rfl, fun W hS => by clear hS; go_simp; try with_reducible rfl⟩) ?_
                    try simp only [Act.put, List.setIfInBounds_toArray, List.set_cons_zero, List.set_cons_succ]
                    refine any_take 9 _ _ rfl (by kernel_rfl) (by kernel_rfl) (by kernel_rfl) hS (.inl ⟨by rfl, fun W hS => by clear hS; go_simp; try with_reducible rfl⟩) ?_
                    try simp only [Act.put, List.setIfInBounds_toArray, List.set_cons_zero, List.set_cons_succ]
                    refine any_one 11 (by kernel_rfl) ?_
                    try have hne := Nat.ne_of_lt hA.lt
                    try have hne := Nat.ne_of_lt hB.lt
                    refine any_alloc_has _ rfl (by rfl) 23 rfl (incC inc0) inc_zero (hS.alloc _ _) ?_
                    try simp only [Act.put, List.setIfInBounds_toArray, List.set_cons_zero, List.set_cons_succ]
                    obtain ⟨wm, hwm, hNew, hq⟩ := one_var wn 23 (incC inc0)
                    rw [hwm]
                    have hge : zq ≤ wn.heap.size := hsz
                    try replace hA := hA.later hq
                    try replace hB := hB.later hq
                    replace hsz := Nat.le_trans hsz hq.size
                    replace hT := hT.later hq
                    replace hS := hS.later hq
                    have hB := hNew
                    clear hq hwm hNew
                    generalize wn.heap.size = ge at *
                    obtain ⟨wn, hwn⟩ : ∃ W, W = wm := ⟨_, rfl⟩
                    subst hwn
                    have hne1 : gd ≠ ge := by first | exact hne | exact hne.symm
                    have hA1 := hA.row (balC TB)
                    have hB1 := hB.row_other (k := gd) (fun e => hne1 e.symm) (balC TB)
                    have hA2 := hA1.row_other (k := ge) hne1 (incC TX)
                    have hB2 := hB1.row (incC TX)
                    have hT1 := hT.row_other (g := gd) (fun i hi => by have := hlowp i hi; omega) (fun i hi => by have := hlowa i hi; omega) (balC TB)
                    have hT2 := hT1.row_other (g := ge) (fun i hi => by have := hlowp i hi; omega) (fun i hi => by have := hlowa i hi; omega) (incC TX)
                    have hS1 := hS.row_other gd (by omega) (hApz gd hgd) (balC TB)
                    have hS2 := hS1.row_other ge (by omega) (hApz ge hge) (incC TX)
                    refine any_one 12 (by kernel_rfl) ?_
                    refine any_store_has _ rfl (by rfl) 31 _ _ rfl gd rfl (balC TB) rfl 31 (balC bal0) (bal_size _) rfl (bal_one _) hA hS1 ?_
                    try simp only [Act.put, List.setIfInBounds_toArray, List.set_cons_zero, List.set_cons_succ]
                    refine any_one 13 (by kernel_rfl) ?_
                    refine any_store_has _ rfl (by rfl) 23 _ _ rfl ge rfl (incC TX) rfl 23 (incC inc0) (inc_size _) rfl (inc_one _) hB1 hS2 ?_
                    try simp only [Act.put, List.setIfInBounds_toArray, List.set_cons_zero, List.set_cons_succ]
                    clear hT hT1 hA hB hA1 hB1 hS1
                    replace hS := hS2
                    refine any_take 14 _ _ rfl (by kernel_rfl) (by kernel_rfl) (by kernel_rfl) hS (.inl ⟨by rfl, fun W hS => by clear hS; go_simp; try with_reducible rfl⟩) ?_
                    try simp only [Act.put, List.setIfInBounds_toArray, List.set_cons_zero, List.set_cons_succ]
                    refine any_take 15 _ _ rfl (by kernel_rfl) (by kernel_rfl) (by kernel_rfl) hS (.inl ⟨by rfl, fun W hS => by clear hS; go_simp; try with_reducible rfl⟩) ?_
                    try simp only [Act.put, List.setIfInBounds_toArray, List.set_cons_zero, List.set_cons_succ]
                    refine any_done (by kernel_rfl) ?_
                    refine mid_done ?_
                    exact ⟨gd, ge, by simp only [Act.put, List.setIfInBounds_toArray, List.set_cons_zero, List.set_cons_succ] <;> rfl, hT2, (hS.add hA2).add hB2, fun i hi => ⟨by have := hlowp i hi; omega, by have := hlowp i hi; omega⟩⟩
                  · try have hne := Nat.ne_of_lt hA.lt
                    try have hne := Nat.ne_of_lt hB.lt
                    refine any_alloc_has _ rfl (by rfl) 23 rfl (incC inc0) inc_zero (hS.alloc _ _) ?_
                    try simp only [Act.put, List.setIfInBounds_toArray, List.set_cons_zero, List.set_cons_succ]
                    obtain ⟨wm, hwm, hNew, hq⟩ := one_var wn 23 (incC inc0)
                    rw [hwm]
                    have hge : zq ≤ wn.heap.size := hsz
                    try replace hA := hA.later hq
                    try replace hB := hB.later hq
                    replace hsz := Nat.le_trans hsz hq.size
                    replace hT := hT.later hq
                    replace hS := hS.later hq
                    have hB := hNew
                    clear hq hwm hNew
                    generalize wn.heap.size = ge at *
                    obtain ⟨wn, hwn⟩ : ∃ W, W = wm := ⟨_, rfl⟩
                    subst hwn
                    refine any_one 4 (by kernel_rfl) ?_
                    refine any_run _ rfl (fun K hK => ?_)
                    go_simp
                    refine (hc _ (hT.ac j hj3)).mono ?_
                    rintro en wm ⟨rfl, hAm, hq⟩
                    try replace hA := hq.has hA (by have := hlowa j hj3; omega)
                    try replace hB := hq.has hB (by have := hlowa j hj3; omega)
                    replace hsz := Nat.le_trans hsz hq.size
                    replace hT := hT.putA hsp hj3 hAm hbok hq
                    replace hS := hS.but hq (hsp.al j hj3) (hAa1 j hj3)
                    refine hK.out _ _ hS ?_
                    clear hK K hq hAm
                    try simp only [Act.put, List.setIfInBounds_toArray, List.set_cons_zero, List.set_cons_succ]
                    obtain ⟨wn, hwn⟩ : ∃ W, W = wm := ⟨_, rfl⟩
                    subst hwn
                    refine any_take 5 _ _ rfl (by kernel_rfl) (by kernel_rfl) (by kernel_rfl) hS (.inl ⟨by rfl, fun W hS => by clear hS; go_simp; try with_reducible rfl⟩) ?_
                    try simp only [Act.put, List.setIfInBounds_toArray, List.set_cons_zero, List.set_cons_succ]
                    refine any_take 6 _ _ rfl (by kernel_rfl) (by kernel_rfl) (by kernel_rfl) hS (.inl ⟨by rfl, fun W hS => by clear hS; go_simp; try with_reducible rfl⟩) ?_
                    try simp only [Act.put, List.setIfInBounds_toArray, List.set_cons_zero, List.set_cons_succ]
                    refine any_take 7 _ _ rfl (by kernel_rfl) (by kernel_rfl) (by kernel_rfl) hS (.inl ⟨by rfl, fun W hS => by clear hS; go_simp; try with_reducible rfl⟩) ?_
                    try simp only [Act.put, List.setIfInBounds_toArray, List.set_cons_zero, List.set_cons_succ]
                    refine any_take 8 _ _ rfl (by kernel_rfl) (by kernel_rfl) (by kernel_rfl) hS (.inl ⟨by rfl, fun W hS => by clear hS; go_simp; try with_reducible rfl⟩) ?_
                    try simp only [Act.put, List.setIfInBounds_toArray, List.set_cons_zero, List.set_cons_succ]
                    refine any_take 9 _ _ rfl (by kernel_rfl) (by kernel_rfl) (by kernel_rfl) hS (.inl ⟨by rfl, fun W hS => by clear hS; go_simp; try with_reducible rfl⟩) ?_
                    try simp only [Act.put, List.setIfInBounds_toArray, List.set_cons_zero, List.set_cons_succ]
                    have hne1 : gd ≠ ge := by first | exact hne | exact hne.symm
                    have hA1 := hA.row (balC TB)
                    have hB1 := hB.row_other (k := gd) (fun e => hne1 e.symm) (balC TB)
                    have hA2 := hA1.row_other (k := ge) hne1 (incC TX)
                    have hB2 := hB1.row (incC TX)
                    have hT1 := hT.row_other (g := gd) (fun i hi => by have := hlowp i hi; omega) (fun i hi => by have := hlowa i hi; omega) (balC TB)
                    have hT2 := hT1.row_other (g := ge) (fun i hi => by have := hlowp i hi; omega) (fun i hi => by have := hlowa i hi; omega) (incC TX)
                    have hS1 := hS.row_other gd (by omega) (hApz gd hgd) (balC TB)
                    have hS2 := hS1.row_other ge (by omega) (hApz ge hge) (incC TX)
                    refine any_one 12 (by kernel_rfl) ?_
                    refine any_store_has _ rfl (by rfl) 31 _ _ rfl gd rfl (balC TB) rfl 31 (balC bal0) (bal_size _) rfl (bal_one _) hA hS1 ?_
                    try simp only [Act.put, List.setIfInBounds_toArray, List.set_cons_zero, List.set_cons_succ]
                    refine any_one 13 (by kernel_rfl) ?_
                    refine any_store_has _ rfl (by rfl) 23 _ _ rfl ge rfl (incC TX) rfl 23 (incC inc0) (inc_size _) rfl (inc_one _) hB1 hS2 ?_
                    try simp only [Act.put, List.setIfInBounds_toArray, List.set_cons_zero, List.set_cons_succ]
                    clear hT hT1 hA hB hA1 hB1 hS1
                    replace hS := hS2
                    refine any_take 14 _ _ rfl (by kernel_rfl) (by kernel_rfl) (by kernel_rfl) hS (.inl ⟨by rfl, fun W hS => by clear hS; go_simp; try with_reducible rfl⟩) ?_
                    try simp only [Act.put, List.setIfInBounds_toArray, List.set_cons_zero, List.set_cons_succ]
                    refine any_take 15 _ _ rfl (by kernel_rfl) (by kernel_rfl) (by kernel_rfl) hS (.inl ⟨by rfl, fun W hS => by clear hS; go_simp; try with_reducible rfl⟩) ?_
                    try simp only [Act.put, List.setIfInBounds_toArray, List.set_cons_zero, List.set_cons_succ]
                    refine any_done (by kernel_rfl) ?_
                    refine mid_done ?_
                    exact ⟨gd, ge, by simp only [Act.put, List.setIfInBounds_toArray, List.set_cons_zero, List.set_cons_succ] <;> rfl, hT2, (hS.add hA2).add hB2, fun i hi => ⟨by have := hlowp i hi; omega, by have := hlowp i hi; omega⟩⟩
                · try have hne := Nat.ne_of_lt hA.lt
                  try have hne := Nat.ne_of_lt hB.lt
                  refine any_alloc_has _ rfl (by rfl) 23 rfl (incC inc0) inc_zero (hS.alloc _ _) ?_
                  try simp only [Act.put, List.setIfInBounds_toArray, List.set_cons_zero, List.set_cons_succ]
                  obtain ⟨wm, hwm, hNew, hq⟩ := one_var wn 23 (incC inc0)
                  rw [hwm]
                  have hge : zq ≤ wn.heap.size := hsz
                  try replace hA := hA.later hq
                  try replace hB := hB.later hq
                  replace hsz := Nat.le_trans hsz hq.size
                  replace hT := hT.later hq
                  replace hS := hS.later hq
                  have hB := hNew
                  clear hq hwm hNew
                  generalize wn.heap.size = ge at *
                  obtain ⟨wn, hwn⟩ : ∃ W, W = wm := ⟨_, rfl⟩
                  subst hwn
                  refine any_two 4 10 (by kernel_rfl) ?_ ?_
                  · refine any_run _ rfl (fun K hK => ?_)
                    go_simp
                    refine (hc _ (hT.ac j hj3)).mono ?_
                    rintro en wm ⟨rfl, hAm, hq⟩
                    try replace hA := hq.has hA (by have := hlowa j hj3; omega)
                    try replace hB := hq.has hB (by have := hlowa j hj3; omega)
                    replace hsz := Nat.le_trans hsz hq.size
                    replace hT := hT.putA hsp hj3 hAm hbok hq
                    replace hS := hS.but hq (hsp.al j hj3) (hAa1 j hj3)
                    refine hK.out _ _ hS ?_
                    clear hK K hq hAm
                    try simp only [Act.put, List.setIfInBounds_toArray, List.set_cons_zero, List.set_cons_succ]
                    obtain ⟨wn, hwn⟩ : ∃ W, W = wm := ⟨_, rfl⟩
                    subst hwn
                    refine any_take 5 _ _ rfl (by kernel_rfl) (by kernel_rfl) (by kernel_rfl) hS (.inl ⟨by rfl, fun W hS => by clear hS; go_simp; try with_reducible rfl⟩) ?_
                    try simp only [Act.put, List.setIfInBounds_toArray, List.set_cons_zero, List.set_cons_succ]
                    refine any_take 6 _ _ rfl (by kernel_rfl) (by kernel_rfl) (by kernel_rfl) hS (.inl ⟨by rfl, fun W hS => by clear hS; go_simp; try with_reducible rfl⟩) ?_
                    try simp only [Act.put, List.setIfInBounds_toArray, List.set_cons_zero, List.set_cons_succ]
                    refine any_take 7 _ _ rfl (by kernel_rfl) (by kernel_rfl) (by kernel_rfl) hS (.inl ⟨by rfl, fun W hS => by clear hS; go_simp; try with_reducible rfl⟩) ?_
                    try simp only [Act.put, List.setIfInBounds_toArray, List.set_cons_zero, List.set_cons_succ]
                    refine any_take 8 _ _ rfl (by kernel_rfl) (by kernel_rfl) (by kernel_rfl) hS (.inl ⟨by rfl, fun W hS => by clear hS; go_simp; try with_reducible rfl⟩) ?_
                    try simp only [Act.put, List.setIfInBounds_toArray, List.set_cons_zero, List.set_cons_succ]
                    refine any_take 9 _ _ rfl (by kernel_rfl) (by kernel_rfl) (by kernel_rfl) hS (.inl ⟨by rfl, fun W hS => by clear hS; go_simp; try with_reducible rfl⟩) ?_
                    try simp only [Act.put, List.setIfInBounds_toArray, List.set_cons_zero, List.set_cons_succ]
                    refine any_one 10 (by kernel_rfl) ?_
                    try have hne := Nat.ne_of_lt hA.lt
                    try have hne := Nat.ne_of_lt hB.lt
                    refine any_alloc_has _ rfl (by rfl) 31 rfl (balC bal0) bal_zero (hS.alloc _ _) ?_
                    try simp only [Act.put, List.setIfInBounds_toArray, List.set_cons_zero, List.set_cons_succ]
                    obtain ⟨wm, hwm, hNew, hq⟩ := one_var wn 31 (balC bal0)
                    rw [hwm]
                    have hgd : zq ≤ wn.heap.size := hsz
                    try replace hA := hA.later hq
                    try replace hB := hB.later hq
                    replace hsz := Nat.le_trans hsz hq.size
                    replace hT := hT.later hq
                    replace hS := hS.later hq
                    have hA := hNew
                    clear hq hwm hNew
                    generalize wn.heap.size = gd at *
                    obtain ⟨wn, hwn⟩ : ∃ W, W = wm := ⟨_, rfl⟩
                    subst hwn
                    have hne1 : gd ≠ ge := by first | exact hne | exact hne.symm
                    have hA1 := hA.row (balC TB)
                    have hB1 := hB.row_other (k := gd) (fun e => hne1 e.symm) (balC TB)
                    have hA2 := hA1.row_other (k := ge) hne1 (incC TX)
                    have hB2 := hB1.row (incC TX)
                    have hT1 := hT.row_other (g := gd) (fun i hi => by have := hlowp i hi; omega) (fun i hi => by have := hlowa i hi; omega) (balC TB)
                    have hT2 := hT1.row_other (g := ge) (fun i hi => by have := hlowp i hi; omega) (fun i hi => by have := hlowa i hi; omega) (incC TX)
                    have hS1 := hS.row_other gd (by omega) (hApz gd hgd) (balC TB)
                    have hS2 := hS1.row_other ge (by omega) (hApz ge hge) (incC TX)
                    refine any_one 12 (by kernel_rfl) ?_
                    refine any_store_has _ rfl (by rfl) 31 _ _ rfl gd rfl (balC TB) rfl 31 (balC bal0) (bal_size _) rfl (bal_one _) hA hS1 ?_
                    try simp only [Act.put, List.setIfInBounds_toArray, List.set_cons_zero, List.set_cons_succ]
                    refine any_one 13 (by kernel_rfl) ?_
                    refine any_store_has _ rfl (by rfl) 23 _ _ rfl ge rfl (incC TX) rfl 23 (incC inc0) (inc_size _) rfl (inc_one _) hB1 hS2 ?_
                    try simp only [Act.put, List.setIfInBounds_toArray, List.set_cons_zero, List.set_cons_succ]
                    clear hT hT1 hA hB hA1 hB1 hS1
                    replace hS := hS2
                    refine any_take 14 _ _ rfl (by kernel_rfl) (by kernel_rfl) (by kernel_rfl) hS (.inl ⟨by rfl, fun W hS => by clear hS; go_simp; try with_reducible rfl⟩) ?_
                    try simp only [Act.put, List.setIfInBounds_toArray, List.set_cons_zero, List.set_cons_succ]
                    refine any_take 15 _ _ rfl (by kernel_rfl) (by kernel_rfl) (by kernel_rfl) hS (.inl ⟨by rfl, fun W hS => by clear hS; go_simp; try with_reducible rfl⟩) ?_
                    try simp only [Act.put, List.setIfInBounds_toArray, List.set_cons_zero, List.set_cons_succ]
                    refine any_done (by kernel_rfl) ?_
                    refine mid_done ?_
                    exact ⟨gd, ge, by simp only [Act.put, List.setIfInBounds_toArray, List.set_cons_zero, List.set_cons_succ] <;> rfl, hT2, (hS.add hA2).add hB2, fun i hi => ⟨by have := hlowp i hi; omega, by have := hlowp i hi; omega⟩⟩
                  · try have hne := Nat.ne_of_lt hA.lt
                    try have hne := Nat.ne_of_lt hB.lt
                    refine any_alloc_has _ rfl (by rfl) 31 rfl (balC bal0) bal_zero (hS.alloc _ _) ?_
                    try simp only [Act.put, List.setIfInBounds_toArray, List.set_cons_zero, List.set_cons_succ]
                    obtain ⟨wm, hwm, hNew, hq⟩ := one_var wn 31 (balC bal0)
                    rw [hwm]
                    have hgd : zq ≤ wn.heap.size := hsz
                    try replace hA := hA.later hq
                    try replace hB := hB.later hq
                    replace hsz := Nat.le_trans hsz hq.size
                    replace hT := hT.later hq
                    replace hS := hS.later hq
                    have hA := hNew
                    clear hq hwm hNew
                    generalize wn.heap.size = gd at *
                    obtain ⟨wn, hwn⟩ : ∃ W, W = wm := ⟨_, rfl⟩
                    subst hwn
                    refine any_one 4 (by kernel_rfl) ?_
                    refine any_run _ rfl (fun K hK => ?_)
                    go_simp
                    refine (hc _ (hT.ac j hj3)).mono ?_
                    rintro en wm ⟨rfl, hAm, hq⟩
                    try replace hA := hq.has hA (by have := hlowa j hj3; omega)
                    try replace hB := hq.has hB (by have := hlowa j hj3; omega)
                    replace hsz := Nat.le_trans hsz hq.size
                    replace hT := hT.putA hsp hj3 hAm hbok hq
                    replace hS := hS.but hq (hsp.al j hj3) (hAa1 j hj3)
                    refine hK.out _ _ hS ?_
                    clear hK K hq hAm
                    try simp only [Act.put, List.setIfInBounds_toArray, List.set_cons_zero, List.set_cons_succ]
                    obtain ⟨wn, hwn⟩ : ∃ W, W = wm := ⟨_, rfl⟩
                    subst hwn
                    refine any_take 5 _ _ rfl (by kernel_rfl) (by kernel_rfl) (by kernel_rfl) hS (.inl ⟨by rfl, fun W hS => by clear hS; go_simp; try with_reducible rfl⟩) ?_
                    try simp only [Act.put, List.setIfInBounds_toArray, List.set_cons_zero, List.set_cons_succ]
                    refine any_take 6 _ _ rfl (by kernel_rfl) (by kernel_rfl) (by kernel_rfl) hS (.inl ⟨by rfl, fun W hS => by clear hS; go_simp; try with_reducible rfl⟩) ?_
                    try simp only [Act.put, List.setIfInBounds_toArray, List.set_cons_zero, List.set_cons_succ]
                    refine any_take 7 _ _ rfl (by kernel_rfl) (by kernel_rfl) (by kernel_rfl) hS (.inl ⟨by rfl, fun W hS => by clear hS; go_simp; try with_reducible rfl⟩) ?_
                    try simp only [Act.put, List.setIfInBounds_toArray, List.set_cons_zero, List.set_cons_succ]
                    refine any_take 8 _ _ rfl (by kernel_rfl) (by kernel_rfl) (by kernel_rfl) hS (.inl ⟨by rfl, fun W hS => by clear hS; go_simp; try with_reducible rfl⟩) ?_
                    try simp only [Act.put, List.setIfInBounds_toArray, List.set_cons_zero, List.set_cons_succ]
                    refine any_take 9 _ _ rfl (by kernel_rfl) (by kernel_rfl) (by kernel_rfl) hS (.inl ⟨by rfl, fun W hS => by clear hS; go_simp; try with_reducible rfl⟩) ?_
                    try simp only [Act.put, List.setIfInBounds_toArray, List.set_cons_zero, List.set_cons_succ]
                    have hne1 : gd ≠ ge := by first | exact hne | exact hne.symm
                    have hA1 := hA.row (balC TB)
                    have hB1 := hB.row_other (k := gd) (fun e => hne1 e.symm) (balC TB)
                    have hA2 := hA1.row_other (k := ge) hne1 (incC TX)
                    have hB2 := hB1.row (incC TX)
                    have hT1 := hT.row_other (g := gd) (fun i hi => by have := hlowp i hi; omega) (fun i hi => by have := hlowa i hi; omega) (balC TB)
                    have hT2 := hT1.row_other (g := ge) (fun i hi => by have := hlowp i hi; omega) (fun i hi => by have := hlowa i hi; omega) (incC TX)
                    have hS1 := hS.row_other gd (by omega) (hApz gd hgd) (balC TB)
                    have hS2 := hS1.row_other ge (by omega) (hApz ge hge) (incC TX)
                    refine any_one 12 (by kernel_rfl) ?_
                    refine any_store_has _ rfl (by rfl) 31 _ _ rfl gd rfl (balC TB) rfl 31 (balC bal0) (bal_size _) rfl (bal_one _) hA hS1 ?_
                    try simp only [Act.put, List.setIfInBounds_toArray, List.set_cons_zero, List.set_cons_succ]
                    refine any_one 13 (by kernel_rfl) ?_
                    refine any_store_has _ rfl (by rfl) 23 _ _ rfl ge rfl (incC TX) rfl 23 (incC inc0) (inc_size _) rfl (inc_one _) hB1 hS2 ?_
                    try simp only [Act.put, List.setIfInBounds_toArray, List.set_cons_zero, List.set_cons_succ]
                    clear hT hT1 hA hB hA1 hB1 hS1
                    replace hS := hS2
                    refine any_take 14 _ _ rfl (by kernel_rfl) (by kernel_rfl) (by kernel_rfl) hS (.inl ⟨by rfl, fun W hS => by clear hS; go_simp; try with_reducible rfl⟩) ?_
                    try simp only [Act.put, List.setIfInBounds_toArray, List.set_cons_zero, List.set_cons_succ]
                    refine any_take 15 _ _ rfl (by kernel_rfl) (by kernel_rfl) (by kernel_rfl) hS (.inl ⟨by rfl, fun W hS => by clear hS; go_simp; try with_reducible rfl⟩) ?_
                    try simp only [Act.put, List.setIfInBounds_toArray, List.set_cons_zero, List.set_cons_succ]
                    refine any_done (by kernel_rfl) ?_
                    refine mid_done ?_
                    exact ⟨gd, ge, by simp only [Act.put, List.setIfInBounds_toArray, List.set_cons_zero, List.set_cons_succ] <;> rfl, hT2, (hS.add hA2).add hB2, fun i hi => ⟨by have := hlowp i hi; omega, by have := hlowp i hi; omega⟩⟩
              · clear hT hE hS
                rintro _ wh ⟨gd, ge, rfl, hT, hE, hgg⟩
                try simp only [Act.put, List.setIfInBounds_toArray, List.set_cons_zero, List.set_cons_succ]
                clear F8 hc
                have hAp2 : ∀ i, i < 3 → Apart (p i) [(w.heap.size, 44, inc9 (X 0) (X 1) (X 2)), (gp, 46, ptr3 p), (gp + 1, 48, ptr3 a), (gb, 31, balC b), (gd, 31, balC TB), (ge, 23, incC TX)] := fun i hi => ((hAp1 i hi).add (Ne.symm (hgg i hi).1) 31 (balC TB)).add (Ne.symm (hgg i hi).2) 23 (incC TX)
                have zwh := hzw.out _ hE.below
                by_cases hE0 : E = 0
                · subst hE0
                  by_cases h86 : T8 < 6
                  · have h86I : ((T8 : Nat) : Int) < 6 := by omega
                    go_wp2_with ((with_reducible refine at_gr 2 true ?_); ((with_reducible refine at_bin ?_); first
                        | (refine wpList_val (.int .u8 ((T8 : Nat) : Int)) (by rfl) (run_rem_u8 _ _ _ _ rfl t.what 8 T8 rfl rfl ht.what (by decide) h8.out) ?_; (try simp only [Act.put, List.setIfInBounds_toArray, List.set_cons_zero, List.set_cons_succ]))
                        | (refine wpList_val (.int .u8 ((T2 : Nat) : Int)) (by rfl) (run_rem_u8 _ _ _ _ rfl t.what 2 T2 rfl rfl ht.what (by decide) h2.out) ?_; (try simp only [Act.put, List.setIfInBounds_toArray, List.set_cons_zero, List.set_cons_succ]))))
                    clear zwh
                    obtain ⟨s1, hs1⟩ : ∃ q, s.putA j AM = q := ⟨_, rfl⟩
                    rw [hs1] at hT
                    have hs1k : s1.pr k = s.pr k := by rw [← hs1]; rfl
                    refine wp_region_plan (fun V => Env w V [(w.heap.size, 44, inc9 (X 0) (X 1) (X 2)), (gp, 46, ptr3 p), (gp + 1, 48, ptr3 a), (gb, 31, balC b), (gd, 31, balC TB), (ge, 23, incC TX)]) (Plan.of [(0, true), (1, true), (2, true), (3, true), (4, true), (5, true), (6, true), (7, true), (8, true), (9, false)] .done) (by kernel_rfl) (by kernel_rfl) (by kernel_rfl) (by kernel_rfl) hE.drew ?_
                    replace hE := hE.drew
                    replace hT := hT.drew
                    generalize wh.drew = wi at *
                    iterate 2
                      first
                        | (refine plan_pass _ rfl (by rfl) ?_)
                        | (refine plan_take _ _ rfl (.inl ⟨by rfl, fun W hS => by clear hS; go_simp; try with_reducible rfl⟩) ?_)
                      try simp only [Act.put, List.setIfInBounds_toArray, List.set_cons_zero, List.set_cons_succ]
                    refine plan_take _ (.pointer (some ⟨p k, 0, none⟩)) rfl (.inl ⟨by rfl, fun V hV => by have z := ptr3_at (hV.get 1 rfl) k hk3; clear hV; go_simp; try with_reducible rfl⟩) ?_
                    try simp only [Act.put, List.setIfInBounds_toArray, List.set_cons_zero, List.set_cons_succ]
                    iterate 1
                      first
                        | (refine plan_pass _ rfl (by rfl) ?_)
                        | (refine plan_take _ _ rfl (.inl ⟨by rfl, fun W hS => by clear hS; go_simp; try with_reducible rfl⟩) ?_)
                      try simp only [Act.put, List.setIfInBounds_toArray, List.set_cons_zero, List.set_cons_succ]
                    refine plan_take _ (.int .u8 ((j : Nat) : Int)) rfl (.inl ⟨by rfl, fun V hV => by clear hV; go_simp; try (first | rfl | exact hjw.out)⟩) ?_
                    try simp only [Act.put, List.setIfInBounds_toArray, List.set_cons_zero, List.set_cons_succ]
                    refine plan_take _ _ rfl (yields_bal b (by rfl) _ rfl gb rfl (fun _ h => h.get 3 rfl)) ?_
                    try simp only [Act.put, List.setIfInBounds_toArray, List.set_cons_zero, List.set_cons_succ]
                    refine plan_take _ _ rfl (yields_bal TB (by rfl) _ rfl gd rfl (fun _ h => h.get 4 rfl)) ?_
                    try simp only [Act.put, List.setIfInBounds_toArray, List.set_cons_zero, List.set_cons_succ]
                    refine plan_take _ _ rfl (yields_inc TX (by rfl) _ rfl ge rfl (fun _ h => h.get 5 rfl)) ?_
                    try simp only [Act.put, List.setIfInBounds_toArray, List.set_cons_zero, List.set_cons_succ]
                    iterate 1
                      first
                        | (refine plan_pass _ rfl (by rfl) ?_)
                        | (refine plan_take _ _ rfl (.inl ⟨by rfl, fun W hS => by clear hS; go_simp; try with_reducible rfl⟩) ?_)
                      try simp only [Act.put, List.setIfInBounds_toArray, List.set_cons_zero, List.set_cons_succ]
                    refine plan_run _ rfl (fun K hK => ?_)
                    go_simp
                    refine (ppromise_any (p k) (s1.pr k) j b TB TX TH _ (hT.pr k hk3) (by omega) hbo hTBo hTXo).mono ?_
                    rintro e wj ⟨rfl, hPj, hq⟩
                    replace hT := hT.putP hsp hk3 hPj hq
                    replace hE := hE.but hq (hsp.pl k hk3) (hAp2 k hk3)
                    refine hK.out _ _ hE ?_
                    clear hK K hq hPj
                    try simp only [Act.put, List.setIfInBounds_toArray, List.set_cons_zero, List.set_cons_succ]
                    refine plan_done ?_
                    rw [hs1k, ← hs1, ← hAM.out, ← hTB.out, ← hTX.out, ← hTH.out] at hT
                    replace hG := (hG.prom hk3 hj3 (by rw [← hbe.out] at hEe; exact hEe.out)).more
                    rw [hbe.out] at hG
                    have hE9 : Env w _ [(w.heap.size, 44, inc9 (X 0) (X 1) (X 2)), (gp, 46, ptr3 p), (gp + 1, 48, ptr3 a)] := (((Env.start hE.below).add (hE.get 0 rfl)).add (hE.get 1 rfl)).add (hE.get 2 rfl)
                    clear hE
                    obtain ⟨D, hDo, hD3⟩ := hG.same3 hXo
                    have gA := hE9.get 0 rfl
                    have gP := hE9.get 1 rfl
                    go_wp2_with ((with_reducible refine at_loa ?_); first
                      | (refine wpList_load_has (by rfl) 46 _ rfl gp rfl 46 (ptr3 p) _ Try.underlying46 rfl (ptr3_size p) ?hg ?_; (case hg => exact gP); (try simp only [Act.put, List.setIfInBounds_toArray, List.set_cons_zero, List.set_cons_succ]))
                      | (refine wpList_load_has (by rfl) 44 _ rfl w.heap.size rfl 44 (inc9 (X 0) (X 1) (X 2)) _ Try.underlying44 rfl (inc9_size _ _ _) ?hg ?_; (case hg => exact gA); (try simp only [Act.put, List.setIfInBounds_toArray, List.set_cons_zero, List.set_cons_succ])))
                    refine (agree_any p _ D (X 0) (X 1) (X 2) _ hT.pr hD3 hDo (hXo 0 (by decide)) (hXo 1 (by decide)) (hXo 2 (by decide))).mono ?_
                    rintro e wz ⟨rfl, hq⟩
                    replace hT := hT.later hq
                    replace hE9 := hE9.later hq
                    clear hq gA gP hD3 hDo
                    go_wp2
                    go_roundw
                    case rel => exact ⟨n + 1, _, by omega, by go_num, hT, hG, hE9⟩
                    case measure => simp [intOf]; omega
                  · have h86I : ¬ ((T8 : Nat) : Int) < 6 := by omega
                    have h86J : (6 : Int) ≤ ((T8 : Nat) : Int) := by omega
                    rw [← hAM.out] at hT
                    replace hG := (hG.prep (k := k) hk3 hj3).more
                    rw [hbe.out] at hG
                    have hE9 : Env w _ [(w.heap.size, 44, inc9 (X 0) (X 1) (X 2)), (gp, 46, ptr3 p), (gp + 1, 48, ptr3 a)] := (((Env.start hE.below).add (hE.get 0 rfl)).add (hE.get 1 rfl)).add (hE.get 2 rfl)
                    clear hE
                    obtain ⟨D, hDo, hD3⟩ := hG.same3 hXo
                    have gA := hE9.get 0 rfl
                    have gP := hE9.get 1 rfl
                    go_wp2_with (first
                      | ((with_reducible refine at_gr 2 true ?_); ((with_reducible refine at_bin ?_); first
                        | (refine wpList_val (.int .u8 ((T8 : Nat) : Int)) (by rfl) (run_rem_u8 _ _ _ _ rfl t.what 8 T8 rfl rfl ht.what (by decide) h8.out) ?_; (try simp only [Act.put, List.setIfInBounds_toArray, List.set_cons_zero, List.set_cons_succ]))
                        | (refine wpList_val (.int .u8 ((T2 : Nat) : Int)) (by rfl) (run_rem_u8 _ _ _ _ rfl t.what 2 T2 rfl rfl ht.what (by decide) h2.out) ?_; (try simp only [Act.put, List.setIfInBounds_toArray, List.set_cons_zero, List.set_cons_succ]))))
                      | ((with_reducible refine at_loa ?_); first
                      | (refine wpList_load_has (by rfl) 46 _ rfl gp rfl 46 (ptr3 p) _ Try.underlying46 rfl (ptr3_size p) ?hg ?_; (case hg => exact gP); (try simp only [Act.put, List.setIfInBounds_toArray, List.set_cons_zero, List.set_cons_succ]))
                      | (refine wpList_load_has (by rfl) 44 _ rfl w.heap.size rfl 44 (inc9 (X 0) (X 1) (X 2)) _ Try.underlying44 rfl (inc9_size _ _ _) ?hg ?_; (case hg => exact gA); (try simp only [Act.put, List.setIfInBounds_toArray, List.set_cons_zero, List.set_cons_succ]))))
                    refine (agree_any p _ D (X 0) (X 1) (X 2) _ hT.pr hD3 hDo (hXo 0 (by decide)) (hXo 1 (by decide)) (hXo 2 (by decide))).mono ?_
                    rintro e wz ⟨rfl, hq⟩
                    replace hT := hT.later hq
                    replace hE9 := hE9.later hq
                    clear hq gA gP hD3 hDo
                    go_wp2
                    go_roundw
                    case rel => exact ⟨n + 1, _, by omega, by go_num, hT, hG, hE9⟩
                    case measure => simp [intOf]; omega
                · have hE0I : ¬ ((E : Nat) : Int) = 0 := by omega
                  have hE0b : (((E : Nat) : Int) == 0) = false := beq_eq_false_iff_ne.2 hE0I
                  rw [← hAM.out] at hT
                  replace hG := (hG.prep (k := k) hk3 hj3).more
                  rw [hbe.out] at hG
                  have hE9 : Env w _ [(w.heap.size, 44, inc9 (X 0) (X 1) (X 2)), (gp, 46, ptr3 p), (gp + 1, 48, ptr3 a)] := (((Env.start hE.below).add (hE.get 0 rfl)).add (hE.get 1 rfl)).add (hE.get 2 rfl)
                  clear hE
                  obtain ⟨D, hDo, hD3⟩ := hG.same3 hXo
                  have gA := hE9.get 0 rfl
                  have gP := hE9.get 1 rfl
                  go_wp2_with ((with_reducible refine at_loa ?_); first
                    | (refine wpList_load_has (by rfl) 46 _ rfl gp rfl 46 (ptr3 p) _ Try.underlying46 rfl (ptr3_size p) ?hg ?_; (case hg => exact gP); (try simp only [Act.put, List.setIfInBounds_toArray, List.set_cons_zero, List.set_cons_succ]))
                    | (refine wpList_load_has (by rfl) 44 _ rfl w.heap.size rfl 44 (inc9 (X 0) (X 1) (X 2)) _ Try.underlying44 rfl (inc9_size _ _ _) ?hg ?_; (case hg => exact gA); (try simp only [Act.put, List.setIfInBounds_toArray, List.set_cons_zero, List.set_cons_succ])))
                  refine (agree_any p _ D (X 0) (X 1) (X 2) _ hT.pr hD3 hDo (hXo 0 (by decide)) (hXo 1 (by decide)) (hXo 2 (by decide))).mono ?_
                  rintro e wz ⟨rfl, hq⟩
                  replace hT := hT.later hq
                  replace hE9 := hE9.later hq
                  clear hq gA gP hD3 hDo
                  go_wp2
                  go_roundw
                  case rel => exact ⟨n + 1, _, by omega, by go_num, hT, hG, hE9⟩
                  case measure => simp [intOf]; omega
      · have hnI : ¬ (n : Int) < (l.length : Int) := by omega
        have hnI2 : (l.length : Int) ≤ (n : Int) := by omega
        go_wp2
        go_ret
        exact ⟨rfl, hE.below⟩
  · have hlenI : ¬ (l.length : Int) ≤ 300 := by omega
    have hlenI2 : (300 : Int) < (l.length : Int) := by omega
    go_wp2
    go_ret
    exact ⟨rfl, hb⟩
end Go.Proofs.Ythpmkhbkbpifkaa
