/- MergeRewinds, walked. -/
import Derived.Test.YtphlfepgaghhhaaMergeKnown
import Derived.Test.YtphlfepgaghhhaaMergeState
import Derived.Test.YtphlfepgaghhhaaRewFacts
namespace Go.Proofs.Ytphlfepgaghhhaa
set_option linter.unusedSimpArgs false
set_option linter.unusedVariables false
set_option maxRecDepth 100000
open Go.RowKit

/-- Two new variables that are filled behind one another. -/
theorem two_new (w : World) (t u : TypeId) (z y c d : Array Value) : ∃ w1 w2 w3, (w.alloc (.cells z t)).alloc (.cells y u) = w1 ∧ w1.setRow w.heap.size c = w2 ∧ w2.setRow (w.heap.size + 1) d = w3 ∧ Has w1 w.heap.size t z ∧ Has w2 (w.heap.size + 1) u y ∧ Has w3 w.heap.size t c ∧ Has w3 (w.heap.size + 1) u d ∧ Below w.heap.size w w3 := by
  obtain ⟨w1, hw1, hA, hB, hb⟩ := two_vars w t u z y
  refine ⟨w1, _, _, hw1, rfl, rfl, hA, hB.row_other (by omega) _, (hA.row _).row_other (by omega) _, (hB.row_other (by omega) _).row _, below_setRow (below_setRow hb (Nat.le_refl _) _) (by omega) _⟩

set_option maxHeartbeats 4000000 in
theorem rewinds_walk (ao bo co : Option Addr) (c d f : Nat) (l a b : List OpV) (w : World) (h : Sl w ao c 6 (opR l)) (h' : Sl w bo d 6 (opR a)) (h'' : Sl w co f 6 (opR b)) (hl : ∀ x ∈ l, OpOk x) (ha : ∀ x ∈ a, OpOk x) (hb' : ∀ x ∈ b, OpOk x) :
    Calls Try.prog 7 #[.slice ao l.length c, .slice bo a.length d, .slice co b.length f] w fun e w' => e = .returned (.bool true) ∧ Below w.heap.size w w' := by
  have hle := h.op_len
  have hcap := h.cap
  have hle' := h'.op_len
  have hcap' := h'.cap
  have hle'' := h''.op_len
  have hcap'' := h''.cap
  go_enter Try.func7, Try.ntmps7
  go_wp2_with fail
  refine (known8_any _).mono ?_
  rintro e w1 ⟨rfl, hb⟩
  by_cases h10 : 10 < l.length
  · have hI : (10 : Int) < (l.length : Int) := by omega
    go_wp2
    go_ret
    exact ⟨rfl, hb⟩
  have hI : ¬ (10 : Int) < (l.length : Int) := by omega
  by_cases h3 : 3 < a.length
  · have hJ : (3 : Int) < (a.length : Int) := by omega
    go_wp2
    go_ret
    exact ⟨rfl, hb⟩
  have hJ : ¬ (3 : Int) < (a.length : Int) := by omega
  by_cases h4 : 3 < b.length
  · have hK : (3 : Int) < (b.length : Int) := by omega
    go_wp2
    go_ret
    exact ⟨rfl, hb⟩
  have hK : ¬ (3 : Int) < (b.length : Int) := by omega
  have hst1 := fun W (hW : Below w.heap.size w W) => state_any ao bo c d 5 0 1 l a W (h.later hW) (h'.later hW) hl ha (by omega) (by omega) (by decide) (by decide) (by decide)
  have hst2 := fun W (hW : Below w.heap.size w W) => state_any ao co c f 6 0 9 l b W (h.later hW) (h''.later hW) hl hb' (by omega) (by omega) (by decide) (by decide) (by decide)
  have hst3 := fun W (hW : Below w.heap.size w W) => state_any ao none c 0 0 0 1 l [] W (h.later hW) (Sl.nothing _ _) hl (fun x hx => by cases hx) (by omega) (by decide) (by decide) (by decide) (by decide)
  have hRw := rewound hl ha hb' (by omega) (by omega) (by omega)
  have hhd : Hid ((headM (stM l [] 0 0 1)).2 = (l.filter writesM).length) := by
    show _ = _
    rw [head_yes (stM_is hl (fun x hx => by cases hx) (by omega) (by decide))]
    show (headE _).n = _
    rw [head_num (stM_is hl (fun x hx => by cases hx) (by omega) (by decide)), stM_num hl (fun x hx => by cases hx) (by omega) (by decide), entA_nil, ents_len]
  have hBo : StOk (stM l [] 0 0 1) := stM_ok hl (fun x hx => by cases hx) (by omega) (by decide)
  have hnl : (l.filter writesM).length ≤ 10 := Nat.le_trans (filter_len _) (by omega)
  generalize (l.filter writesM).length = n at *
  generalize stM l a 5 0 1 = S at *
  generalize stM l b 6 0 9 = T at *
  generalize stM l [] 0 0 1 = B at *
  go_wp2_with fail
  refine (hst1 _ hb).mono ?_
  rintro en w2 ⟨ro, rc, rfl, hG⟩
  have hS8 := hG.sl
  replace hb := hb.trans (hG.below.mono hb.size)
  clear hG hst1
  go_wp2_with fail
  refine (hst2 _ hb).mono ?_
  rintro en w3 ⟨so, sc, rfl, hG⟩
  have hT8 := hG.sl
  replace hS8 := hS8.later hG.below
  replace hb := hb.trans (hG.below.mono hb.size)
  clear hG hst2
  obtain ⟨w4, w5, w6, hw4, hw5, hw6, hA0, hB0, hX, hY, hq⟩ := two_new w3 40 40 (stC st0 none 0) (stC st0 none 0) (stC S ro rc) (stC T so sc)
  replace hS8 := hS8.later hq
  replace hT8 := hT8.later hq
  replace hb := hb.trans (hq.mono hb.size)
  clear hq
  go_wp2_with (first
    | (refine wpList_alloc_has (by rfl) 40 rfl (stC st0 none 0) st_zero ?_; try rw [alloc_size]; try rw [hw4])
    | (refine wpList_store_to (by rfl) 40 _ _ rfl (w3.heap.size) rfl (stC S ro rc) rfl 40 (stC st0 none 0) (st_size _ _ _) (st_same _ _ _ _ _ _) (st_one _ _ _) ?hg w5 ?hW ?_; (case hg => exact hA0); (case hW => exact hw5))
    | (refine wpList_store_to (by rfl) 40 _ _ rfl (w3.heap.size + 1) rfl (stC T so sc) rfl 40 (stC st0 none 0) (st_size _ _ _) (st_same _ _ _ _ _ _) (st_one _ _ _) ?hg w6 ?hW ?_; (case hg => exact hB0); (case hW => exact hw6))
    | fail)
  clear hw4 hw5 hw6 hA0 hB0
  refine (hst3 _ hb).mono ?_
  rintro en w7 ⟨uo, uc, rfl, hG⟩
  have hB8 := hG.sl
  replace hS8 := hS8.later hG.below
  replace hT8 := hT8.later hG.below
  replace hX := hX.later hG.below
  replace hY := hY.later hG.below
  replace hb := hb.trans (hG.below.mono hb.size)
  clear hG hst3
  generalize w3.heap.size = gs at *
  obtain ⟨w8, hw8, hZ, hq⟩ := new_var w7 40 (stC st0 none 0) (stC B uo uc)
  replace hS8 := hS8.later hq
  replace hT8 := hT8.later hq
  replace hB8 := hB8.later hq
  replace hX := hX.later hq
  replace hY := hY.later hq
  replace hb := hb.trans (hq.mono hb.size)
  clear hq
  go_wp2_with (first
    | (refine wpList_alloc_has (by rfl) 40 rfl (stC st0 none 0) st_zero ?_)
    | (refine wpList_store_to (by rfl) 40 _ _ rfl w7.heap.size rfl (stC B uo uc) rfl 40 (stC st0 none 0) (st_size _ _ _) (st_same _ _ _ _ _ _) (st_one _ _ _) ?hg w8 ?hW ?_; (case hg => exact Has.new _ _ _); (case hW => exact hw8); clear hw8; generalize w7.heap.size = gb at *)
    | (refine wpList_load_has (by rfl) 40 _ rfl (gb) rfl 40 (stC B uo uc) _ Try.underlying40 rfl (st_size _ _ _) ?hg ?_; (case hg => exact hZ))
    | fail)
  refine (head_any B uo uc _ hBo hB8).mono ?_
  rintro en w9 ⟨rfl, hq⟩
  rw [hhd.out]
  replace hS8 := hS8.later hq
  replace hT8 := hT8.later hq
  replace hX := hX.later hq
  replace hY := hY.later hq
  replace hb := hb.trans (hq.mono hb.size)
  clear hq hB8 hZ hBo hhd
  generalize (headM B).1 = ps at *
  have hSo := hRw.okS
  have hTo := hRw.okT
  have happ : Hid _ := hRw.app
  have hfr : Hid _ := hRw.fr
  have hext : Hid _ := hRw.ext
  clear hRw
  go_wp2_with (first
    | (refine wpList_load_has (by rfl) 40 _ rfl (gs) rfl 40 (stC S ro rc) _ Try.underlying40 rfl (st_size _ _ _) ?hg ?_; (case hg => exact hX))
    | (refine wpList_load_has (by rfl) 40 _ rfl (gs + 1) rfl 40 (stC T so sc) _ Try.underlying40 rfl (st_size _ _ _) ?hg ?_; (case hg => exact hY))
    | fail)
  refine (make_any S T ro so rc sc _ hSo hTo hS8 hT8).mono ?_
  rintro en w10 ⟨lo, lc, wo, wc, rfl, hG⟩
  have hDl := hG.sl
  have hDw := hG.wl
  have hDo := make_fit hSo hTo
  replace hS8 := hS8.later hG.below
  replace hT8 := hT8.later hG.below
  replace hX := hX.later hG.below
  replace hY := hY.later hG.below
  replace hb := hb.trans (hG.below.mono hb.size)
  clear hG
  generalize makeM S T = D at *
  obtain ⟨w11, hw11, hD, hq⟩ := new_var w10 61 (diffC diff0 none 0 none 0) (diffC D lo lc wo wc)
  replace hS8 := hS8.later hq
  replace hT8 := hT8.later hq
  replace hX := hX.later hq
  replace hY := hY.later hq
  replace hDl := hDl.later hq
  replace hDw := hDw.later hq
  replace hb := hb.trans (hq.mono hb.size)
  clear hq
  go_wp2_with (first
    | (refine wpList_alloc_has (by rfl) 61 rfl (diffC diff0 none 0 none 0) diff_zero ?_)
    | (refine wpList_store_to (by rfl) 61 _ _ rfl w10.heap.size rfl (diffC D lo lc wo wc) rfl 61 (diffC diff0 none 0 none 0) (diff_size _ _ _ _ _) (diff_same _ _ _ _ _ _ _ _ _ _) (diff_one _ _ _ _ _) ?hg w11 ?hW ?_; (case hg => exact Has.new _ _ _); (case hW => exact hw11); clear hw11; generalize w10.heap.size = gd at *)
    | (refine wpList_load_has (by rfl) 40 _ rfl (gs) rfl 40 (stC S ro rc) _ Try.underlying40 rfl (st_size _ _ _) ?hg ?_; (case hg => exact hX))
    | (refine wpList_load_has (by rfl) 61 _ rfl (gd) rfl 61 (diffC D lo lc wo wc) _ Try.underlying61 rfl (diff_size _ _ _ _ _) ?hg ?_; (case hg => exact hD))
    | fail)
  refine (apply_any S D ro lo wo rc lc wc _ hSo hDo hS8 hDl hDw).mono ?_
  rintro en w12 ⟨xo, xc, rfl, hG⟩
  rw [happ.out] at hG
  rw [happ.out]
  have hX8 := hG.sl
  replace hS8 := hS8.later hG.below
  replace hT8 := hT8.later hG.below
  replace hX := hX.later hG.below
  replace hY := hY.later hG.below
  replace hD := hD.later hG.below
  replace hb := hb.trans (hG.below.mono hb.size)
  clear hG hDl hDw happ
  obtain ⟨w13, hw13, hV, hq⟩ := new_var w12 40 (stC st0 none 0) (stC T xo xc)
  replace hS8 := hS8.later hq
  replace hT8 := hT8.later hq
  replace hX := hX.later hq
  replace hY := hY.later hq
  replace hD := hD.later hq
  replace hX8 := hX8.later hq
  replace hb := hb.trans (hq.mono hb.size)
  clear hq
  go_wp2_with (first
    | (refine wpList_alloc_has (by rfl) 40 rfl (stC st0 none 0) st_zero ?_)
    | (refine wpList_store_to (by rfl) 40 _ _ rfl w12.heap.size rfl (stC T xo xc) rfl 40 (stC st0 none 0) (st_size _ _ _) (st_same _ _ _ _ _ _) (st_one _ _ _) ?hg w13 ?hW ?_; (case hg => exact Has.new _ _ _); (case hW => exact hw13); clear hw13; generalize w12.heap.size = gv at *)
    | (refine wpList_load_has (by rfl) 40 _ rfl (gv) rfl 40 (stC T xo xc) _ Try.underlying40 rfl (st_size _ _ _) ?hg ?_; (case hg => exact hV))
    | (refine wpList_load_has (by rfl) 40 _ rfl (gs + 1) rfl 40 (stC T so sc) _ Try.underlying40 rfl (st_size _ _ _) ?hg ?_; (case hg => exact hY))
    | fail)
  refine (same_any T T xo so xc sc _ hTo hTo hX8 hT8).mono ?_
  rintro en w14 ⟨rfl, hq⟩
  rw [same_self]
  replace hS8 := hS8.later hq
  replace hT8 := hT8.later hq
  replace hX := hX.later hq
  replace hY := hY.later hq
  replace hD := hD.later hq
  replace hb := hb.trans (hq.mono hb.size)
  clear hq hV hX8
  have hbA : Below w14.heap.size w14 w14.drew := (Below.refl _ _).drew
  go_wp2_with fail
  refine wp_region_plan (fun W => Below w14.heap.size w14 W) (Plan.of [(0, true), (1, true), (2, true), (3, true), (4, true), (5, true), (6, true), (7, true), (8, true), (9, true), (10, true), (12, true), (14, true), (11, false), (13, false), (15, true), (16, true), (17, true), (18, true), (19, true)] .done) (by kernel_rfl) (by kernel_rfl) (by kernel_rfl) (by kernel_rfl) hbA ?_
  iterate 1
    first
      | (refine plan_pass _ rfl (by rfl) ?_)
      | (refine plan_take _ _ rfl (.inl ⟨by rfl, fun W hS => by clear hS; go_simp; try with_reducible rfl⟩) ?_)
    try simp only [Act.put, List.setIfInBounds_toArray, List.set_cons_zero, List.set_cons_succ]
  iterate 1
    first
      | (refine plan_pass _ rfl (by rfl) ?_)
      | (refine plan_take _ _ rfl (.inl ⟨by rfl, fun W hS => by have z0 := (hD.later hS).d_kind; go_simp; try with_reducible rfl⟩) ?_)
    try simp only [Act.put, List.setIfInBounds_toArray, List.set_cons_zero, List.set_cons_succ]
  by_cases hk : D.kind = 1
  · have e1 := hfr.out hk
    have hx2 : Hid _ := hext.out hk
    have kI : (D.kind != 1) = false := by rw [hk]; rfl
    clear hk hfr hext
    refine plan_take _ (.bool false) rfl (.inl ⟨by rfl, fun W hS => by clear hS; go_simp; try with_reducible rfl⟩) ?_
    try simp only [Act.put, List.setIfInBounds_toArray, List.set_cons_zero, List.set_cons_succ]
    iterate 2
      first
        | (refine plan_pass _ rfl (by rfl) ?_)
        | (refine plan_take _ _ rfl (.inl ⟨by rfl, fun W hS => by clear hS; go_simp; try with_reducible rfl⟩) ?_)
      try simp only [Act.put, List.setIfInBounds_toArray, List.set_cons_zero, List.set_cons_succ]
    refine plan_take _ (.int .u32 (n : Int)) rfl (.inl ⟨by rfl, fun W hS => by have z0 := (hD.later hS).d_from; rw [e1] at z0; go_simp; try with_reducible rfl⟩) ?_
    try simp only [Act.put, List.setIfInBounds_toArray, List.set_cons_zero, List.set_cons_succ]
    iterate 1
      first
        | (refine plan_pass _ rfl (by rfl) ?_)
        | (refine plan_take _ _ rfl (.inl ⟨by rfl, fun W hS => by clear hS; go_simp; try with_reducible rfl⟩) ?_)
      try simp only [Act.put, List.setIfInBounds_toArray, List.set_cons_zero, List.set_cons_succ]
    refine plan_take _ (.bool true) rfl (.inl ⟨by rfl, fun W hS => by clear hS; go_simp; try with_reducible rfl⟩) ?_
    try simp only [Act.put, List.setIfInBounds_toArray, List.set_cons_zero, List.set_cons_succ]
    iterate 1
      first
        | (refine plan_pass _ rfl (by rfl) ?_)
        | (refine plan_take _ _ rfl (.inl ⟨by rfl, fun W hS => by clear hS; go_simp; try with_reducible rfl⟩) ?_)
      try simp only [Act.put, List.setIfInBounds_toArray, List.set_cons_zero, List.set_cons_succ]
    refine plan_take _ _ rfl (yields_load_has (by rfl) 40 _ rfl (gs) rfl 40 (stC S ro rc) _ Try.underlying40 rfl (st_size _ _ _) (fun W hW => hX.later hW)) ?_
    try simp only [Act.put, List.setIfInBounds_toArray, List.set_cons_zero, List.set_cons_succ]
    refine plan_take _ _ rfl (yields_load_has (by rfl) 40 _ rfl (gs + 1) rfl 40 (stC T so sc) _ Try.underlying40 rfl (st_size _ _ _) (fun W hW => hY.later hW)) ?_
    try simp only [Act.put, List.setIfInBounds_toArray, List.set_cons_zero, List.set_cons_succ]
    refine plan_take _ _ rfl (yields_load_has (by rfl) 40 _ rfl (gs) rfl 40 (stC S ro rc) _ Try.underlying40 rfl (st_size _ _ _) (fun W hW => hX.later hW)) ?_
    try simp only [Act.put, List.setIfInBounds_toArray, List.set_cons_zero, List.set_cons_succ]
    iterate 1
      first
        | (refine plan_pass _ rfl (by rfl) ?_)
        | (refine plan_take _ _ rfl (.inl ⟨by rfl, fun W hS => by clear hS; go_simp; try with_reducible rfl⟩) ?_)
      try simp only [Act.put, List.setIfInBounds_toArray, List.set_cons_zero, List.set_cons_succ]
    refine plan_run _ rfl (fun K hK => ?_)
    go_simp
    refine (extends_any S T ro so rc sc _ hSo hTo (hS8.later hbA) (hT8.later hbA)).mono ?_
    rintro en w15 ⟨rfl, hq⟩
    rw [hx2.out]
    have hb15 : Below w14.heap.size w14 w15 := hbA.trans (hq.mono hbA.size)
    refine hK.out _ _ hb15 ?_
    clear hK K hq
    try simp only [Act.put, List.setIfInBounds_toArray, List.set_cons_zero, List.set_cons_succ]
    refine plan_run _ rfl (fun K hK => ?_)
    go_simp
    refine (tops_any S ro rc _ hSo (hS8.later hb15)).mono ?_
    rintro en w16 ⟨rfl, hq⟩
    have hb16 : Below w14.heap.size w14 w16 := hb15.trans (hq.mono hb15.size)
    refine hK.out _ _ hb16 ?_
    clear hK K hq
    try simp only [Act.put, List.setIfInBounds_toArray, List.set_cons_zero, List.set_cons_succ]
    generalize (headM S).2 = m at *
    by_cases hmn : m = n
    · have i1 : ((m : Int) == (n : Int)) = true := by rw [hmn]; simp
      have i2 : (m == n) = true := by rw [hmn]; simp
      rw [decide_eq_true hmn]
      clear hmn
      refine plan_take _ (.bool true) rfl (.inl ⟨by rfl, fun W hS => by clear hS; go_simp; try with_reducible rfl⟩) ?_
      try simp only [Act.put, List.setIfInBounds_toArray, List.set_cons_zero, List.set_cons_succ]
      refine plan_take _ (.bool true) rfl (.inl ⟨by rfl, fun W hS => by clear hS; go_simp; try with_reducible rfl⟩) ?_
      try simp only [Act.put, List.setIfInBounds_toArray, List.set_cons_zero, List.set_cons_succ]
      iterate 3
        first
          | (refine plan_pass _ rfl (by rfl) ?_)
          | (refine plan_take _ _ rfl (.inl ⟨by rfl, fun W hS => by clear hS; go_simp; try with_reducible rfl⟩) ?_)
        try simp only [Act.put, List.setIfInBounds_toArray, List.set_cons_zero, List.set_cons_succ]
      refine plan_done ?_
      go_wp2_with fail
      go_ret
      exact ⟨rfl, hb.trans (hb16.mono hb.size)⟩
    · have i1 : ((m : Int) == (n : Int)) = false := by rw [beq_eq_false_iff_ne]; omega
      have i2 : (m == n) = false := by rw [beq_eq_false_iff_ne]; omega
      rw [decide_eq_false hmn]
      clear hmn
      refine plan_take _ (.bool false) rfl (.inl ⟨by rfl, fun W hS => by clear hS; go_simp; try with_reducible rfl⟩) ?_
      try simp only [Act.put, List.setIfInBounds_toArray, List.set_cons_zero, List.set_cons_succ]
      refine plan_take _ (.bool true) rfl (.inl ⟨by rfl, fun W hS => by clear hS; go_simp; try with_reducible rfl⟩) ?_
      try simp only [Act.put, List.setIfInBounds_toArray, List.set_cons_zero, List.set_cons_succ]
      iterate 3
        first
          | (refine plan_pass _ rfl (by rfl) ?_)
          | (refine plan_take _ _ rfl (.inl ⟨by rfl, fun W hS => by clear hS; go_simp; try with_reducible rfl⟩) ?_)
        try simp only [Act.put, List.setIfInBounds_toArray, List.set_cons_zero, List.set_cons_succ]
      refine plan_done ?_
      go_wp2_with fail
      go_ret
      exact ⟨rfl, hb.trans (hb16.mono hb.size)⟩
  · have kI : (D.kind != 1) = true := by rw [bne_iff_ne]; exact hk
    refine plan_take _ (.bool true) rfl (.inl ⟨by rfl, fun W hS => by clear hS; go_simp; try with_reducible rfl⟩) ?_
    try simp only [Act.put, List.setIfInBounds_toArray, List.set_cons_zero, List.set_cons_succ]
    iterate 10
      first
        | (refine plan_pass _ rfl (by rfl) ?_)
        | (refine plan_take _ _ rfl (.inl ⟨by rfl, fun W hS => by clear hS; go_simp; try with_reducible rfl⟩) ?_)
      try simp only [Act.put, List.setIfInBounds_toArray, List.set_cons_zero, List.set_cons_succ]
    refine plan_run _ rfl (fun K hK => ?_)
    go_simp
    refine hK.out _ _ hbA ?_
    clear hK K
    try simp only [Act.put, List.setIfInBounds_toArray, List.set_cons_zero, List.set_cons_succ]
    refine plan_run _ rfl (fun K hK => ?_)
    go_simp
    refine hK.out _ _ hbA ?_
    clear hK K
    try simp only [Act.put, List.setIfInBounds_toArray, List.set_cons_zero, List.set_cons_succ]
    iterate 5
      first
        | (refine plan_pass _ rfl (by rfl) ?_)
        | (refine plan_take _ _ rfl (.inl ⟨by rfl, fun W hS => by clear hS; go_simp; try with_reducible rfl⟩) ?_)
      try simp only [Act.put, List.setIfInBounds_toArray, List.set_cons_zero, List.set_cons_succ]
    refine plan_done ?_
    go_wp2_with fail
    go_ret
    exact ⟨rfl, hb.trans (hbA.mono hb.size)⟩
end Go.Proofs.Ytphlfepgaghhhaa
