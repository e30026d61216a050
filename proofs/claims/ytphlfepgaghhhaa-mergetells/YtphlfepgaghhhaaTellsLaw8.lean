/- MergeTells, walked. -/
import Derived.Test.YtphlfepgaghhhaaRef8High
import Derived.Test.YtphlfepgaghhhaaRef8Apply
import Derived.Test.YtphlfepgaghhhaaOpen8
namespace Go.Proofs.Ytphlfepgaghhhaa
set_option linter.unusedSimpArgs false
set_option linter.unusedVariables false
set_option maxRecDepth 100000
open Go.RowKit

theorem few_len8 {s : StV} {m : Nat} (h : fewM s m = true) : s.log.length ≤ m := by
  unfold fewM at h
  rw [Bool.and_eq_true, decide_eq_true_iff] at h
  exact h.2
theorem apply_two (s : StV) (d : DiffV) : (applyM s d).2 = 0 ∨ (applyM s d).2 = 80 := by
  unfold applyM
  split
  · exact .inl rfl
  · exact .inr rfl

set_option maxHeartbeats 16000000 in
theorem tells8_walk (s t : StV) (x : DiffV) (ao bo lo wo : Option Addr) (c d lc wc : Nat) (w : World) (hs0 : StIn s) (ht0 : StIn t) (hx0 : DiffIn x) (h : Sl w ao c 8 (entR s.log)) (h' : Sl w bo d 8 (entR t.log)) (hl : Sl w lo lc 8 (entR x.log)) (hwl : Sl w wo wc 8 (entR x.whole.log)) :
    Calls Try.prog 4 #[.agg (stC s ao c), .agg (stC t bo d), .agg (diffC x lo lc wo wc)] w fun en w' => en = .returned (.bool true) ∧ Below w.heap.size w w' := by
  obtain ⟨w1, hw1, hX, hY, hD, hb⟩ := three_vars w 40 40 61 (stC s ao c) (stC t bo d) (diffC x lo lc wo wc)
  go_enter Try.func4, Try.ntmps4
  go_wp2_with fail
  refine (known8_any _).mono ?_
  rintro en w2 ⟨rfl, hq⟩
  replace hX := hX.later hq
  replace hY := hY.later hq
  replace hD := hD.later hq
  replace hb := hb.trans (hq.mono hb.size)
  clear hq hw1
  go_wp2_with (first
    | (refine wpList_load_has (by rfl) 40 _ rfl (w.heap.size) rfl 40 (stC s ao c) _ Try.underlying40 rfl (st_size _ _ _) ?hg ?_; (case hg => exact hX))
    | fail)
  refine (few8_any s ao c _ hs0.base (h.later hb)).mono ?_
  rintro en w3 ⟨rfl, hq⟩
  replace hX := hX.later hq
  replace hY := hY.later hq
  replace hD := hD.later hq
  replace hb := hb.trans (hq.mono hb.size)
  clear hq
  cases hf1 : fewM s 12 with
  | false =>
    go_wp2
    go_ret
    exact ⟨rfl, hb⟩
  | true =>
  go_wp2_with (first
    | (refine wpList_load_has (by rfl) 40 _ rfl (w.heap.size + 1) rfl 40 (stC t bo d) _ Try.underlying40 rfl (st_size _ _ _) ?hg ?_; (case hg => exact hY))
    | fail)
  refine (few8_any t bo d _ ht0.base (h'.later hb)).mono ?_
  rintro en w4 ⟨rfl, hq⟩
  replace hX := hX.later hq
  replace hY := hY.later hq
  replace hD := hD.later hq
  replace hb := hb.trans (hq.mono hb.size)
  clear hq
  cases hf2 : fewM t 12 with
  | false =>
    go_wp2
    go_ret
    exact ⟨rfl, hb⟩
  | true =>
  have k3 := hD.d_whole
  go_wp2_with (first
    | (refine wpList_load_mid' (by rfl) 40 _ rfl (w.heap.size + 1 + 1) (3) rfl (stL x.whole wo wc) _ ?hg Try.underlying40 rfl (st_size _ _ _) ?_; (case hg => exact k3))
    | fail)
  clear k3
  refine (few8_any x.whole wo wc _ hx0.whole.base (hwl.later hb)).mono ?_
  rintro en w5 ⟨rfl, hq⟩
  replace hX := hX.later hq
  replace hY := hY.later hq
  replace hD := hD.later hq
  replace hb := hb.trans (hq.mono hb.size)
  clear hq
  cases hf3 : fewM x.whole 12 with
  | false =>
    go_wp2
    go_ret
    exact ⟨rfl, hb⟩
  | true =>
  have k2 := hD.d_log
  by_cases hlen : x.log.length ≤ 12
  · have i1 : ¬ (12 : Int) < (x.log.length : Int) := by omega
    have i2 : decide ((12 : Int) < (x.log.length : Int)) = false := by rw [decide_eq_false_iff_not]; omega
    have q1 := few_len8 hf1
    have q2 := few_len8 hf2
    have q3 := few_len8 hf3
    have hs := hs0.ok (by omega)
    have ht := ht0.ok (by omega)
    have hx : DiffOk x := ⟨hx0.kind1, hx0.kind2, hx0.fr, hx0.log, by omega, hx0.whole.ok (by omega)⟩
    clear hf1 hf2 hf3 q1 q2 q3 hlen hs0 ht0 hx0
    go_wp2_with (first
      | (refine wpList_load_has (by rfl) 40 _ rfl (w.heap.size) rfl 40 (stC s ao c) _ Try.underlying40 rfl (st_size _ _ _) ?hg ?_; (case hg => exact hX))
      | (refine wpList_load_has (by rfl) 40 _ rfl (w.heap.size + 1) rfl 40 (stC t bo d) _ Try.underlying40 rfl (st_size _ _ _) ?hg ?_; (case hg => exact hY))
      | fail)
    clear k2 i1 i2
    refine (make_any s t ao bo c d _ hs ht (h.later hb) (h'.later hb)).mono ?_
    rintro en w6 ⟨mo, mc, vo, vc, rfl, hG⟩
    have hM3 := hG.sl
    have hM4 := hG.wl
    replace hX := hX.later hG.below
    replace hY := hY.later hG.below
    replace hD := hD.later hG.below
    replace hb := hb.trans (hG.below.mono hb.size)
    clear hG
    obtain ⟨wa, hwa, hM1, hq⟩ := new_var w6 61 (diffC diff0 none 0 none 0) (diffC (makeM s t) mo mc vo vc)
    replace hX := hX.later hq
    replace hY := hY.later hq
    replace hD := hD.later hq
    replace hM3 := hM3.later hq
    replace hM4 := hM4.later hq
    replace hb := hb.trans (hq.mono hb.size)
    clear hq
    go_wp2_with (first
      | (refine wpList_alloc_has (by rfl) 61 rfl (diffC diff0 none 0 none 0) diff_zero ?_)
      | (refine wpList_store_to (by rfl) 61 _ _ rfl w6.heap.size rfl (diffC (makeM s t) mo mc vo vc) rfl 61 (diffC diff0 none 0 none 0) (diff_size _ _ _ _ _) (diff_same _ _ _ _ _ _ _ _ _ _) (diff_one _ _ _ _ _) ?hg wa ?hW ?_; (case hg => exact Has.new _ _ _); (case hW => exact hwa); clear hwa; generalize w6.heap.size = g1 at *)
      | (refine wpList_load_has (by rfl) 40 _ rfl (w.heap.size) rfl 40 (stC s ao c) _ Try.underlying40 rfl (st_size _ _ _) ?hg ?_; (case hg => exact hX))
      | (refine wpList_load_has (by rfl) 40 _ rfl (w.heap.size + 1) rfl 40 (stC t bo d) _ Try.underlying40 rfl (st_size _ _ _) ?hg ?_; (case hg => exact hY))
      | fail)
    refine (refmake_any s t ao bo c d _ hs ht (h.later hb) (h'.later hb)).mono ?_
    rintro en w7 ⟨no, nc, uo, uc, rfl, hM5, hM6, hq⟩
    replace hX := hX.later hq
    replace hY := hY.later hq
    replace hD := hD.later hq
    replace hM1 := hM1.later hq
    replace hM3 := hM3.later hq
    replace hM4 := hM4.later hq
    replace hb := hb.trans (hq.mono hb.size)
    clear hq
    have hMo := make_fit hs ht
    generalize makeM s t = M at *
    obtain ⟨wb, hwb, hM2, hq⟩ := new_var w7 61 (diffC diff0 none 0 none 0) (diffC M no nc uo uc)
    replace hX := hX.later hq
    replace hY := hY.later hq
    replace hD := hD.later hq
    replace hM1 := hM1.later hq
    replace hM3 := hM3.later hq
    replace hM4 := hM4.later hq
    replace hM5 := hM5.later hq
    replace hM6 := hM6.later hq
    replace hb := hb.trans (hq.mono hb.size)
    clear hq
    go_wp2_with (first
      | (refine wpList_alloc_has (by rfl) 61 rfl (diffC diff0 none 0 none 0) diff_zero ?_)
      | (refine wpList_store_to (by rfl) 61 _ _ rfl w7.heap.size rfl (diffC M no nc uo uc) rfl 61 (diffC diff0 none 0 none 0) (diff_size _ _ _ _ _) (diff_same _ _ _ _ _ _ _ _ _ _) (diff_one _ _ _ _ _) ?hg wb ?hW ?_; (case hg => exact Has.new _ _ _); (case hW => exact hwb); clear hwb; generalize w7.heap.size = g2 at *)
      | (refine wpList_load_has (by rfl) 40 _ rfl (w.heap.size) rfl 40 (stC s ao c) _ Try.underlying40 rfl (st_size _ _ _) ?hg ?_; (case hg => exact hX))
      | (refine wpList_load_has (by rfl) 61 _ rfl (w.heap.size + 1 + 1) rfl 61 (diffC x lo lc wo wc) _ Try.underlying61 rfl (diff_size _ _ _ _ _) ?hg ?_; (case hg => exact hD))
      | fail)
    refine (apply_any s x ao lo wo c lc wc _ hs hx (h.later hb) (hl.later hb) (hwl.later hb)).mono ?_
    rintro en w8 ⟨ro, rc, rfl, hG⟩
    have hA8 := hG.sl
    replace hX := hX.later hG.below
    replace hY := hY.later hG.below
    replace hD := hD.later hG.below
    replace hM1 := hM1.later hG.below
    replace hM2 := hM2.later hG.below
    replace hM3 := hM3.later hG.below
    replace hM4 := hM4.later hG.below
    replace hM5 := hM5.later hG.below
    replace hM6 := hM6.later hG.below
    replace hb := hb.trans (hG.below.mono hb.size)
    clear hG
    obtain ⟨wf, hwf, hA, hq⟩ := new_var w8 40 (stC st0 none 0) (stC (applyM s x).1 ro rc)
    replace hX := hX.later hq
    replace hY := hY.later hq
    replace hD := hD.later hq
    replace hM1 := hM1.later hq
    replace hM2 := hM2.later hq
    replace hM3 := hM3.later hq
    replace hM4 := hM4.later hq
    replace hM5 := hM5.later hq
    replace hM6 := hM6.later hq
    replace hA8 := hA8.later hq
    replace hb := hb.trans (hq.mono hb.size)
    clear hq
    go_wp2_with (first
      | (refine wpList_alloc_has (by rfl) 40 rfl (stC st0 none 0) st_zero ?_)
      | (refine wpList_store_to (by rfl) 40 _ _ rfl w8.heap.size rfl (stC (applyM s x).1 ro rc) rfl 40 (stC st0 none 0) (st_size _ _ _) (st_same _ _ _ _ _ _) (st_one _ _ _) ?hg wf ?hW ?_; (case hg => exact Has.new _ _ _); (case hW => exact hwf); clear hwf; generalize w8.heap.size = g3 at *)
      | (refine wpList_load_has (by rfl) 40 _ rfl (w.heap.size) rfl 40 (stC s ao c) _ Try.underlying40 rfl (st_size _ _ _) ?hg ?_; (case hg => exact hX))
      | (refine wpList_load_has (by rfl) 61 _ rfl (w.heap.size + 1 + 1) rfl 61 (diffC x lo lc wo wc) _ Try.underlying61 rfl (diff_size _ _ _ _ _) ?hg ?_; (case hg => exact hD))
      | fail)
    refine (refapply_any s x ao lo wo c lc wc _ hs hx (h.later hb) (hl.later hb) (hwl.later hb)).mono ?_
    rintro en w9 ⟨po, pc, rfl, hB8, hq⟩
    replace hX := hX.later hq
    replace hY := hY.later hq
    replace hM1 := hM1.later hq
    replace hM2 := hM2.later hq
    replace hM3 := hM3.later hq
    replace hM4 := hM4.later hq
    replace hM5 := hM5.later hq
    replace hM6 := hM6.later hq
    replace hA := hA.later hq
    replace hA8 := hA8.later hq
    replace hb := hb.trans (hq.mono hb.size)
    clear hq hD
    have hAo := apply_fit hs hx
    have hE := apply_two s x
    generalize (applyM s x).1 = A at *
    generalize (applyM s x).2 = E at *
    obtain ⟨wh, hwh, hB, hq⟩ := new_var w9 40 (stC st0 none 0) (stC A po pc)
    replace hX := hX.later hq
    replace hY := hY.later hq
    replace hM1 := hM1.later hq
    replace hM2 := hM2.later hq
    replace hM3 := hM3.later hq
    replace hM4 := hM4.later hq
    replace hM5 := hM5.later hq
    replace hM6 := hM6.later hq
    replace hA := hA.later hq
    replace hA8 := hA8.later hq
    replace hB8 := hB8.later hq
    replace hb := hb.trans (hq.mono hb.size)
    clear hq
    have h8 := h.later hb
    have h9 := h'.later hb
    rcases hE with rfl | rfl
    · rw [decide_eq_true (show (0 : Nat) = 0 from rfl)]
      go_wp2_with (first
        | (refine wpList_alloc_has (by rfl) 40 rfl (stC st0 none 0) st_zero ?_)
        | (refine wpList_store_to (by rfl) 40 _ _ rfl w9.heap.size rfl (stC A po pc) rfl 40 (stC st0 none 0) (st_size _ _ _) (st_same _ _ _ _ _ _) (st_one _ _ _) ?hg wh ?hW ?_; (case hg => exact Has.new _ _ _); (case hW => exact hwh); clear hwh; generalize w9.heap.size = g4 at *)
        | fail)
      have hbr : Below wh.heap.size wh wh.drew := (Below.refl _ _).drew
      refine wp_region_plan (fun W => Below wh.heap.size wh W) (Plan.of [(0, true), (1, true), (2, false), (3, true), (4, true), (5, true), (6, true), (7, true), (8, true), (9, true), (10, true), (11, true), (12, true), (13, true), (14, true), (15, true), (16, true), (17, true), (18, true), (19, true), (20, false), (21, true), (22, true), (23, true), (24, true), (26, true), (27, true), (25, false), (28, false), (29, true), (30, true), (31, true), (32, true), (34, true), (33, false), (35, false), (36, true), (37, true), (38, true)] .done) (by kernel_rfl) (by kernel_rfl) (by kernel_rfl) (by kernel_rfl) hbr ?_
      refine plan_take _ _ rfl (yields_load_has (by rfl) 61 _ rfl (g1) rfl 61 (diffC M mo mc vo vc) _ Try.underlying61 rfl (diff_size _ _ _ _ _) (fun W hW => hM1.later hW)) ?_
      try simp only [Act.put, List.setIfInBounds_toArray, List.set_cons_zero, List.set_cons_succ]
      refine plan_take _ _ rfl (yields_load_has (by rfl) 61 _ rfl (g2) rfl 61 (diffC M no nc uo uc) _ Try.underlying61 rfl (diff_size _ _ _ _ _) (fun W hW => hM2.later hW)) ?_
      try simp only [Act.put, List.setIfInBounds_toArray, List.set_cons_zero, List.set_cons_succ]
      refine plan_run _ rfl (fun K hK => ?_)
      go_simp
      refine (lawsame_any M mo vo no uo mc vc nc uc _ hMo (hM3.later hbr) (hM4.later hbr) (hM5.later hbr) (hM6.later hbr)).mono ?_
      rintro en wm ⟨rfl, hq⟩
      skip
      replace hbr := hbr.trans (hq.mono hbr.size)
      refine hK.out _ _ hbr ?_
      clear hK K hq
      try simp only [Act.put, List.setIfInBounds_toArray, List.set_cons_zero, List.set_cons_succ]
      iterate 15
        first
          | (refine plan_pass _ rfl (by rfl) ?_)
          | (refine plan_take _ _ rfl (.inl ⟨by rfl, fun W hS => by clear hS; go_simp; try with_reducible rfl⟩) ?_)
        try simp only [Act.put, List.setIfInBounds_toArray, List.set_cons_zero, List.set_cons_succ]
      refine plan_take _ _ rfl (yields_load_has (by rfl) 40 _ rfl (g3) rfl 40 (stC A ro rc) _ Try.underlying40 rfl (st_size _ _ _) (fun W hW => hA.later hW)) ?_
      try simp only [Act.put, List.setIfInBounds_toArray, List.set_cons_zero, List.set_cons_succ]
      refine plan_take _ _ rfl (yields_load_has (by rfl) 40 _ rfl (g4) rfl 40 (stC A po pc) _ Try.underlying40 rfl (st_size _ _ _) (fun W hW => hB.later hW)) ?_
      try simp only [Act.put, List.setIfInBounds_toArray, List.set_cons_zero, List.set_cons_succ]
      refine plan_run _ rfl (fun K hK => ?_)
      go_simp
      refine (refsame_any A A ro po rc pc _ hAo hAo (hA8.later hbr) (hB8.later hbr)).mono ?_
      rintro en wm ⟨rfl, hq⟩
      rw [same_self]
      replace hbr := hbr.trans (hq.mono hbr.size)
      refine hK.out _ _ hbr ?_
      clear hK K hq
      try simp only [Act.put, List.setIfInBounds_toArray, List.set_cons_zero, List.set_cons_succ]
      iterate 2
        first
          | (refine plan_pass _ rfl (by rfl) ?_)
          | (refine plan_take _ _ rfl (.inl ⟨by rfl, fun W hS => by clear hS; go_simp; try with_reducible rfl⟩) ?_)
        try simp only [Act.put, List.setIfInBounds_toArray, List.set_cons_zero, List.set_cons_succ]
      refine plan_take _ _ rfl (yields_load_has (by rfl) 40 _ rfl (w.heap.size) rfl 40 (stC s ao c) _ Try.underlying40 rfl (st_size _ _ _) (fun W hW => hX.later hW)) ?_
      try simp only [Act.put, List.setIfInBounds_toArray, List.set_cons_zero, List.set_cons_succ]
      refine plan_take _ _ rfl (yields_load_has (by rfl) 40 _ rfl (w.heap.size + 1) rfl 40 (stC t bo d) _ Try.underlying40 rfl (st_size _ _ _) (fun W hW => hY.later hW)) ?_
      try simp only [Act.put, List.setIfInBounds_toArray, List.set_cons_zero, List.set_cons_succ]
      refine plan_take _ _ rfl (yields_load_has (by rfl) 40 _ rfl (w.heap.size) rfl 40 (stC s ao c) _ Try.underlying40 rfl (st_size _ _ _) (fun W hW => hX.later hW)) ?_
      try simp only [Act.put, List.setIfInBounds_toArray, List.set_cons_zero, List.set_cons_succ]
      refine plan_take _ _ rfl (yields_load_has (by rfl) 40 _ rfl (w.heap.size + 1) rfl 40 (stC t bo d) _ Try.underlying40 rfl (st_size _ _ _) (fun W hW => hY.later hW)) ?_
      try simp only [Act.put, List.setIfInBounds_toArray, List.set_cons_zero, List.set_cons_succ]
      refine plan_run _ rfl (fun K hK => ?_)
      go_simp
      refine (extends_any s t ao bo c d _ hs ht (h8.later hbr) (h9.later hbr)).mono ?_
      rintro en wm ⟨rfl, hq⟩
      skip
      replace hbr := hbr.trans (hq.mono hbr.size)
      refine hK.out _ _ hbr ?_
      clear hK K hq
      try simp only [Act.put, List.setIfInBounds_toArray, List.set_cons_zero, List.set_cons_succ]
      refine plan_run _ rfl (fun K hK => ?_)
      go_simp
      refine (refextends_any s t ao bo c d _ hs ht (h8.later hbr) (h9.later hbr)).mono ?_
      rintro en wm ⟨rfl, hq⟩
      skip
      replace hbr := hbr.trans (hq.mono hbr.size)
      refine hK.out _ _ hbr ?_
      clear hK K hq
      try simp only [Act.put, List.setIfInBounds_toArray, List.set_cons_zero, List.set_cons_succ]
      generalize extendsM s t = be at *
      iterate 3
        first
          | (refine plan_pass _ rfl (by rfl) ?_)
          | (refine plan_take _ _ rfl (.inl ⟨by rfl, fun W hS => by clear hS; go_simp; try with_reducible rfl⟩) ?_)
        try simp only [Act.put, List.setIfInBounds_toArray, List.set_cons_zero, List.set_cons_succ]
      refine plan_take _ _ rfl (yields_load_has (by rfl) 61 _ rfl (g2) rfl 61 (diffC M no nc uo uc) _ Try.underlying61 rfl (diff_size _ _ _ _ _) (fun W hW => hM2.later hW)) ?_
      try simp only [Act.put, List.setIfInBounds_toArray, List.set_cons_zero, List.set_cons_succ]
      refine plan_take _ _ rfl (yields_load_has (by rfl) 61 _ rfl (g2) rfl 61 (diffC M no nc uo uc) _ Try.underlying61 rfl (diff_size _ _ _ _ _) (fun W hW => hM2.later hW)) ?_
      try simp only [Act.put, List.setIfInBounds_toArray, List.set_cons_zero, List.set_cons_succ]
      refine plan_run _ rfl (fun K hK => ?_)
      go_simp
      refine (bytes_any M no uo nc uc _ hMo).mono ?_
      rintro en wm ⟨rfl, hq⟩
      skip
      replace hbr := hbr.trans (hq.mono hbr.size)
      refine hK.out _ _ hbr ?_
      clear hK K hq
      try simp only [Act.put, List.setIfInBounds_toArray, List.set_cons_zero, List.set_cons_succ]
      refine plan_run _ rfl (fun K hK => ?_)
      go_simp
      refine (refbytes_any M no uo nc uc _ hMo).mono ?_
      rintro en wm ⟨rfl, hq⟩
      skip
      replace hbr := hbr.trans (hq.mono hbr.size)
      refine hK.out _ _ hbr ?_
      clear hK K hq
      try simp only [Act.put, List.setIfInBounds_toArray, List.set_cons_zero, List.set_cons_succ]
      generalize bytesM M = by8 at *
      iterate 3
        first
          | (refine plan_pass _ rfl (by rfl) ?_)
          | (refine plan_take _ _ rfl (.inl ⟨by rfl, fun W hS => by clear hS; go_simp; try with_reducible rfl⟩) ?_)
        try simp only [Act.put, List.setIfInBounds_toArray, List.set_cons_zero, List.set_cons_succ]
      refine plan_done ?_
      replace hb := hb.trans (hbr.mono hb.size)
      clear hbr
      go_wp2
      go_ret
      exact ⟨rfl, hb⟩
    · rw [decide_eq_false (show ¬ (80 : Nat) = 0 by omega)]
      go_wp2_with (first
        | (refine wpList_alloc_has (by rfl) 40 rfl (stC st0 none 0) st_zero ?_)
        | (refine wpList_store_to (by rfl) 40 _ _ rfl w9.heap.size rfl (stC A po pc) rfl 40 (stC st0 none 0) (st_size _ _ _) (st_same _ _ _ _ _ _) (st_one _ _ _) ?hg wh ?hW ?_; (case hg => exact Has.new _ _ _); (case hW => exact hwh); clear hwh; generalize w9.heap.size = g4 at *)
        | fail)
      have hbr : Below wh.heap.size wh wh.drew := (Below.refl _ _).drew
      refine wp_region_plan (fun W => Below wh.heap.size wh W) (Plan.of [(0, true), (1, true), (2, false), (3, true), (4, true), (5, true), (6, true), (7, true), (8, true), (9, true), (10, true), (11, true), (12, true), (13, true), (14, true), (15, true), (16, true), (17, true), (18, true), (19, true), (20, false), (21, true), (22, true), (23, true), (24, true), (26, true), (27, true), (25, false), (28, false), (29, true), (30, true), (31, true), (32, true), (34, true), (33, false), (35, false), (36, true), (37, true), (38, true)] .done) (by kernel_rfl) (by kernel_rfl) (by kernel_rfl) (by kernel_rfl) hbr ?_
      refine plan_take _ _ rfl (yields_load_has (by rfl) 61 _ rfl (g1) rfl 61 (diffC M mo mc vo vc) _ Try.underlying61 rfl (diff_size _ _ _ _ _) (fun W hW => hM1.later hW)) ?_
      try simp only [Act.put, List.setIfInBounds_toArray, List.set_cons_zero, List.set_cons_succ]
      refine plan_take _ _ rfl (yields_load_has (by rfl) 61 _ rfl (g2) rfl 61 (diffC M no nc uo uc) _ Try.underlying61 rfl (diff_size _ _ _ _ _) (fun W hW => hM2.later hW)) ?_
      try simp only [Act.put, List.setIfInBounds_toArray, List.set_cons_zero, List.set_cons_succ]
      refine plan_run _ rfl (fun K hK => ?_)
      go_simp
      refine (lawsame_any M mo vo no uo mc vc nc uc _ hMo (hM3.later hbr) (hM4.later hbr) (hM5.later hbr) (hM6.later hbr)).mono ?_
      rintro en wm ⟨rfl, hq⟩
      skip
      replace hbr := hbr.trans (hq.mono hbr.size)
      refine hK.out _ _ hbr ?_
      clear hK K hq
      try simp only [Act.put, List.setIfInBounds_toArray, List.set_cons_zero, List.set_cons_succ]
      iterate 15
        first
          | (refine plan_pass _ rfl (by rfl) ?_)
          | (refine plan_take _ _ rfl (.inl ⟨by rfl, fun W hS => by clear hS; go_simp; try with_reducible rfl⟩) ?_)
        try simp only [Act.put, List.setIfInBounds_toArray, List.set_cons_zero, List.set_cons_succ]
      refine plan_take _ _ rfl (yields_load_has (by rfl) 40 _ rfl (g3) rfl 40 (stC A ro rc) _ Try.underlying40 rfl (st_size _ _ _) (fun W hW => hA.later hW)) ?_
      try simp only [Act.put, List.setIfInBounds_toArray, List.set_cons_zero, List.set_cons_succ]
      refine plan_take _ _ rfl (yields_load_has (by rfl) 40 _ rfl (g4) rfl 40 (stC A po pc) _ Try.underlying40 rfl (st_size _ _ _) (fun W hW => hB.later hW)) ?_
      try simp only [Act.put, List.setIfInBounds_toArray, List.set_cons_zero, List.set_cons_succ]
      refine plan_run _ rfl (fun K hK => ?_)
      go_simp
      refine (refsame_any A A ro po rc pc _ hAo hAo (hA8.later hbr) (hB8.later hbr)).mono ?_
      rintro en wm ⟨rfl, hq⟩
      rw [same_self]
      replace hbr := hbr.trans (hq.mono hbr.size)
      refine hK.out _ _ hbr ?_
      clear hK K hq
      try simp only [Act.put, List.setIfInBounds_toArray, List.set_cons_zero, List.set_cons_succ]
      iterate 2
        first
          | (refine plan_pass _ rfl (by rfl) ?_)
          | (refine plan_take _ _ rfl (.inl ⟨by rfl, fun W hS => by clear hS; go_simp; try with_reducible rfl⟩) ?_)
        try simp only [Act.put, List.setIfInBounds_toArray, List.set_cons_zero, List.set_cons_succ]
      refine plan_take _ _ rfl (yields_load_has (by rfl) 40 _ rfl (w.heap.size) rfl 40 (stC s ao c) _ Try.underlying40 rfl (st_size _ _ _) (fun W hW => hX.later hW)) ?_
      try simp only [Act.put, List.setIfInBounds_toArray, List.set_cons_zero, List.set_cons_succ]
      refine plan_take _ _ rfl (yields_load_has (by rfl) 40 _ rfl (w.heap.size + 1) rfl 40 (stC t bo d) _ Try.underlying40 rfl (st_size _ _ _) (fun W hW => hY.later hW)) ?_
      try simp only [Act.put, List.setIfInBounds_toArray, List.set_cons_zero, List.set_cons_succ]
      refine plan_take _ _ rfl (yields_load_has (by rfl) 40 _ rfl (w.heap.size) rfl 40 (stC s ao c) _ Try.underlying40 rfl (st_size _ _ _) (fun W hW => hX.later hW)) ?_
      try simp only [Act.put, List.setIfInBounds_toArray, List.set_cons_zero, List.set_cons_succ]
      refine plan_take _ _ rfl (yields_load_has (by rfl) 40 _ rfl (w.heap.size + 1) rfl 40 (stC t bo d) _ Try.underlying40 rfl (st_size _ _ _) (fun W hW => hY.later hW)) ?_
      try simp only [Act.put, List.setIfInBounds_toArray, List.set_cons_zero, List.set_cons_succ]
      refine plan_run _ rfl (fun K hK => ?_)
      go_simp
      refine (extends_any s t ao bo c d _ hs ht (h8.later hbr) (h9.later hbr)).mono ?_
      rintro en wm ⟨rfl, hq⟩
      skip
      replace hbr := hbr.trans (hq.mono hbr.size)
      refine hK.out _ _ hbr ?_
      clear hK K hq
      try simp only [Act.put, List.setIfInBounds_toArray, List.set_cons_zero, List.set_cons_succ]
      refine plan_run _ rfl (fun K hK => ?_)
      go_simp
      refine (refextends_any s t ao bo c d _ hs ht (h8.later hbr) (h9.later hbr)).mono ?_
      rintro en wm ⟨rfl, hq⟩
      skip
      replace hbr := hbr.trans (hq.mono hbr.size)
      refine hK.out _ _ hbr ?_
      clear hK K hq
      try simp only [Act.put, List.setIfInBounds_toArray, List.set_cons_zero, List.set_cons_succ]
      generalize extendsM s t = be at *
      iterate 3
        first
          | (refine plan_pass _ rfl (by rfl) ?_)
          | (refine plan_take _ _ rfl (.inl ⟨by rfl, fun W hS => by clear hS; go_simp; try with_reducible rfl⟩) ?_)
        try simp only [Act.put, List.setIfInBounds_toArray, List.set_cons_zero, List.set_cons_succ]
      refine plan_take _ _ rfl (yields_load_has (by rfl) 61 _ rfl (g2) rfl 61 (diffC M no nc uo uc) _ Try.underlying61 rfl (diff_size _ _ _ _ _) (fun W hW => hM2.later hW)) ?_
      try simp only [Act.put, List.setIfInBounds_toArray, List.set_cons_zero, List.set_cons_succ]
      refine plan_take _ _ rfl (yields_load_has (by rfl) 61 _ rfl (g2) rfl 61 (diffC M no nc uo uc) _ Try.underlying61 rfl (diff_size _ _ _ _ _) (fun W hW => hM2.later hW)) ?_
      try simp only [Act.put, List.setIfInBounds_toArray, List.set_cons_zero, List.set_cons_succ]
      refine plan_run _ rfl (fun K hK => ?_)
      go_simp
      refine (bytes_any M no uo nc uc _ hMo).mono ?_
      rintro en wm ⟨rfl, hq⟩
      skip
      replace hbr := hbr.trans (hq.mono hbr.size)
      refine hK.out _ _ hbr ?_
      clear hK K hq
      try simp only [Act.put, List.setIfInBounds_toArray, List.set_cons_zero, List.set_cons_succ]
      refine plan_run _ rfl (fun K hK => ?_)
      go_simp
      refine (refbytes_any M no uo nc uc _ hMo).mono ?_
      rintro en wm ⟨rfl, hq⟩
      skip
      replace hbr := hbr.trans (hq.mono hbr.size)
      refine hK.out _ _ hbr ?_
      clear hK K hq
      try simp only [Act.put, List.setIfInBounds_toArray, List.set_cons_zero, List.set_cons_succ]
      generalize bytesM M = by8 at *
      iterate 3
        first
          | (refine plan_pass _ rfl (by rfl) ?_)
          | (refine plan_take _ _ rfl (.inl ⟨by rfl, fun W hS => by clear hS; go_simp; try with_reducible rfl⟩) ?_)
        try simp only [Act.put, List.setIfInBounds_toArray, List.set_cons_zero, List.set_cons_succ]
      refine plan_done ?_
      replace hb := hb.trans (hbr.mono hb.size)
      clear hbr
      go_wp2
      go_ret
      exact ⟨rfl, hb⟩
  · have i1 : (12 : Int) < (x.log.length : Int) := by omega
    have i2 : decide ((12 : Int) < (x.log.length : Int)) = true := by rw [decide_eq_true_iff]; omega
    go_wp2
    go_ret
    exact ⟨rfl, hb⟩
end Go.Proofs.Ytphlfepgaghhhaa
