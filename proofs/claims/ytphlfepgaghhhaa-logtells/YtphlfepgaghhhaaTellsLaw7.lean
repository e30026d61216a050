/- LogTells, walked. -/
import Derived.Test.YtphlfepgaghhhaaRefMore
import Derived.Test.YtphlfepgaghhhaaRefSame
import Derived.Test.YtphlfepgaghhhaaRefFold
import Derived.Test.YtphlfepgaghhhaaRefFind
import Derived.Test.YtphlfepgaghhhaaLogKnown
import Derived.Test.YtphlfepgaghhhaaFewAny
namespace Go.Proofs.Ytphlfepgaghhhaa
set_option linter.unusedSimpArgs false
set_option linter.unusedVariables false
set_option maxRecDepth 100000
open Go.RowKit

theorem few_len {s : StV} {m : Nat} (h : fewM s m = true) : s.log.length ≤ m := by
  unfold fewM at h
  rw [Bool.and_eq_true, decide_eq_true_iff] at h
  exact h.2
theorem tail_len (s : StV) (n : Nat) : (tailM s n).1.log.length ≤ s.log.length := by
  unfold tailM
  split
  · show (s.log.drop _).length ≤ _
    rw [List.length_drop]
    omega
  · exact Nat.zero_le _
theorem fold_fit {s : StV} (hs : StOk s) : BaseIn (foldM s) := by
  unfold foldM
  split
  · rename_i h
    exact (done_in (hs.isBase h) _ hs.log).in'
  · exact base0_ok.in'

set_option maxHeartbeats 16000000 in
theorem tells7_walk (s t : StV) (e : EntV) (ao bo : Option Addr) (c d n : Nat) (w : World) (hs0 : s.log.length ≤ 20 → StOk s) (ht0 : t.log.length ≤ 20 → StOk t) (hsb : BaseIn s.base) (htb : BaseIn t.base) (he : EntOk e) (h : Sl w ao c 8 (entR s.log)) (h' : Sl w bo d 8 (entR t.log)) (hn : n < 4294967296) :
    Calls Try.prog 3 #[.agg (stC s ao c), .agg (stC t bo d), .agg (entC e), .int .u32 (n : Int)] w fun en w' => en = .returned (.bool true) ∧ Below w.heap.size w w' := by
  obtain ⟨w1, hw1, hX, hY, hE, hb⟩ := three_vars w 40 40 37 (stC s ao c) (stC t bo d) (entC e)
  go_enter Try.func3, Try.ntmps3
  go_wp2_with fail
  refine (known_any _).mono ?_
  rintro en w2 ⟨rfl, hq⟩
  replace hX := hX.later hq
  replace hY := hY.later hq
  replace hE := hE.later hq
  replace hb := hb.trans (hq.mono hb.size)
  clear hq hw1
  go_wp2_with (first
    | (refine wpList_load_has (by rfl) 40 _ rfl (w.heap.size) rfl 40 (stC s ao c) _ Try.underlying40 rfl (st_size _ _ _) ?hg ?_; (case hg => exact hX))
    | fail)
  refine (few7_any s ao c _ hsb (h.later hb)).mono ?_
  rintro en w3 ⟨rfl, hq⟩
  replace hX := hX.later hq
  replace hY := hY.later hq
  replace hE := hE.later hq
  replace hb := hb.trans (hq.mono hb.size)
  clear hq
  cases hf1 : fewM s 20 with
  | false =>
    go_wp2
    go_ret
    exact ⟨rfl, hb⟩
  | true =>
  go_wp2_with (first
    | (refine wpList_load_has (by rfl) 40 _ rfl (w.heap.size + 1) rfl 40 (stC t bo d) _ Try.underlying40 rfl (st_size _ _ _) ?hg ?_; (case hg => exact hY))
    | fail)
  refine (few7_any t bo d _ htb (h'.later hb)).mono ?_
  rintro en w4 ⟨rfl, hq⟩
  replace hX := hX.later hq
  replace hY := hY.later hq
  replace hE := hE.later hq
  replace hb := hb.trans (hq.mono hb.size)
  clear hq
  cases hf2 : fewM t 20 with
  | false =>
    go_wp2
    go_ret
    exact ⟨rfl, hb⟩
  | true =>
  have hs := hs0 (few_len hf1)
  have ht := ht0 (few_len hf2)
  have hsfar : ∀ dd, ao = some dd → 0 < (entR s.log).length → dd.block < w.heap.size := fun dd hd hp => by
    subst hd
    exact Sl.block_lt h hp (by decide)
  clear hf1 hf2 hs0 ht0 hsb htb
  go_wp2_with (first
    | (refine wpList_load_has (by rfl) 40 _ rfl (w.heap.size) rfl 40 (stC s ao c) _ Try.underlying40 rfl (st_size _ _ _) ?hg ?_; (case hg => exact hX))
    | fail)
  refine (head_any s ao c _ hs (h.later hb)).mono ?_
  rintro en w5 ⟨rfl, hq⟩
  replace hX := hX.later hq
  replace hY := hY.later hq
  replace hE := hE.later hq
  replace hb := hb.trans (hq.mono hb.size)
  clear hq
  go_wp2_with (first
    | (refine wpList_load_has (by rfl) 40 _ rfl (w.heap.size) rfl 40 (stC s ao c) _ Try.underlying40 rfl (st_size _ _ _) ?hg ?_; (case hg => exact hX))
    | fail)
  refine (refhead_any s ao c _ hs (h.later hb)).mono ?_
  rintro en w6 ⟨rfl, hq⟩
  replace hX := hX.later hq
  replace hY := hY.later hq
  replace hE := hE.later hq
  replace hb := hb.trans (hq.mono hb.size)
  clear hq
  generalize (headM s).1 = hd1 at *
  generalize (headM s).2 = hd2 at *
  go_wp2_with (first
    | (refine wpList_load_has (by rfl) 40 _ rfl (w.heap.size) rfl 40 (stC s ao c) _ Try.underlying40 rfl (st_size _ _ _) ?hg ?_; (case hg => exact hX))
    | (refine wpList_load_has (by rfl) 37 _ rfl (w.heap.size + 1 + 1) rfl 37 (entC (e)) _ Try.underlying37 rfl (ent_size _) ?hg ?_; (case hg => exact hE))
    | fail)
  refine (add_any s ao c e _ hs he (h.later hb)).mono ?_
  rintro en w7 ⟨so, sc, rfl, hG⟩
  have hA8 := hG.sl
  have hAo := addM_ok hs he
  have hA2 : (addM s e).2 = 0 ∨ (addM s e).2 = 10 := by
    cases hc : canM s e with
    | true => rw [add_yes hc]; exact .inl rfl
    | false => rw [add_no hc]; exact .inr rfl
  replace hX := hX.later hG.below
  replace hY := hY.later hG.below
  replace hE := hE.later hG.below
  replace hb := hb.trans (hG.below.mono hb.size)
  clear hG
  obtain ⟨wa, hwa, hA, hq⟩ := new_var w7 40 (stC st0 none 0) (stC (addM s e).1 so sc)
  replace hX := hX.later hq
  replace hY := hY.later hq
  replace hE := hE.later hq
  replace hA8 := hA8.later hq
  replace hb := hb.trans (hq.mono hb.size)
  clear hq
  go_wp2_with (first
    | (refine wpList_alloc_has (by rfl) 40 rfl (stC st0 none 0) st_zero ?_)
    | (refine wpList_store_to (by rfl) 40 _ _ rfl w7.heap.size rfl (stC (addM s e).1 so sc) rfl 40 (stC st0 none 0) (st_size _ _ _) (st_same _ _ _ _ _ _) (st_one _ _ _) ?hg wa ?hW ?_; (case hg => exact Has.new _ _ _); (case hW => exact hwa); clear hwa; generalize w7.heap.size = gA at *)
    | (refine wpList_load_has (by rfl) 40 _ rfl (w.heap.size) rfl 40 (stC s ao c) _ Try.underlying40 rfl (st_size _ _ _) ?hg ?_; (case hg => exact hX))
    | (refine wpList_load_has (by rfl) 37 _ rfl (w.heap.size + 1 + 1) rfl 37 (entC (e)) _ Try.underlying37 rfl (ent_size _) ?hg ?_; (case hg => exact hE))
    | fail)
  refine (refadd_any s e ao c _ hs he (h.later hb)).mono ?_
  rintro en wb ⟨uo, uc, rfl, hG⟩
  have hB8 := hG.sl
  replace hX := hX.later hG.below
  replace hY := hY.later hG.below
  replace hA := hA.later hG.below
  replace hA8 := hA8.later hG.below
  replace hb := hb.trans (hG.below.mono hb.size)
  clear hG hE
  generalize addM s e = A at *
  obtain ⟨w8, hw8, hB, hq⟩ := new_var wb 40 (stC st0 none 0) (stC A.1 uo uc)
  replace hX := hX.later hq
  replace hY := hY.later hq
  replace hA := hA.later hq
  replace hA8 := hA8.later hq
  replace hB8 := hB8.later hq
  replace hb := hb.trans (hq.mono hb.size)
  clear hq
  have h8 := h.later hb
  have h9 := h'.later hb
  have heqF := fun W => neqv_base (foldM s) (foldM s) (fold_fit hs) (fold_fit hs) W
  rw [same_self] at heqF
  rcases hA2 with hA2 | hA2
  · have z1 : ((A.2 : Int) == 0) = true := by rw [hA2]; rfl
    have z2 : ((A.2 : Int) != 0) = false := by rw [hA2]; rfl
    rw [decide_eq_true hA2]
    rw [hA2]
    clear hA2 z1 z2
    go_wp2_with (first
      | (refine wpList_alloc_has (by rfl) 40 rfl (stC st0 none 0) st_zero ?_)
      | (refine wpList_store_to (by rfl) 40 _ _ rfl wb.heap.size rfl (stC A.1 uo uc) rfl 40 (stC st0 none 0) (st_size _ _ _) (st_same _ _ _ _ _ _) (st_one _ _ _) ?hg w8 ?hW ?_; (case hg => exact Has.new _ _ _); (case hW => exact hw8); clear hw8; generalize wb.heap.size = gB at *)
      | fail)
    have hbr : Below w8.heap.size w8 w8.drew := (Below.refl _ _).drew
    have hbb : ∀ b : Bool, (b != b) = false := fun b => by simp
    have hnb : ∀ x : Int, (x != x) = false := fun x => by simp
    refine wp_region_plan (fun W => Below w8.heap.size w8 W) (Plan.of [(0, true), (2, true), (1, false), (3, false), (4, true), (5, true), (6, true), (7, true), (8, true), (9, true), (10, true), (11, true), (12, true), (13, true), (14, true), (15, true), (16, true), (17, true), (18, true), (19, true), (20, true), (21, true), (22, true), (23, true), (24, true), (25, true), (26, true), (27, true), (28, true), (29, true), (30, true), (31, true), (32, false), (33, true), (34, true), (35, true), (36, true), (38, true), (37, false), (39, false), (40, true), (41, true), (42, true), (43, true), (44, true), (46, true), (47, true), (45, false), (48, false), (49, true), (50, true), (51, true), (52, true), (53, true), (54, false), (55, true), (56, true)] .done) (by kernel_rfl) (by kernel_rfl) (by kernel_rfl) (by kernel_rfl) hbr ?_
    refine plan_take _ _ rfl (yields_load_has (by rfl) 40 _ rfl (w.heap.size) rfl 40 (stC s ao c) _ Try.underlying40 rfl (st_size _ _ _) (fun W hW => hX.later hW)) ?_
    try simp only [Act.put, List.setIfInBounds_toArray, List.set_cons_zero, List.set_cons_succ]
    refine plan_take _ _ rfl (yields_load_has (by rfl) 40 _ rfl (w.heap.size) rfl 40 (stC s ao c) _ Try.underlying40 rfl (st_size _ _ _) (fun W hW => hX.later hW)) ?_
    try simp only [Act.put, List.setIfInBounds_toArray, List.set_cons_zero, List.set_cons_succ]
    refine plan_run _ rfl (fun K hK => ?_)
    go_simp
    refine (is_any s ao c _ hs (h8.later hbr)).mono ?_
    rintro en wm ⟨rfl, hq⟩
    skip
    replace hbr := hbr.trans (hq.mono hbr.size)
    refine hK.out _ _ hbr ?_
    clear hK K hq
    try simp only [Act.put, List.setIfInBounds_toArray, List.set_cons_zero, List.set_cons_succ]
    refine plan_run _ rfl (fun K hK => ?_)
    go_simp
    refine (refis_any s ao c _ hs (h8.later hbr)).mono ?_
    rintro en wm ⟨rfl, hq⟩
    skip
    replace hbr := hbr.trans (hq.mono hbr.size)
    refine hK.out _ _ hbr ?_
    clear hK K hq
    try simp only [Act.put, List.setIfInBounds_toArray, List.set_cons_zero, List.set_cons_succ]
    generalize isM s = bi at *
    refine plan_take _ (.bool false) rfl (.inl ⟨by rfl, fun W hS => by clear hS; go_simp; try with_reducible rfl⟩) ?_
    try simp only [Act.put, List.setIfInBounds_toArray, List.set_cons_zero, List.set_cons_succ]
    iterate 3
      first
        | (refine plan_pass _ rfl (by rfl) ?_)
        | (refine plan_take _ _ rfl (.inl ⟨by rfl, fun W hS => by clear hS; go_simp; try with_reducible rfl⟩) ?_)
      try simp only [Act.put, List.setIfInBounds_toArray, List.set_cons_zero, List.set_cons_succ]
    refine plan_take _ (.bool false) rfl (.inl ⟨by rfl, fun W hS => by clear hS; go_simp; try with_reducible rfl⟩) ?_
    try simp only [Act.put, List.setIfInBounds_toArray, List.set_cons_zero, List.set_cons_succ]
    iterate 4
      first
        | (refine plan_pass _ rfl (by rfl) ?_)
        | (refine plan_take _ _ rfl (.inl ⟨by rfl, fun W hS => by clear hS; go_simp; try with_reducible rfl⟩) ?_)
      try simp only [Act.put, List.setIfInBounds_toArray, List.set_cons_zero, List.set_cons_succ]
    refine plan_take _ (.bool false) rfl (.inl ⟨by rfl, fun W hS => by clear hS; go_simp; try with_reducible rfl⟩) ?_
    try simp only [Act.put, List.setIfInBounds_toArray, List.set_cons_zero, List.set_cons_succ]
    iterate 3
      first
        | (refine plan_pass _ rfl (by rfl) ?_)
        | (refine plan_take _ _ rfl (.inl ⟨by rfl, fun W hS => by clear hS; go_simp; try with_reducible rfl⟩) ?_)
      try simp only [Act.put, List.setIfInBounds_toArray, List.set_cons_zero, List.set_cons_succ]
    refine plan_take _ (.bool true) rfl (.inl ⟨by rfl, fun W hS => by clear hS; go_simp; try with_reducible rfl⟩) ?_
    try simp only [Act.put, List.setIfInBounds_toArray, List.set_cons_zero, List.set_cons_succ]
    iterate 1
      first
        | (refine plan_pass _ rfl (by rfl) ?_)
        | (refine plan_take _ _ rfl (.inl ⟨by rfl, fun W hS => by clear hS; go_simp; try with_reducible rfl⟩) ?_)
      try simp only [Act.put, List.setIfInBounds_toArray, List.set_cons_zero, List.set_cons_succ]
    refine plan_take _ (.bool false) rfl (.inl ⟨by rfl, fun W hS => by clear hS; go_simp; try with_reducible rfl⟩) ?_
    try simp only [Act.put, List.setIfInBounds_toArray, List.set_cons_zero, List.set_cons_succ]
    iterate 3
      first
        | (refine plan_pass _ rfl (by rfl) ?_)
        | (refine plan_take _ _ rfl (.inl ⟨by rfl, fun W hS => by clear hS; go_simp; try with_reducible rfl⟩) ?_)
      try simp only [Act.put, List.setIfInBounds_toArray, List.set_cons_zero, List.set_cons_succ]
    refine plan_take _ (.bool false) rfl (.inl ⟨by rfl, fun W hS => by clear hS; go_simp; try with_reducible rfl⟩) ?_
    try simp only [Act.put, List.setIfInBounds_toArray, List.set_cons_zero, List.set_cons_succ]
    iterate 6
      first
        | (refine plan_pass _ rfl (by rfl) ?_)
        | (refine plan_take _ _ rfl (.inl ⟨by rfl, fun W hS => by clear hS; go_simp; try with_reducible rfl⟩) ?_)
      try simp only [Act.put, List.setIfInBounds_toArray, List.set_cons_zero, List.set_cons_succ]
    refine plan_take _ _ rfl (yields_load_has (by rfl) 40 _ rfl (gA) rfl 40 (stC A.1 so sc) _ Try.underlying40 rfl (st_size _ _ _) (fun W hW => hA.later hW)) ?_
    try simp only [Act.put, List.setIfInBounds_toArray, List.set_cons_zero, List.set_cons_succ]
    refine plan_take _ _ rfl (yields_load_has (by rfl) 40 _ rfl (gB) rfl 40 (stC A.1 uo uc) _ Try.underlying40 rfl (st_size _ _ _) (fun W hW => hB.later hW)) ?_
    try simp only [Act.put, List.setIfInBounds_toArray, List.set_cons_zero, List.set_cons_succ]
    refine plan_run _ rfl (fun K hK => ?_)
    go_simp
    refine (refsame_any A.1 A.1 so uo sc uc _ hAo hAo (hA8.later hbr) (hB8.later hbr)).mono ?_
    rintro en wm ⟨rfl, hq⟩
    rw [same_self]
    replace hbr := hbr.trans (hq.mono hbr.size)
    refine hK.out _ _ hbr ?_
    clear hK K hq
    try simp only [Act.put, List.setIfInBounds_toArray, List.set_cons_zero, List.set_cons_succ]
    iterate 3
      first
        | (refine plan_pass _ rfl (by rfl) ?_)
        | (refine plan_take _ _ rfl (.inl ⟨by rfl, fun W hS => by clear hS; go_simp; try with_reducible rfl⟩) ?_)
      try simp only [Act.put, List.setIfInBounds_toArray, List.set_cons_zero, List.set_cons_succ]
    refine plan_take _ _ rfl (yields_load_has (by rfl) 40 _ rfl (w.heap.size) rfl 40 (stC s ao c) _ Try.underlying40 rfl (st_size _ _ _) (fun W hW => hX.later hW)) ?_
    try simp only [Act.put, List.setIfInBounds_toArray, List.set_cons_zero, List.set_cons_succ]
    refine plan_take _ _ rfl (yields_load_has (by rfl) 40 _ rfl (w.heap.size) rfl 40 (stC s ao c) _ Try.underlying40 rfl (st_size _ _ _) (fun W hW => hX.later hW)) ?_
    try simp only [Act.put, List.setIfInBounds_toArray, List.set_cons_zero, List.set_cons_succ]
    refine plan_run _ rfl (fun K hK => ?_)
    go_simp
    refine (fold_any s ao c _ hs (h8.later hbr)).mono ?_
    rintro en wm ⟨rfl, hq⟩
    skip
    replace hbr := hbr.trans (hq.mono hbr.size)
    refine hK.out _ _ hbr ?_
    clear hK K hq
    try simp only [Act.put, List.setIfInBounds_toArray, List.set_cons_zero, List.set_cons_succ]
    refine plan_run _ rfl (fun K hK => ?_)
    go_simp
    refine (reffold_any s ao c _ hs (h8.later hbr)).mono ?_
    rintro en wm ⟨rfl, hq⟩
    skip
    replace hbr := hbr.trans (hq.mono hbr.size)
    refine hK.out _ _ hbr ?_
    clear hK K hq
    try simp only [Act.put, List.setIfInBounds_toArray, List.set_cons_zero, List.set_cons_succ]
    generalize foldM s = fb at *
    refine plan_take _ _ rfl (yields_bin_agg (by rfl) .neq 33 _ _ _ rfl (baseC fb) (baseC fb) rfl rfl (.bool false) guard_base heqF) ?_
    try simp only [Act.put, List.setIfInBounds_toArray, List.set_cons_zero, List.set_cons_succ]
    iterate 2
      first
        | (refine plan_pass _ rfl (by rfl) ?_)
        | (refine plan_take _ _ rfl (.inl ⟨by rfl, fun W hS => by clear hS; go_simp; try with_reducible rfl⟩) ?_)
      try simp only [Act.put, List.setIfInBounds_toArray, List.set_cons_zero, List.set_cons_succ]
    refine plan_take _ _ rfl (yields_load_has (by rfl) 40 _ rfl (w.heap.size) rfl 40 (stC s ao c) _ Try.underlying40 rfl (st_size _ _ _) (fun W hW => hX.later hW)) ?_
    try simp only [Act.put, List.setIfInBounds_toArray, List.set_cons_zero, List.set_cons_succ]
    refine plan_take _ _ rfl (yields_load_has (by rfl) 40 _ rfl (w.heap.size + 1) rfl 40 (stC t bo d) _ Try.underlying40 rfl (st_size _ _ _) (fun W hW => hY.later hW)) ?_
    try simp only [Act.put, List.setIfInBounds_toArray, List.set_cons_zero, List.set_cons_succ]
    refine plan_take _ _ rfl (yields_load_has (by rfl) 40 _ rfl (w.heap.size) rfl 40 (stC s ao c) _ Try.underlying40 rfl (st_size _ _ _) (fun W hW => hX.later hW)) ?_
    try simp only [Act.put, List.setIfInBounds_toArray, List.set_cons_zero, List.set_cons_succ]
    refine plan_take _ _ rfl (yields_load_has (by rfl) 40 _ rfl (w.heap.size + 1) rfl 40 (stC t bo d) _ Try.underlying40 rfl (st_size _ _ _) (fun W hW => hY.later hW)) ?_
    try simp only [Act.put, List.setIfInBounds_toArray, List.set_cons_zero, List.set_cons_succ]
    refine plan_run _ rfl (fun K hK => ?_)
    go_simp
    refine (same_any s t ao bo c d _ hs ht (h8.later hbr) (h9.later hbr)).mono ?_
    rintro en wm ⟨rfl, hq⟩
    skip
    replace hbr := hbr.trans (hq.mono hbr.size)
    refine hK.out _ _ hbr ?_
    clear hK K hq
    try simp only [Act.put, List.setIfInBounds_toArray, List.set_cons_zero, List.set_cons_succ]
    refine plan_run _ rfl (fun K hK => ?_)
    go_simp
    refine (refsame_any s t ao bo c d _ hs ht (h8.later hbr) (h9.later hbr)).mono ?_
    rintro en wm ⟨rfl, hq⟩
    skip
    replace hbr := hbr.trans (hq.mono hbr.size)
    refine hK.out _ _ hbr ?_
    clear hK K hq
    try simp only [Act.put, List.setIfInBounds_toArray, List.set_cons_zero, List.set_cons_succ]
    generalize same tSt s t = bs at *
    refine plan_take _ (.bool false) rfl (.inl ⟨by rfl, fun W hS => by clear hS; go_simp; try with_reducible rfl⟩) ?_
    try simp only [Act.put, List.setIfInBounds_toArray, List.set_cons_zero, List.set_cons_succ]
    iterate 2
      first
        | (refine plan_pass _ rfl (by rfl) ?_)
        | (refine plan_take _ _ rfl (.inl ⟨by rfl, fun W hS => by clear hS; go_simp; try with_reducible rfl⟩) ?_)
      try simp only [Act.put, List.setIfInBounds_toArray, List.set_cons_zero, List.set_cons_succ]
    refine plan_take _ _ rfl (yields_load_has (by rfl) 40 _ rfl (w.heap.size) rfl 40 (stC s ao c) _ Try.underlying40 rfl (st_size _ _ _) (fun W hW => hX.later hW)) ?_
    try simp only [Act.put, List.setIfInBounds_toArray, List.set_cons_zero, List.set_cons_succ]
    refine plan_take _ _ rfl (yields_load_has (by rfl) 40 _ rfl (w.heap.size) rfl 40 (stC s ao c) _ Try.underlying40 rfl (st_size _ _ _) (fun W hW => hX.later hW)) ?_
    try simp only [Act.put, List.setIfInBounds_toArray, List.set_cons_zero, List.set_cons_succ]
    refine plan_run _ rfl (fun K hK => ?_)
    go_simp
    refine (same_any s s ao ao c c _ hs hs (h8.later hbr) (h8.later hbr)).mono ?_
    rintro en wm ⟨rfl, hq⟩
    rw [same_self]
    replace hbr := hbr.trans (hq.mono hbr.size)
    refine hK.out _ _ hbr ?_
    clear hK K hq
    try simp only [Act.put, List.setIfInBounds_toArray, List.set_cons_zero, List.set_cons_succ]
    iterate 2
      first
        | (refine plan_pass _ rfl (by rfl) ?_)
        | (refine plan_take _ _ rfl (.inl ⟨by rfl, fun W hS => by clear hS; go_simp; try with_reducible rfl⟩) ?_)
      try simp only [Act.put, List.setIfInBounds_toArray, List.set_cons_zero, List.set_cons_succ]
    refine plan_done ?_
    obtain ⟨w9, hw9⟩ : ∃ W, W = wm := ⟨_, rfl⟩
    subst hw9
    replace hX := hX.later hbr
    replace hb := hb.trans (hbr.mono hb.size)
    clear hbr hA hB hA8 hB8 hY h8 h9 heqF
    generalize A.1 = A1 at *
    go_wp2_with (first
      | (refine wpList_load_has (by rfl) 40 _ rfl (w.heap.size) rfl 40 (stC s ao c) _ Try.underlying40 rfl (st_size _ _ _) ?hg ?_; (case hg => exact hX))
      | fail)
    refine (upto_any s ao c n _ hs (h.later hb) hn).mono ?_
    rintro en wd ⟨rfl, hq⟩
    have huf := (upto_fit hs n).in'
    replace hX := hX.later hq
    replace hb := hb.trans (hq.mono hb.size)
    clear hq
    obtain ⟨we, hwe, hU, hq⟩ := new_var wd 33 (baseC base0) (baseC (uptoM s n).1)
    replace hX := hX.later hq
    replace hb := hb.trans (hq.mono hb.size)
    clear hq
    go_wp2_with (first
      | (refine wpList_alloc_has (by rfl) 33 rfl (baseC base0) base_zero ?_)
      | (refine wpList_store_to (by rfl) 33 _ _ rfl wd.heap.size rfl (baseC ((uptoM s n).1)) rfl 33 (baseC base0) (base_size _) rfl (base_one _) ?hg we ?hW ?_; (case hg => exact Has.new _ _ _); (case hW => exact hwe); clear hwe; generalize wd.heap.size = gU at *)
      | (refine wpList_load_has (by rfl) 40 _ rfl (w.heap.size) rfl 40 (stC s ao c) _ Try.underlying40 rfl (st_size _ _ _) ?hg ?_; (case hg => exact hX))
      | fail)
    refine (refupto_any s ao c n _ hs (h.later hb) hn).mono ?_
    rintro en wf ⟨rfl, hq⟩
    replace hX := hX.later hq
    replace hU := hU.later hq
    replace hb := hb.trans (hq.mono hb.size)
    clear hq
    generalize (uptoM s n).1 = ub at *
    generalize (uptoM s n).2 = uk at *
    have heqU := fun W => neqv_base ub ub huf huf W
    rw [same_self] at heqU
    obtain ⟨wg, hwg, hV, hq⟩ := new_var wf 33 (baseC base0) (baseC ub)
    replace hX := hX.later hq
    replace hU := hU.later hq
    replace hb := hb.trans (hq.mono hb.size)
    clear hq
    go_wp2_with (first
      | (refine wpList_alloc_has (by rfl) 33 rfl (baseC base0) base_zero ?_)
      | (refine wpList_store_to (by rfl) 33 _ _ rfl wf.heap.size rfl (baseC (ub)) rfl 33 (baseC base0) (base_size _) rfl (base_one _) ?hg wg ?hW ?_; (case hg => exact Has.new _ _ _); (case hW => exact hwg); clear hwg; generalize wf.heap.size = gV at *)
      | (refine wpList_load_has (by rfl) 40 _ rfl (w.heap.size) rfl 40 (stC s ao c) _ Try.underlying40 rfl (st_size _ _ _) ?hg ?_; (case hg => exact hX))
      | fail)
    refine (cut_any s ao c n _ hs (h.later hb) hn).mono ?_
    rintro en wh ⟨xo, xc, rfl, hG⟩
    have hC8 := hG.sl
    have hCo := cutM_fit hs n
    replace hX := hX.later hG.below
    replace hU := hU.later hG.below
    replace hV := hV.later hG.below
    replace hb := hb.trans (hG.below.mono hb.size)
    clear hG
    have hgX : w.heap.size < wh.heap.size := hX.lt
    obtain ⟨wi, hwi, hC, hq⟩ := new_var wh 40 (stC st0 none 0) (stC (cutM s n).1 xo xc)
    replace hX := hX.later hq
    replace hU := hU.later hq
    replace hV := hV.later hq
    replace hC8 := hC8.later hq
    replace hb := hb.trans (hq.mono hb.size)
    clear hq
    go_wp2_with (first
      | (refine wpList_alloc_has (by rfl) 40 rfl (stC st0 none 0) st_zero ?_)
      | (refine wpList_store_to (by rfl) 40 _ _ rfl wh.heap.size rfl (stC (cutM s n).1 xo xc) rfl 40 (stC st0 none 0) (st_size _ _ _) (st_same _ _ _ _ _ _) (st_one _ _ _) ?hg wi ?hW ?_; (case hg => exact Has.new _ _ _); (case hW => exact hwi); clear hwi; generalize wh.heap.size = gC at *)
      | (refine wpList_load_has (by rfl) 40 _ rfl (w.heap.size) rfl 40 (stC s ao c) _ Try.underlying40 rfl (st_size _ _ _) ?hg ?_; (case hg => exact hX))
      | fail)
    refine (refcut_any s ao c n _ hs (h.later hb) hn).mono ?_
    rintro en wj ⟨yo, yc, rfl, hG⟩
    have hD8 := hG.sl
    replace hX := hX.later hG.below
    replace hU := hU.later hG.below
    replace hV := hV.later hG.below
    replace hC := hC.later hG.below
    replace hC8 := hC8.later hG.below
    replace hb := hb.trans (hG.below.mono hb.size)
    clear hG
    generalize (cutM s n).1 = C1 at *
    generalize (cutM s n).2 = C2 at *
    have hbj := hb.size
    have hCD : gC < wj.heap.size := hC.lt
    obtain ⟨wk, hwk, hD, hq⟩ := new_var wj 40 (stC st0 none 0) (stC C1 yo yc)
    have hwD : w.heap.size ≤ wj.heap.size := hbj
    replace hX := hX.later hq
    replace hU := hU.later hq
    replace hV := hV.later hq
    replace hC := hC.later hq
    replace hC8 := hC8.later hq
    replace hD8 := hD8.later hq
    replace hb := hb.trans (hq.mono hb.size)
    clear hq hbj
    have hbb : ∀ b : Bool, (b != b) = false := fun b => by simp
    go_wp2_with (first
      | (refine wpList_alloc_has (by rfl) 40 rfl (stC st0 none 0) st_zero ?_)
      | (refine wpList_store_to (by rfl) 40 _ _ rfl wj.heap.size rfl (stC C1 yo yc) rfl 40 (stC st0 none 0) (st_size _ _ _) (st_same _ _ _ _ _ _) (st_one _ _ _) ?hg wk ?hW ?_; (case hg => exact Has.new _ _ _); (case hW => exact hwk); clear hwk; generalize wj.heap.size = gD at *)
      | (refine wpList_load_has (by rfl) 33 _ rfl (gU) rfl 33 (baseC (ub)) _ Try.underlying33 rfl (base_size _) ?hg ?_; (case hg => exact hU))
      | (refine wpList_load_has (by rfl) 33 _ rfl (gV) rfl 33 (baseC (ub)) _ Try.underlying33 rfl (base_size _) ?hg ?_; (case hg => exact hV))
      | (refine wpList_bin_agg (by rfl) .neq 33 _ _ _ rfl (baseC ub) (baseC ub) rfl rfl (.bool (!true)) guard_base ?hg ?_; (case hg => exact heqU _))
      | (refine wpList_load_has (by rfl) 40 _ rfl (gC) rfl 40 (stC C1 xo xc) _ Try.underlying40 rfl (st_size _ _ _) ?hg ?_; (case hg => exact hC))
      | (refine wpList_load_has (by rfl) 40 _ rfl (gD) rfl 40 (stC C1 yo yc) _ Try.underlying40 rfl (st_size _ _ _) ?hg ?_; (case hg => exact hD))
      | fail)
    refine (refsame_any C1 C1 xo yo xc yc _ hCo hCo hC8 hD8).mono ?_
    rintro en wl ⟨rfl, hq⟩
    rw [same_self]
    replace hX := hX.later hq
    replace hC := hC.later hq
    replace hD := hD.later hq
    replace hb := hb.trans (hq.mono hb.size)
    clear hq hU hV hC8 hD8 heqU huf hCo
    go_wp2_with (first
      | (refine wpList_load_has (by rfl) 40 _ rfl (w.heap.size) rfl 40 (stC s ao c) _ Try.underlying40 rfl (st_size _ _ _) ?hg ?_; (case hg => exact hX))
      | fail)
    refine (tail_any s ao c n _ hs (h.later hb) hn).mono ?_
    rintro en wo ⟨po, pc, rfl, hG⟩
    have hT8 := hG.sl
    have hTo := tailM_fit hs n
    have hTn : ∀ dd, po = some dd → dd.block ≠ gC ∧ dd.block ≠ gD := fun dd hd => by have := hG.new dd hd; have := hC.lt; have := hD.lt; omega
    replace hX := hX.later hG.below
    replace hC := hC.later hG.below
    replace hD := hD.later hG.below
    replace hb := hb.trans (hG.below.mono hb.size)
    clear hG
    have hC2 := hC.row (stC (tailM s n).1 po pc)
    have hX2 := hX.row_other (k := gC) (by omega) (stC (tailM s n).1 po pc)
    have hD2 := hD.row_other (k := gC) (by omega) (stC (tailM s n).1 po pc)
    have hT2 := hT8.row_other (k := gC) (fun dd hd => (hTn dd hd).1) (stC (tailM s n).1 po pc)
    have hb2 := below_setRow hb (show w.heap.size ≤ gC by omega) (stC (tailM s n).1 po pc)
    obtain ⟨wp', hwp⟩ : ∃ W, wo.setRow gC (stC (tailM s n).1 po pc) = W := ⟨_, rfl⟩
    rw [hwp] at hC2 hX2 hD2 hT2 hb2
    go_wp2_with (first
      | (refine wpList_store_to (by rfl) 40 _ _ rfl (gC) rfl (stC (tailM s n).1 po pc) rfl 40 (stC C1 xo xc) (st_size _ _ _) (st_same _ _ _ _ _ _) (st_one _ _ _) ?hg wp' ?hW ?_; (case hg => exact hC); (case hW => exact hwp))
      | (refine wpList_load_has (by rfl) 40 _ rfl (w.heap.size) rfl 40 (stC s ao c) _ Try.underlying40 rfl (st_size _ _ _) ?hg ?_; (case hg => exact hX2))
      | fail)
    clear hC hX hD hT8 hb hwp
    refine (reftail_any s ao c n _ hs (h.later hb2) hn).mono ?_
    rintro en wq ⟨qo, qc, rfl, hR8, hRf, hq⟩
    have hRn : ∀ dd, qo = some dd → 0 < (entR (tailM s n).1.log).length → dd.block ≠ gD := fun dd hd hp => by
      rcases hRf dd hd hp with e | e
      · have hp2 : 0 < (entR s.log).length := by
          rw [entR_len] at hp ⊢
          exact Nat.lt_of_lt_of_le hp (tail_len s n)
        have := hsfar dd e.symm hp2
        omega
      · have := hD2.lt
        omega
    replace hX2 := hX2.later hq
    replace hC2 := hC2.later hq
    replace hD2 := hD2.later hq
    replace hT2 := hT2.later hq
    replace hb2 := hb2.trans (hq.mono hb2.size)
    clear hq hRf
    generalize (tailM s n).1 = T1 at *
    generalize (tailM s n).2 = T2 at *
    have hD3 := hD2.row (stC T1 qo qc)
    have hX3 := hX2.row_other (k := gD) (by omega) (stC T1 qo qc)
    have hC3 := hC2.row_other (k := gD) (by omega) (stC T1 qo qc)
    have hT3 := hT2.row_other (k := gD) (fun dd hd => (hTn dd hd).2) (stC T1 qo qc)
    have hR3 := hR8.row_if9 (k := gD) hRn (stC T1 qo qc)
    have hb3 := below_setRow hb2 (show w.heap.size ≤ gD by omega) (stC T1 qo qc)
    obtain ⟨wr', hwr⟩ : ∃ W, wq.setRow gD (stC T1 qo qc) = W := ⟨_, rfl⟩
    rw [hwr] at hD3 hX3 hC3 hT3 hR3 hb3
    go_wp2_with (first
      | (refine wpList_store_to (by rfl) 40 _ _ rfl (gD) rfl (stC T1 qo qc) rfl 40 (stC C1 yo yc) (st_size _ _ _) (st_same _ _ _ _ _ _) (st_one _ _ _) ?hg wr' ?hW ?_; (case hg => exact hD2); (case hW => exact hwr))
      | (refine wpList_load_has (by rfl) 40 _ rfl (w.heap.size) rfl 40 (stC s ao c) _ Try.underlying40 rfl (st_size _ _ _) ?hg ?_; (case hg => exact hX3))
      | fail)
    clear hD2 hX2 hC2 hT2 hR8 hb2 hwr hRn hTn
    refine (find_any s ao c n _ hs (h.later hb3) hn).mono ?_
    rintro en ws ⟨rfl, hq⟩
    have hfo := find_fit hs n
    replace hX3 := hX3.later hq
    replace hC3 := hC3.later hq
    replace hD3 := hD3.later hq
    replace hT3 := hT3.later hq
    replace hR3 := hR3.later hq
    replace hb3 := hb3.trans (hq.mono hb3.size)
    clear hq
    obtain ⟨wt, hwt, hP, hq⟩ := new_var ws 37 (entC ent0) (entC (findM s n).1)
    replace hX3 := hX3.later hq
    replace hC3 := hC3.later hq
    replace hD3 := hD3.later hq
    replace hT3 := hT3.later hq
    replace hR3 := hR3.later hq
    replace hb3 := hb3.trans (hq.mono hb3.size)
    clear hq
    go_wp2_with (first
      | (refine wpList_alloc_has (by rfl) 37 rfl (entC ent0) ent_zero ?_)
      | (refine wpList_store_to (by rfl) 37 _ _ rfl ws.heap.size rfl (entC (findM s n).1) rfl 37 (entC ent0) (ent_size _) rfl (ent_one _) ?hg wt ?hW ?_; (case hg => exact Has.new _ _ _); (case hW => exact hwt); clear hwt; generalize ws.heap.size = gP at *)
      | (refine wpList_load_has (by rfl) 40 _ rfl (w.heap.size) rfl 40 (stC s ao c) _ Try.underlying40 rfl (st_size _ _ _) ?hg ?_; (case hg => exact hX3))
      | fail)
    refine (reffind_any s ao c n _ hs (h.later hb3) hn).mono ?_
    rintro en wu ⟨rfl, hq⟩
    replace hC3 := hC3.later hq
    replace hD3 := hD3.later hq
    replace hT3 := hT3.later hq
    replace hR3 := hR3.later hq
    replace hP := hP.later hq
    replace hb3 := hb3.trans (hq.mono hb3.size)
    clear hq hX3
    generalize (findM s n).1 = f1 at *
    generalize (findM s n).2 = f2 at *
    have heqP := fun W => eqv_ent f1 f1 hfo hfo W
    rw [same_self] at heqP
    obtain ⟨wv, hwv, hQ2, hq⟩ := new_var wu 37 (entC ent0) (entC f1)
    replace hC3 := hC3.later hq
    replace hD3 := hD3.later hq
    replace hT3 := hT3.later hq
    replace hR3 := hR3.later hq
    replace hP := hP.later hq
    replace hb3 := hb3.trans (hq.mono hb3.size)
    clear hq
    go_wp2_with (first
      | (refine wpList_alloc_has (by rfl) 37 rfl (entC ent0) ent_zero ?_)
      | (refine wpList_store_to (by rfl) 37 _ _ rfl wu.heap.size rfl (entC f1) rfl 37 (entC ent0) (ent_size _) rfl (ent_one _) ?hg wv ?hW ?_; (case hg => exact Has.new _ _ _); (case hW => exact hwv); clear hwv; generalize wu.heap.size = gQ at *)
      | (refine wpList_load_has (by rfl) 40 _ rfl (gC) rfl 40 (stC T1 po pc) _ Try.underlying40 rfl (st_size _ _ _) ?hg ?_; (case hg => exact hC3))
      | (refine wpList_load_has (by rfl) 40 _ rfl (gD) rfl 40 (stC T1 qo qc) _ Try.underlying40 rfl (st_size _ _ _) ?hg ?_; (case hg => exact hD3))
      | fail)
    refine (refsame_any T1 T1 po qo pc qc _ hTo hTo hT3 hR3).mono ?_
    rintro en ww ⟨rfl, hq⟩
    rw [same_self]
    replace hP := hP.later hq
    replace hQ2 := hQ2.later hq
    replace hb3 := hb3.trans (hq.mono hb3.size)
    clear hq
    go_wp2_with (first
      | (refine wpList_load_has (by rfl) 37 _ rfl (gP) rfl 37 (entC (f1)) _ Try.underlying37 rfl (ent_size _) ?hg ?_; (case hg => exact hP))
      | (refine wpList_load_has (by rfl) 37 _ rfl (gQ) rfl 37 (entC (f1)) _ Try.underlying37 rfl (ent_size _) ?hg ?_; (case hg => exact hQ2))
      | (refine wpList_bin_agg (by rfl) .eql 37 _ _ _ rfl (entC f1) (entC f1) rfl rfl (.bool true) guard_ent ?hg ?_; (case hg => exact heqP _))
      | fail)
    go_ret
    exact ⟨rfl, hb3⟩
  · rw [decide_eq_false (show ¬ A.2 = 0 by omega)]
    rw [hA2]
    clear hA2
    go_wp2_with (first
      | (refine wpList_alloc_has (by rfl) 40 rfl (stC st0 none 0) st_zero ?_)
      | (refine wpList_store_to (by rfl) 40 _ _ rfl wb.heap.size rfl (stC A.1 uo uc) rfl 40 (stC st0 none 0) (st_size _ _ _) (st_same _ _ _ _ _ _) (st_one _ _ _) ?hg w8 ?hW ?_; (case hg => exact Has.new _ _ _); (case hW => exact hw8); clear hw8; generalize wb.heap.size = gB at *)
      | fail)
    have hbr : Below w8.heap.size w8 w8.drew := (Below.refl _ _).drew
    have hbb : ∀ b : Bool, (b != b) = false := fun b => by simp
    have hnb : ∀ x : Int, (x != x) = false := fun x => by simp
    refine wp_region_plan (fun W => Below w8.heap.size w8 W) (Plan.of [(0, true), (2, true), (1, false), (3, false), (4, true), (5, true), (6, true), (7, true), (8, true), (9, true), (10, true), (11, true), (12, true), (13, true), (14, true), (15, true), (16, true), (17, true), (18, true), (19, true), (20, true), (21, true), (22, true), (23, true), (24, true), (25, true), (26, true), (27, true), (28, true), (29, true), (30, true), (31, true), (32, false), (33, true), (34, true), (35, true), (36, true), (38, true), (37, false), (39, false), (40, true), (41, true), (42, true), (43, true), (44, true), (46, true), (47, true), (45, false), (48, false), (49, true), (50, true), (51, true), (52, true), (53, true), (54, false), (55, true), (56, true)] .done) (by kernel_rfl) (by kernel_rfl) (by kernel_rfl) (by kernel_rfl) hbr ?_
    refine plan_take _ _ rfl (yields_load_has (by rfl) 40 _ rfl (w.heap.size) rfl 40 (stC s ao c) _ Try.underlying40 rfl (st_size _ _ _) (fun W hW => hX.later hW)) ?_
    try simp only [Act.put, List.setIfInBounds_toArray, List.set_cons_zero, List.set_cons_succ]
    refine plan_take _ _ rfl (yields_load_has (by rfl) 40 _ rfl (w.heap.size) rfl 40 (stC s ao c) _ Try.underlying40 rfl (st_size _ _ _) (fun W hW => hX.later hW)) ?_
    try simp only [Act.put, List.setIfInBounds_toArray, List.set_cons_zero, List.set_cons_succ]
    refine plan_run _ rfl (fun K hK => ?_)
    go_simp
    refine (is_any s ao c _ hs (h8.later hbr)).mono ?_
    rintro en wm ⟨rfl, hq⟩
    skip
    replace hbr := hbr.trans (hq.mono hbr.size)
    refine hK.out _ _ hbr ?_
    clear hK K hq
    try simp only [Act.put, List.setIfInBounds_toArray, List.set_cons_zero, List.set_cons_succ]
    refine plan_run _ rfl (fun K hK => ?_)
    go_simp
    refine (refis_any s ao c _ hs (h8.later hbr)).mono ?_
    rintro en wm ⟨rfl, hq⟩
    skip
    replace hbr := hbr.trans (hq.mono hbr.size)
    refine hK.out _ _ hbr ?_
    clear hK K hq
    try simp only [Act.put, List.setIfInBounds_toArray, List.set_cons_zero, List.set_cons_succ]
    generalize isM s = bi at *
    refine plan_take _ (.bool false) rfl (.inl ⟨by rfl, fun W hS => by clear hS; go_simp; try with_reducible rfl⟩) ?_
    try simp only [Act.put, List.setIfInBounds_toArray, List.set_cons_zero, List.set_cons_succ]
    iterate 3
      first
        | (refine plan_pass _ rfl (by rfl) ?_)
        | (refine plan_take _ _ rfl (.inl ⟨by rfl, fun W hS => by clear hS; go_simp; try with_reducible rfl⟩) ?_)
      try simp only [Act.put, List.setIfInBounds_toArray, List.set_cons_zero, List.set_cons_succ]
    refine plan_take _ (.bool false) rfl (.inl ⟨by rfl, fun W hS => by clear hS; go_simp; try with_reducible rfl⟩) ?_
    try simp only [Act.put, List.setIfInBounds_toArray, List.set_cons_zero, List.set_cons_succ]
    iterate 4
      first
        | (refine plan_pass _ rfl (by rfl) ?_)
        | (refine plan_take _ _ rfl (.inl ⟨by rfl, fun W hS => by clear hS; go_simp; try with_reducible rfl⟩) ?_)
      try simp only [Act.put, List.setIfInBounds_toArray, List.set_cons_zero, List.set_cons_succ]
    refine plan_take _ (.bool false) rfl (.inl ⟨by rfl, fun W hS => by clear hS; go_simp; try with_reducible rfl⟩) ?_
    try simp only [Act.put, List.setIfInBounds_toArray, List.set_cons_zero, List.set_cons_succ]
    iterate 3
      first
        | (refine plan_pass _ rfl (by rfl) ?_)
        | (refine plan_take _ _ rfl (.inl ⟨by rfl, fun W hS => by clear hS; go_simp; try with_reducible rfl⟩) ?_)
      try simp only [Act.put, List.setIfInBounds_toArray, List.set_cons_zero, List.set_cons_succ]
    refine plan_take _ (.bool false) rfl (.inl ⟨by rfl, fun W hS => by clear hS; go_simp; try with_reducible rfl⟩) ?_
    try simp only [Act.put, List.setIfInBounds_toArray, List.set_cons_zero, List.set_cons_succ]
    iterate 1
      first
        | (refine plan_pass _ rfl (by rfl) ?_)
        | (refine plan_take _ _ rfl (.inl ⟨by rfl, fun W hS => by clear hS; go_simp; try with_reducible rfl⟩) ?_)
      try simp only [Act.put, List.setIfInBounds_toArray, List.set_cons_zero, List.set_cons_succ]
    refine plan_take _ (.bool false) rfl (.inl ⟨by rfl, fun W hS => by clear hS; go_simp; try with_reducible rfl⟩) ?_
    try simp only [Act.put, List.setIfInBounds_toArray, List.set_cons_zero, List.set_cons_succ]
    iterate 3
      first
        | (refine plan_pass _ rfl (by rfl) ?_)
        | (refine plan_take _ _ rfl (.inl ⟨by rfl, fun W hS => by clear hS; go_simp; try with_reducible rfl⟩) ?_)
      try simp only [Act.put, List.setIfInBounds_toArray, List.set_cons_zero, List.set_cons_succ]
    refine plan_take _ (.bool true) rfl (.inl ⟨by rfl, fun W hS => by clear hS; go_simp; try with_reducible rfl⟩) ?_
    try simp only [Act.put, List.setIfInBounds_toArray, List.set_cons_zero, List.set_cons_succ]
    iterate 6
      first
        | (refine plan_pass _ rfl (by rfl) ?_)
        | (refine plan_take _ _ rfl (.inl ⟨by rfl, fun W hS => by clear hS; go_simp; try with_reducible rfl⟩) ?_)
      try simp only [Act.put, List.setIfInBounds_toArray, List.set_cons_zero, List.set_cons_succ]
    refine plan_take _ _ rfl (yields_load_has (by rfl) 40 _ rfl (gA) rfl 40 (stC A.1 so sc) _ Try.underlying40 rfl (st_size _ _ _) (fun W hW => hA.later hW)) ?_
    try simp only [Act.put, List.setIfInBounds_toArray, List.set_cons_zero, List.set_cons_succ]
    refine plan_take _ _ rfl (yields_load_has (by rfl) 40 _ rfl (gB) rfl 40 (stC A.1 uo uc) _ Try.underlying40 rfl (st_size _ _ _) (fun W hW => hB.later hW)) ?_
    try simp only [Act.put, List.setIfInBounds_toArray, List.set_cons_zero, List.set_cons_succ]
    refine plan_run _ rfl (fun K hK => ?_)
    go_simp
    refine (refsame_any A.1 A.1 so uo sc uc _ hAo hAo (hA8.later hbr) (hB8.later hbr)).mono ?_
    rintro en wm ⟨rfl, hq⟩
    rw [same_self]
    replace hbr := hbr.trans (hq.mono hbr.size)
    refine hK.out _ _ hbr ?_
    clear hK K hq
    try simp only [Act.put, List.setIfInBounds_toArray, List.set_cons_zero, List.set_cons_succ]
    iterate 3
      first
        | (refine plan_pass _ rfl (by rfl) ?_)
        | (refine plan_take _ _ rfl (.inl ⟨by rfl, fun W hS => by clear hS; go_simp; try with_reducible rfl⟩) ?_)
      try simp only [Act.put, List.setIfInBounds_toArray, List.set_cons_zero, List.set_cons_succ]
    refine plan_take _ _ rfl (yields_load_has (by rfl) 40 _ rfl (w.heap.size) rfl 40 (stC s ao c) _ Try.underlying40 rfl (st_size _ _ _) (fun W hW => hX.later hW)) ?_
    try simp only [Act.put, List.setIfInBounds_toArray, List.set_cons_zero, List.set_cons_succ]
    refine plan_take _ _ rfl (yields_load_has (by rfl) 40 _ rfl (w.heap.size) rfl 40 (stC s ao c) _ Try.underlying40 rfl (st_size _ _ _) (fun W hW => hX.later hW)) ?_
    try simp only [Act.put, List.setIfInBounds_toArray, List.set_cons_zero, List.set_cons_succ]
    refine plan_run _ rfl (fun K hK => ?_)
    go_simp
    refine (fold_any s ao c _ hs (h8.later hbr)).mono ?_
    rintro en wm ⟨rfl, hq⟩
    skip
    replace hbr := hbr.trans (hq.mono hbr.size)
    refine hK.out _ _ hbr ?_
    clear hK K hq
    try simp only [Act.put, List.setIfInBounds_toArray, List.set_cons_zero, List.set_cons_succ]
    refine plan_run _ rfl (fun K hK => ?_)
    go_simp
    refine (reffold_any s ao c _ hs (h8.later hbr)).mono ?_
    rintro en wm ⟨rfl, hq⟩
    skip
    replace hbr := hbr.trans (hq.mono hbr.size)
    refine hK.out _ _ hbr ?_
    clear hK K hq
    try simp only [Act.put, List.setIfInBounds_toArray, List.set_cons_zero, List.set_cons_succ]
    generalize foldM s = fb at *
    refine plan_take _ _ rfl (yields_bin_agg (by rfl) .neq 33 _ _ _ rfl (baseC fb) (baseC fb) rfl rfl (.bool false) guard_base heqF) ?_
    try simp only [Act.put, List.setIfInBounds_toArray, List.set_cons_zero, List.set_cons_succ]
    iterate 2
      first
        | (refine plan_pass _ rfl (by rfl) ?_)
        | (refine plan_take _ _ rfl (.inl ⟨by rfl, fun W hS => by clear hS; go_simp; try with_reducible rfl⟩) ?_)
      try simp only [Act.put, List.setIfInBounds_toArray, List.set_cons_zero, List.set_cons_succ]
    refine plan_take _ _ rfl (yields_load_has (by rfl) 40 _ rfl (w.heap.size) rfl 40 (stC s ao c) _ Try.underlying40 rfl (st_size _ _ _) (fun W hW => hX.later hW)) ?_
    try simp only [Act.put, List.setIfInBounds_toArray, List.set_cons_zero, List.set_cons_succ]
    refine plan_take _ _ rfl (yields_load_has (by rfl) 40 _ rfl (w.heap.size + 1) rfl 40 (stC t bo d) _ Try.underlying40 rfl (st_size _ _ _) (fun W hW => hY.later hW)) ?_
    try simp only [Act.put, List.setIfInBounds_toArray, List.set_cons_zero, List.set_cons_succ]
    refine plan_take _ _ rfl (yields_load_has (by rfl) 40 _ rfl (w.heap.size) rfl 40 (stC s ao c) _ Try.underlying40 rfl (st_size _ _ _) (fun W hW => hX.later hW)) ?_
    try simp only [Act.put, List.setIfInBounds_toArray, List.set_cons_zero, List.set_cons_succ]
    refine plan_take _ _ rfl (yields_load_has (by rfl) 40 _ rfl (w.heap.size + 1) rfl 40 (stC t bo d) _ Try.underlying40 rfl (st_size _ _ _) (fun W hW => hY.later hW)) ?_
    try simp only [Act.put, List.setIfInBounds_toArray, List.set_cons_zero, List.set_cons_succ]
    refine plan_run _ rfl (fun K hK => ?_)
    go_simp
    refine (same_any s t ao bo c d _ hs ht (h8.later hbr) (h9.later hbr)).mono ?_
    rintro en wm ⟨rfl, hq⟩
    skip
    replace hbr := hbr.trans (hq.mono hbr.size)
    refine hK.out _ _ hbr ?_
    clear hK K hq
    try simp only [Act.put, List.setIfInBounds_toArray, List.set_cons_zero, List.set_cons_succ]
    refine plan_run _ rfl (fun K hK => ?_)
    go_simp
    refine (refsame_any s t ao bo c d _ hs ht (h8.later hbr) (h9.later hbr)).mono ?_
    rintro en wm ⟨rfl, hq⟩
    skip
    replace hbr := hbr.trans (hq.mono hbr.size)
    refine hK.out _ _ hbr ?_
    clear hK K hq
    try simp only [Act.put, List.setIfInBounds_toArray, List.set_cons_zero, List.set_cons_succ]
    generalize same tSt s t = bs at *
    refine plan_take _ (.bool false) rfl (.inl ⟨by rfl, fun W hS => by clear hS; go_simp; try with_reducible rfl⟩) ?_
    try simp only [Act.put, List.setIfInBounds_toArray, List.set_cons_zero, List.set_cons_succ]
    iterate 2
      first
        | (refine plan_pass _ rfl (by rfl) ?_)
        | (refine plan_take _ _ rfl (.inl ⟨by rfl, fun W hS => by clear hS; go_simp; try with_reducible rfl⟩) ?_)
      try simp only [Act.put, List.setIfInBounds_toArray, List.set_cons_zero, List.set_cons_succ]
    refine plan_take _ _ rfl (yields_load_has (by rfl) 40 _ rfl (w.heap.size) rfl 40 (stC s ao c) _ Try.underlying40 rfl (st_size _ _ _) (fun W hW => hX.later hW)) ?_
    try simp only [Act.put, List.setIfInBounds_toArray, List.set_cons_zero, List.set_cons_succ]
    refine plan_take _ _ rfl (yields_load_has (by rfl) 40 _ rfl (w.heap.size) rfl 40 (stC s ao c) _ Try.underlying40 rfl (st_size _ _ _) (fun W hW => hX.later hW)) ?_
    try simp only [Act.put, List.setIfInBounds_toArray, List.set_cons_zero, List.set_cons_succ]
    refine plan_run _ rfl (fun K hK => ?_)
    go_simp
    refine (same_any s s ao ao c c _ hs hs (h8.later hbr) (h8.later hbr)).mono ?_
    rintro en wm ⟨rfl, hq⟩
    rw [same_self]
    replace hbr := hbr.trans (hq.mono hbr.size)
    refine hK.out _ _ hbr ?_
    clear hK K hq
    try simp only [Act.put, List.setIfInBounds_toArray, List.set_cons_zero, List.set_cons_succ]
    iterate 2
      first
        | (refine plan_pass _ rfl (by rfl) ?_)
        | (refine plan_take _ _ rfl (.inl ⟨by rfl, fun W hS => by clear hS; go_simp; try with_reducible rfl⟩) ?_)
      try simp only [Act.put, List.setIfInBounds_toArray, List.set_cons_zero, List.set_cons_succ]
    refine plan_done ?_
    obtain ⟨w9, hw9⟩ : ∃ W, W = wm := ⟨_, rfl⟩
    subst hw9
    replace hX := hX.later hbr
    replace hb := hb.trans (hbr.mono hb.size)
    clear hbr hA hB hA8 hB8 hY h8 h9 heqF
    generalize A.1 = A1 at *
    go_wp2_with (first
      | (refine wpList_load_has (by rfl) 40 _ rfl (w.heap.size) rfl 40 (stC s ao c) _ Try.underlying40 rfl (st_size _ _ _) ?hg ?_; (case hg => exact hX))
      | fail)
    refine (upto_any s ao c n _ hs (h.later hb) hn).mono ?_
    rintro en wd ⟨rfl, hq⟩
    have huf := (upto_fit hs n).in'
    replace hX := hX.later hq
    replace hb := hb.trans (hq.mono hb.size)
    clear hq
    obtain ⟨we, hwe, hU, hq⟩ := new_var wd 33 (baseC base0) (baseC (uptoM s n).1)
    replace hX := hX.later hq
    replace hb := hb.trans (hq.mono hb.size)
    clear hq
    go_wp2_with (first
      | (refine wpList_alloc_has (by rfl) 33 rfl (baseC base0) base_zero ?_)
      | (refine wpList_store_to (by rfl) 33 _ _ rfl wd.heap.size rfl (baseC ((uptoM s n).1)) rfl 33 (baseC base0) (base_size _) rfl (base_one _) ?hg we ?hW ?_; (case hg => exact Has.new _ _ _); (case hW => exact hwe); clear hwe; generalize wd.heap.size = gU at *)
      | (refine wpList_load_has (by rfl) 40 _ rfl (w.heap.size) rfl 40 (stC s ao c) _ Try.underlying40 rfl (st_size _ _ _) ?hg ?_; (case hg => exact hX))
      | fail)
    refine (refupto_any s ao c n _ hs (h.later hb) hn).mono ?_
    rintro en wf ⟨rfl, hq⟩
    replace hX := hX.later hq
    replace hU := hU.later hq
    replace hb := hb.trans (hq.mono hb.size)
    clear hq
    generalize (uptoM s n).1 = ub at *
    generalize (uptoM s n).2 = uk at *
    have heqU := fun W => neqv_base ub ub huf huf W
    rw [same_self] at heqU
    obtain ⟨wg, hwg, hV, hq⟩ := new_var wf 33 (baseC base0) (baseC ub)
    replace hX := hX.later hq
    replace hU := hU.later hq
    replace hb := hb.trans (hq.mono hb.size)
    clear hq
    go_wp2_with (first
      | (refine wpList_alloc_has (by rfl) 33 rfl (baseC base0) base_zero ?_)
      | (refine wpList_store_to (by rfl) 33 _ _ rfl wf.heap.size rfl (baseC (ub)) rfl 33 (baseC base0) (base_size _) rfl (base_one _) ?hg wg ?hW ?_; (case hg => exact Has.new _ _ _); (case hW => exact hwg); clear hwg; generalize wf.heap.size = gV at *)
      | (refine wpList_load_has (by rfl) 40 _ rfl (w.heap.size) rfl 40 (stC s ao c) _ Try.underlying40 rfl (st_size _ _ _) ?hg ?_; (case hg => exact hX))
      | fail)
    refine (cut_any s ao c n _ hs (h.later hb) hn).mono ?_
    rintro en wh ⟨xo, xc, rfl, hG⟩
    have hC8 := hG.sl
    have hCo := cutM_fit hs n
    replace hX := hX.later hG.below
    replace hU := hU.later hG.below
    replace hV := hV.later hG.below
    replace hb := hb.trans (hG.below.mono hb.size)
    clear hG
    have hgX : w.heap.size < wh.heap.size := hX.lt
    obtain ⟨wi, hwi, hC, hq⟩ := new_var wh 40 (stC st0 none 0) (stC (cutM s n).1 xo xc)
    replace hX := hX.later hq
    replace hU := hU.later hq
    replace hV := hV.later hq
    replace hC8 := hC8.later hq
    replace hb := hb.trans (hq.mono hb.size)
    clear hq
    go_wp2_with (first
      | (refine wpList_alloc_has (by rfl) 40 rfl (stC st0 none 0) st_zero ?_)
      | (refine wpList_store_to (by rfl) 40 _ _ rfl wh.heap.size rfl (stC (cutM s n).1 xo xc) rfl 40 (stC st0 none 0) (st_size _ _ _) (st_same _ _ _ _ _ _) (st_one _ _ _) ?hg wi ?hW ?_; (case hg => exact Has.new _ _ _); (case hW => exact hwi); clear hwi; generalize wh.heap.size = gC at *)
      | (refine wpList_load_has (by rfl) 40 _ rfl (w.heap.size) rfl 40 (stC s ao c) _ Try.underlying40 rfl (st_size _ _ _) ?hg ?_; (case hg => exact hX))
      | fail)
    refine (refcut_any s ao c n _ hs (h.later hb) hn).mono ?_
    rintro en wj ⟨yo, yc, rfl, hG⟩
    have hD8 := hG.sl
    replace hX := hX.later hG.below
    replace hU := hU.later hG.below
    replace hV := hV.later hG.below
    replace hC := hC.later hG.below
    replace hC8 := hC8.later hG.below
    replace hb := hb.trans (hG.below.mono hb.size)
    clear hG
    generalize (cutM s n).1 = C1 at *
    generalize (cutM s n).2 = C2 at *
    have hbj := hb.size
    have hCD : gC < wj.heap.size := hC.lt
    obtain ⟨wk, hwk, hD, hq⟩ := new_var wj 40 (stC st0 none 0) (stC C1 yo yc)
    have hwD : w.heap.size ≤ wj.heap.size := hbj
    replace hX := hX.later hq
    replace hU := hU.later hq
    replace hV := hV.later hq
    replace hC := hC.later hq
    replace hC8 := hC8.later hq
    replace hD8 := hD8.later hq
    replace hb := hb.trans (hq.mono hb.size)
    clear hq hbj
    have hbb : ∀ b : Bool, (b != b) = false := fun b => by simp
    go_wp2_with (first
      | (refine wpList_alloc_has (by rfl) 40 rfl (stC st0 none 0) st_zero ?_)
      | (refine wpList_store_to (by rfl) 40 _ _ rfl wj.heap.size rfl (stC C1 yo yc) rfl 40 (stC st0 none 0) (st_size _ _ _) (st_same _ _ _ _ _ _) (st_one _ _ _) ?hg wk ?hW ?_; (case hg => exact Has.new _ _ _); (case hW => exact hwk); clear hwk; generalize wj.heap.size = gD at *)
      | (refine wpList_load_has (by rfl) 33 _ rfl (gU) rfl 33 (baseC (ub)) _ Try.underlying33 rfl (base_size _) ?hg ?_; (case hg => exact hU))
      | (refine wpList_load_has (by rfl) 33 _ rfl (gV) rfl 33 (baseC (ub)) _ Try.underlying33 rfl (base_size _) ?hg ?_; (case hg => exact hV))
      | (refine wpList_bin_agg (by rfl) .neq 33 _ _ _ rfl (baseC ub) (baseC ub) rfl rfl (.bool (!true)) guard_base ?hg ?_; (case hg => exact heqU _))
      | (refine wpList_load_has (by rfl) 40 _ rfl (gC) rfl 40 (stC C1 xo xc) _ Try.underlying40 rfl (st_size _ _ _) ?hg ?_; (case hg => exact hC))
      | (refine wpList_load_has (by rfl) 40 _ rfl (gD) rfl 40 (stC C1 yo yc) _ Try.underlying40 rfl (st_size _ _ _) ?hg ?_; (case hg => exact hD))
      | fail)
    refine (refsame_any C1 C1 xo yo xc yc _ hCo hCo hC8 hD8).mono ?_
    rintro en wl ⟨rfl, hq⟩
    rw [same_self]
    replace hX := hX.later hq
    replace hC := hC.later hq
    replace hD := hD.later hq
    replace hb := hb.trans (hq.mono hb.size)
    clear hq hU hV hC8 hD8 heqU huf hCo
    go_wp2_with (first
      | (refine wpList_load_has (by rfl) 40 _ rfl (w.heap.size) rfl 40 (stC s ao c) _ Try.underlying40 rfl (st_size _ _ _) ?hg ?_; (case hg => exact hX))
      | fail)
    refine (tail_any s ao c n _ hs (h.later hb) hn).mono ?_
    rintro en wo ⟨po, pc, rfl, hG⟩
    have hT8 := hG.sl
    have hTo := tailM_fit hs n
    have hTn : ∀ dd, po = some dd → dd.block ≠ gC ∧ dd.block ≠ gD := fun dd hd => by have := hG.new dd hd; have := hC.lt; have := hD.lt; omega
    replace hX := hX.later hG.below
    replace hC := hC.later hG.below
    replace hD := hD.later hG.below
    replace hb := hb.trans (hG.below.mono hb.size)
    clear hG
    have hC2 := hC.row (stC (tailM s n).1 po pc)
    have hX2 := hX.row_other (k := gC) (by omega) (stC (tailM s n).1 po pc)
    have hD2 := hD.row_other (k := gC) (by omega) (stC (tailM s n).1 po pc)
    have hT2 := hT8.row_other (k := gC) (fun dd hd => (hTn dd hd).1) (stC (tailM s n).1 po pc)
    have hb2 := below_setRow hb (show w.heap.size ≤ gC by omega) (stC (tailM s n).1 po pc)
    obtain ⟨wp', hwp⟩ : ∃ W, wo.setRow gC (stC (tailM s n).1 po pc) = W := ⟨_, rfl⟩
    rw [hwp] at hC2 hX2 hD2 hT2 hb2
    go_wp2_with (first
      | (refine wpList_store_to (by rfl) 40 _ _ rfl (gC) rfl (stC (tailM s n).1 po pc) rfl 40 (stC C1 xo xc) (st_size _ _ _) (st_same _ _ _ _ _ _) (st_one _ _ _) ?hg wp' ?hW ?_; (case hg => exact hC); (case hW => exact hwp))
      | (refine wpList_load_has (by rfl) 40 _ rfl (w.heap.size) rfl 40 (stC s ao c) _ Try.underlying40 rfl (st_size _ _ _) ?hg ?_; (case hg => exact hX2))
      | fail)
    clear hC hX hD hT8 hb hwp
    refine (reftail_any s ao c n _ hs (h.later hb2) hn).mono ?_
    rintro en wq ⟨qo, qc, rfl, hR8, hRf, hq⟩
    have hRn : ∀ dd, qo = some dd → 0 < (entR (tailM s n).1.log).length → dd.block ≠ gD := fun dd hd hp => by
      rcases hRf dd hd hp with e | e
      · have hp2 : 0 < (entR s.log).length := by
          rw [entR_len] at hp ⊢
          exact Nat.lt_of_lt_of_le hp (tail_len s n)
        have := hsfar dd e.symm hp2
        omega
      · have := hD2.lt
        omega
    replace hX2 := hX2.later hq
    replace hC2 := hC2.later hq
    replace hD2 := hD2.later hq
    replace hT2 := hT2.later hq
    replace hb2 := hb2.trans (hq.mono hb2.size)
    clear hq hRf
    generalize (tailM s n).1 = T1 at *
    generalize (tailM s n).2 = T2 at *
    have hD3 := hD2.row (stC T1 qo qc)
    have hX3 := hX2.row_other (k := gD) (by omega) (stC T1 qo qc)
    have hC3 := hC2.row_other (k := gD) (by omega) (stC T1 qo qc)
    have hT3 := hT2.row_other (k := gD) (fun dd hd => (hTn dd hd).2) (stC T1 qo qc)
    have hR3 := hR8.row_if9 (k := gD) hRn (stC T1 qo qc)
    have hb3 := below_setRow hb2 (show w.heap.size ≤ gD by omega) (stC T1 qo qc)
    obtain ⟨wr', hwr⟩ : ∃ W, wq.setRow gD (stC T1 qo qc) = W := ⟨_, rfl⟩
    rw [hwr] at hD3 hX3 hC3 hT3 hR3 hb3
    go_wp2_with (first
      | (refine wpList_store_to (by rfl) 40 _ _ rfl (gD) rfl (stC T1 qo qc) rfl 40 (stC C1 yo yc) (st_size _ _ _) (st_same _ _ _ _ _ _) (st_one _ _ _) ?hg wr' ?hW ?_; (case hg => exact hD2); (case hW => exact hwr))
      | (refine wpList_load_has (by rfl) 40 _ rfl (w.heap.size) rfl 40 (stC s ao c) _ Try.underlying40 rfl (st_size _ _ _) ?hg ?_; (case hg => exact hX3))
      | fail)
    clear hD2 hX2 hC2 hT2 hR8 hb2 hwr hRn hTn
    refine (find_any s ao c n _ hs (h.later hb3) hn).mono ?_
    rintro en ws ⟨rfl, hq⟩
    have hfo := find_fit hs n
    replace hX3 := hX3.later hq
    replace hC3 := hC3.later hq
    replace hD3 := hD3.later hq
    replace hT3 := hT3.later hq
    replace hR3 := hR3.later hq
    replace hb3 := hb3.trans (hq.mono hb3.size)
    clear hq
    obtain ⟨wt, hwt, hP, hq⟩ := new_var ws 37 (entC ent0) (entC (findM s n).1)
    replace hX3 := hX3.later hq
    replace hC3 := hC3.later hq
    replace hD3 := hD3.later hq
    replace hT3 := hT3.later hq
    replace hR3 := hR3.later hq
    replace hb3 := hb3.trans (hq.mono hb3.size)
    clear hq
    go_wp2_with (first
      | (refine wpList_alloc_has (by rfl) 37 rfl (entC ent0) ent_zero ?_)
      | (refine wpList_store_to (by rfl) 37 _ _ rfl ws.heap.size rfl (entC (findM s n).1) rfl 37 (entC ent0) (ent_size _) rfl (ent_one _) ?hg wt ?hW ?_; (case hg => exact Has.new _ _ _); (case hW => exact hwt); clear hwt; generalize ws.heap.size = gP at *)
      | (refine wpList_load_has (by rfl) 40 _ rfl (w.heap.size) rfl 40 (stC s ao c) _ Try.underlying40 rfl (st_size _ _ _) ?hg ?_; (case hg => exact hX3))
      | fail)
    refine (reffind_any s ao c n _ hs (h.later hb3) hn).mono ?_
    rintro en wu ⟨rfl, hq⟩
    replace hC3 := hC3.later hq
    replace hD3 := hD3.later hq
    replace hT3 := hT3.later hq
    replace hR3 := hR3.later hq
    replace hP := hP.later hq
    replace hb3 := hb3.trans (hq.mono hb3.size)
    clear hq hX3
    generalize (findM s n).1 = f1 at *
    generalize (findM s n).2 = f2 at *
    have heqP := fun W => eqv_ent f1 f1 hfo hfo W
    rw [same_self] at heqP
    obtain ⟨wv, hwv, hQ2, hq⟩ := new_var wu 37 (entC ent0) (entC f1)
    replace hC3 := hC3.later hq
    replace hD3 := hD3.later hq
    replace hT3 := hT3.later hq
    replace hR3 := hR3.later hq
    replace hP := hP.later hq
    replace hb3 := hb3.trans (hq.mono hb3.size)
    clear hq
    go_wp2_with (first
      | (refine wpList_alloc_has (by rfl) 37 rfl (entC ent0) ent_zero ?_)
      | (refine wpList_store_to (by rfl) 37 _ _ rfl wu.heap.size rfl (entC f1) rfl 37 (entC ent0) (ent_size _) rfl (ent_one _) ?hg wv ?hW ?_; (case hg => exact Has.new _ _ _); (case hW => exact hwv); clear hwv; generalize wu.heap.size = gQ at *)
      | (refine wpList_load_has (by rfl) 40 _ rfl (gC) rfl 40 (stC T1 po pc) _ Try.underlying40 rfl (st_size _ _ _) ?hg ?_; (case hg => exact hC3))
      | (refine wpList_load_has (by rfl) 40 _ rfl (gD) rfl 40 (stC T1 qo qc) _ Try.underlying40 rfl (st_size _ _ _) ?hg ?_; (case hg => exact hD3))
      | fail)
    refine (refsame_any T1 T1 po qo pc qc _ hTo hTo hT3 hR3).mono ?_
    rintro en ww ⟨rfl, hq⟩
    rw [same_self]
    replace hP := hP.later hq
    replace hQ2 := hQ2.later hq
    replace hb3 := hb3.trans (hq.mono hb3.size)
    clear hq
    go_wp2_with (first
      | (refine wpList_load_has (by rfl) 37 _ rfl (gP) rfl 37 (entC (f1)) _ Try.underlying37 rfl (ent_size _) ?hg ?_; (case hg => exact hP))
      | (refine wpList_load_has (by rfl) 37 _ rfl (gQ) rfl 37 (entC (f1)) _ Try.underlying37 rfl (ent_size _) ?hg ?_; (case hg => exact hQ2))
      | (refine wpList_bin_agg (by rfl) .eql 37 _ _ _ rfl (entC f1) (entC f1) rfl rfl (.bool true) guard_ent ?hg ?_; (case hg => exact heqP _))
      | fail)
    go_ret
    exact ⟨rfl, hb3⟩
end Go.Proofs.Ytphlfepgaghhhaa
