/- The contracts of pglog's Head, Fold, Upto, Cut, Tail, Find. -/
import Derived.Test.YtphlfepgaghhhaaLogFold
namespace Go.Proofs.Ytphlfepgaghhhaa
set_option linter.unusedSimpArgs false
set_option linter.unusedVariables false
set_option maxRecDepth 100000
open Go.RowKit

theorem StOk.isBase {s : StV} (hs : StOk s) (h : isM s = true) : BaseOk s.base := isBase_ok hs.base ((is_is s).1 h).2.2.1
theorem head_yes {s : StV} (h : isM s = true) : headM s = ((headE s).since, (headE s).n) := by unfold headM; rw [if_pos h]
theorem head_no {s : StV} (h : isM s = false) : headM s = (0, 0) := by unfold headM; rw [if_neg (by rw [h]; simp)]
theorem fold_yes {s : StV} (h : isM s = true) : foldM s = doneM s.base s.log := by unfold foldM; rw [if_pos h]
theorem fold_no {s : StV} (h : isM s = false) : foldM s = base0 := by unfold foldM; rw [if_neg (by rw [h]; simp)]

set_option maxHeartbeats 4000000 in
theorem head_any (s : StV) (ao : Option Addr) (c : Nat) (w : World) (hs : StOk s) (h : Sl w ao c 8 (entR s.log)) :
    Calls Try.prog 11 #[.agg (stC s ao c)] w fun en w' => en = .returned (.tuple #[.int .u32 ((headM s).1 : Int), .int .u32 ((headM s).2 : Int)]) ∧ Below w.heap.size w w' := by
  obtain ⟨w1, hw1, hX, hb⟩ := one_var w 40 (stC s ao c)
  have hlen := hs.len
  have hle := h.ent_le
  have hcap := h.cap
  go_enter Try.func11, Try.ntmps11
  go_wp2_with (first
    | (refine wpList_load_has (by rfl) 40 _ rfl w.heap.size rfl 40 (stC s ao c) _ Try.underlying40 rfl (st_size _ _ _) ?hg ?_; (case hg => exact hX)))
  refine (is_any s ao c _ hs (h.later hb)).mono ?_
  rintro en w2 ⟨rfl, hq⟩
  replace hX := hX.later hq
  replace hb := hb.trans (hq.mono hb.size)
  clear hq hw1
  cases hi : isM s with
  | false =>
    have hM : Hid _ := head_no hi
    go_wp2
    go_ret2
    exact ⟨by rw [hM.out]; rfl, hb⟩
  | true =>
    have hM : Hid _ := head_yes hi
    have ht := hX.st_tail
    have hl := hX.st_log
    go_wp2_with (first
      | (refine wpList_load_mid' (by rfl) 37 _ rfl w.heap.size 40 rfl (entL s.tail) _ ?hg Try.underlying37 rfl (ent_size _) ?_; (case hg => exact ht)))
    refine (last_any s.tail ao c s.log _ (h.later hb) (by omega)).mono ?_
    rintro en w3 ⟨rfl, hq⟩
    replace hb := hb.trans (hq.mono hb.size)
    clear hq hl ht hX
    have hE : Hid (headE s = lastE s.tail s.log) := rfl
    rw [hE.out] at hM
    generalize lastE s.tail s.log = E at *
    obtain ⟨w4, hw4, hX, hq⟩ := new_var w3 37 (entC ent0) (entC E)
    replace hb := hb.trans (hq.mono hb.size)
    clear hq
    go_wp2_with (first
      | (refine wpList_alloc_has (by rfl) 37 rfl (entC ent0) ent_zero ?_)
      | (refine wpList_store_to (by rfl) 37 _ _ rfl w3.heap.size rfl (entC E) rfl 37 (entC ent0) (ent_size _) rfl (ent_one _) ?hg w4 ?hW ?_; (case hg => exact Has.new _ _ _); (case hW => exact hw4); clear hw4))
    have hbA : Below w4.heap.size w4 w4.drew := (Below.refl _ _).drew
    refine wp_region_plan (fun W => Below w4.heap.size w4 W) (Plan.of [(0, true), (1, true), (2, true), (3, true), (4, true), (5, true)] .done) (by kernel_rfl) (by kernel_rfl) (by kernel_rfl) (by kernel_rfl) hbA ?_
    iterate 1
      first
        | (refine plan_pass _ rfl (by rfl) ?_)
        | (refine plan_take _ _ rfl (.inl ⟨by rfl, fun W hS => by clear hS; go_simp; try with_reducible rfl⟩) ?_)
      try simp only [Act.put, List.setIfInBounds_toArray, List.set_cons_zero, List.set_cons_succ]
    iterate 1
      first
        | (refine plan_pass _ rfl (by rfl) ?_)
        | (refine plan_take _ _ rfl (.inl ⟨by rfl, fun W hS => by have z0 := (hX.later hS).ent_since; go_simp; try with_reducible rfl⟩) ?_)
      try simp only [Act.put, List.setIfInBounds_toArray, List.set_cons_zero, List.set_cons_succ]
    iterate 1
      first
        | (refine plan_pass _ rfl (by rfl) ?_)
        | (refine plan_take _ _ rfl (.inl ⟨by rfl, fun W hS => by clear hS; go_simp; try with_reducible rfl⟩) ?_)
      try simp only [Act.put, List.setIfInBounds_toArray, List.set_cons_zero, List.set_cons_succ]
    iterate 1
      first
        | (refine plan_pass _ rfl (by rfl) ?_)
        | (refine plan_take _ _ rfl (.inl ⟨by rfl, fun W hS => by have z0 := (hX.later hS).ent_n; go_simp; try with_reducible rfl⟩) ?_)
      try simp only [Act.put, List.setIfInBounds_toArray, List.set_cons_zero, List.set_cons_succ]
    iterate 2
      first
        | (refine plan_pass _ rfl (by rfl) ?_)
        | (refine plan_take _ _ rfl (.inl ⟨by rfl, fun W hS => by clear hS; go_simp; try with_reducible rfl⟩) ?_)
      try simp only [Act.put, List.setIfInBounds_toArray, List.set_cons_zero, List.set_cons_succ]
    refine plan_done ?_
    go_wp2
    go_ret2
    exact ⟨by rw [hM.out]; rfl, hb.trans (hbA.mono hb.size)⟩

set_option maxHeartbeats 4000000 in
theorem fold_any (s : StV) (ao : Option Addr) (c : Nat) (w : World) (hs : StOk s) (h : Sl w ao c 8 (entR s.log)) :
    Calls Try.prog 18 #[.agg (stC s ao c)] w fun en w' => en = .returned (.agg (baseC (foldM s))) ∧ Below w.heap.size w w' := by
  obtain ⟨w1, hw1, hX, hR, hb⟩ := two_vars w 40 33 (stC s ao c) (baseC base0)
  have hlen := hs.len
  have hle := h.ent_le
  have hcap := h.cap
  go_enter Try.func18, Try.ntmps18
  go_wp2_with (first
    | (refine wpList_alloc_has (by rfl) 33 rfl (baseC base0) base_zero ?_; rw [hw1])
    | (refine wpList_load_has (by rfl) 40 _ rfl w.heap.size rfl 40 (stC s ao c) _ Try.underlying40 rfl (st_size _ _ _) ?hg ?_; (case hg => exact hX)))
  refine (is_any s ao c _ hs (h.later hb)).mono ?_
  rintro en w2 ⟨rfl, hq⟩
  replace hX := hX.later hq
  replace hR := hR.later hq
  replace hb := hb.trans (hq.mono hb.size)
  clear hq hw1
  cases hi : isM s with
  | false =>
    have hM : Hid _ := fold_no hi
    have hz := hR.row (baseC base0)
    have hbz := below_setRow hb (show w.heap.size ≤ w.heap.size + 1 by omega) (baseC base0)
    go_wp2_with (first
      | (refine wpList_build_has (by rfl) 33 #[] rfl (baseC base0) (by simpa using base_built) ?_)
      | (refine wpList_store_has (by rfl) 33 _ _ rfl (w.heap.size + 1) rfl (baseC base0) rfl 33 (baseC base0) (base_size _) rfl (base_one _) ?hg ?_; (case hg => exact hR)))
    exact ret_has rfl (w.heap.size + 1) rfl 33 (baseC base0) _ Try.underlying33 rfl (base_size _) hz rfl ⟨by rw [hM.out], hbz⟩
  | true =>
    have hM : Hid _ := fold_yes hi
    have hB0 := hs.isBase hi
    have hB := hX.st_base
    have hl := hX.st_log
    go_wp2_with (first
      | (refine wpList_load_mid' (by rfl) 33 _ rfl w.heap.size 1 rfl (baseL s.base) _ ?hg Try.underlying33 rfl (base_size _) ?_; (case hg => exact hB)))
    refine (done_any s.base ao c s.log _ hB0 (h.later hb) hs.log hs.len).mono ?_
    rintro en w3 ⟨rfl, hq⟩
    replace hR := hR.later hq
    replace hb := hb.trans (hq.mono hb.size)
    clear hq hl hB hX
    generalize doneM s.base s.log = B at *
    have hz := hR.row (baseC B)
    have hbz := below_setRow hb (show w.heap.size ≤ w.heap.size + 1 by omega) (baseC B)
    go_wp2_with (first
      | (refine wpList_store_has (by rfl) 33 _ _ rfl (w.heap.size + 1) rfl (baseC B) rfl 33 (baseC base0) (base_size _) rfl (base_one _) ?hg ?_; (case hg => exact hR)))
    exact ret_has rfl (w.heap.size + 1) rfl 33 (baseC B) _ Try.underlying33 rfl (base_size _) hz rfl ⟨by rw [hM.out], hbz⟩

/-- A row in the midst of a block, loaded whole, in every world of S. -/
theorem yields_load_mid {P : Program} {ops : Array Oper} {S : World → Prop} {o : Oper} {a : Act} (hw : Region.wanted o (yielded ops a.tmps) = true) (ty : TypeId) (x : Operand) (ho : o.op = .load ty x) (g k : Nat) (hx : a.eval x = .pointer (some ⟨g, k, none⟩)) (cs : List Value) (d : TypeDesc)
    (hu : P.underlying ty = some d) (hd : d.isRow = true) (hi : (P.info? ty).map (·.size) = some cs.length) (hc : ∀ W, S W → W.rangeAt g k cs) : YieldsIf P ops S o (.agg cs.toArray) a :=
  .inl ⟨hw, fun W hS => run_load_any ty x ho ⟨g, k, none⟩ hx cs d (fun j v hj => by rw [Addr.add_mid]; exact hc W hS j v hj) hu hd hi⟩

theorem upto_no {s : StV} {n : Nat} (h : (reachM s n).2 ≠ 0) : uptoM s n = (base0, false) := by unfold uptoM; rw [if_neg h]
theorem upto_yes {s : StV} {n : Nat} (h : (reachM s n).2 = 0) : uptoM s n = (doneM s.base (s.log.take (reachM s n).1), true) := by unfold uptoM; rw [if_pos h]

set_option maxHeartbeats 4000000 in
theorem upto_any (s : StV) (ao : Option Addr) (c n : Nat) (w : World) (hs : StOk s) (h : Sl w ao c 8 (entR s.log)) (hn : n < 4294967296) :
    Calls Try.prog 21 #[.agg (stC s ao c), .int .u32 (n : Int)] w fun en w' => en = .returned (.tuple #[.agg (baseC (uptoM s n).1), .bool (uptoM s n).2]) ∧ Below w.heap.size w w' := by
  obtain ⟨w1, hw1, hX, hR, hb⟩ := two_vars w 40 33 (stC s ao c) (baseC base0)
  have hlen := hs.len
  have hle := h.ent_le
  have hcap := h.cap
  go_enter Try.func21, Try.ntmps21
  go_wp2_with (first
    | (refine wpList_alloc_has (by rfl) 33 rfl (baseC base0) base_zero ?_; rw [hw1])
    | (refine wpList_load_has (by rfl) 40 _ rfl w.heap.size rfl 40 (stC s ao c) _ Try.underlying40 rfl (st_size _ _ _) ?hg ?_; (case hg => exact hX)))
  refine (reach_any s ao c n _ hs (h.later hb) hn).mono ?_
  rintro en w2 ⟨rfl, hq⟩
  replace hX := hX.later hq
  replace hR := hR.later hq
  replace hb := hb.trans (hq.mono hb.size)
  clear hq hw1
  by_cases h0 : (reachM s n).2 = 0
  · have hM : Hid _ := upto_yes h0
    obtain ⟨hi, hk⟩ := reach_le h0
    have hB0 := hs.isBase hi
    rw [h0]
    generalize (reachM s n).1 = k at *
    clear h0
    have hlen1 : (s.log.take k).length = k := by rw [List.length_take]; omega
    have hhead := fun W => run_head W ao s.log.length c k (by omega)
    have hdone := fun W (hW : Below w.heap.size w W) => done_any s.base ao c (s.log.take k) W hB0 ((h.later hW).take k) (fun e he => hs.log e (List.mem_of_mem_take he)) (by omega)
    rw [hlen1] at hdone
    generalize doneM s.base (s.log.take k) = B at *
    go_wp2
    refine wp_region_plan (fun W => Has W w.heap.size 40 (stC s ao c) ∧ Below w.heap.size w W) (Plan.of [(0, true), (1, true), (2, true), (3, true), (4, true), (5, true), (6, false), (7, false), (8, true)] .done) (by kernel_rfl) (by kernel_rfl) (by kernel_rfl) (by kernel_rfl) ⟨hX.drew, hb.drew⟩ ?_
    iterate 1
      first
        | (refine plan_pass _ rfl (by rfl) ?_)
        | (refine plan_take _ _ rfl (.inl ⟨by rfl, fun W hS => by clear hS; go_simp; try with_reducible rfl⟩) ?_)
      try simp only [Act.put, List.setIfInBounds_toArray, List.set_cons_zero, List.set_cons_succ]
    refine plan_take _ _ rfl (yields_load_mid (by rfl) 33 _ rfl w.heap.size 1 rfl (baseL s.base) _ Try.underlying33 rfl (base_size _) (fun W hW => hW.1.st_base)) ?_
    try simp only [Act.put, List.setIfInBounds_toArray, List.set_cons_zero, List.set_cons_succ]
    iterate 1
      first
        | (refine plan_pass _ rfl (by rfl) ?_)
        | (refine plan_take _ _ rfl (.inl ⟨by rfl, fun W hS => by clear hS; go_simp; try with_reducible rfl⟩) ?_)
      try simp only [Act.put, List.setIfInBounds_toArray, List.set_cons_zero, List.set_cons_succ]
    iterate 1
      first
        | (refine plan_pass _ rfl (by rfl) ?_)
        | (refine plan_take _ _ rfl (.inl ⟨by rfl, fun W hS => by have z0 := hS.1.st_log; go_simp; try with_reducible rfl⟩) ?_)
      try simp only [Act.put, List.setIfInBounds_toArray, List.set_cons_zero, List.set_cons_succ]
    iterate 1
      first
        | (refine plan_pass _ rfl (by rfl) ?_)
        | (refine plan_take _ _ rfl (.inl ⟨by rfl, fun W hS => by clear hS; go_simp; try with_reducible rfl⟩) ?_)
      try simp only [Act.put, List.setIfInBounds_toArray, List.set_cons_zero, List.set_cons_succ]
    refine plan_take _ (.slice ao k c) rfl (.inl ⟨by rfl, fun W hS => by clear hS; have z := hhead W; go_simp; try with_reducible rfl⟩) ?_
    try simp only [Act.put, List.setIfInBounds_toArray, List.set_cons_zero, List.set_cons_succ]
    refine plan_run _ rfl (fun K hK => ?_)
    go_simp
    refine (hdone _ hb.drew).mono ?_
    rintro en w3 ⟨rfl, hq⟩
    have hX3 := hX.drew.later hq
    have hR3 := hR.drew.later hq
    have hb3 := hb.drew.trans (hq.mono hb.size)
    refine hK.out _ _ ⟨hX3, hb3⟩ ?_
    clear hK K hq hX hR hb hdone hhead
    try simp only [Act.put, List.setIfInBounds_toArray, List.set_cons_zero, List.set_cons_succ]
    have hz := hR3.row (baseC B)
    have hbz := below_setRow hb3 (show w.heap.size ≤ w.heap.size + 1 by omega) (baseC B)
    refine plan_store_has _ rfl (by rfl) 33 _ _ rfl (w.heap.size + 1) rfl (baseC B) rfl 33 (baseC base0) (base_size _) rfl (base_one _) hR3 ⟨hX3.row_other (by omega) _, hbz⟩ ?_
    try simp only [Act.put, List.setIfInBounds_toArray, List.set_cons_zero, List.set_cons_succ]
    iterate 1
      first
        | (refine plan_pass _ rfl (by rfl) ?_)
        | (refine plan_take _ _ rfl (.inl ⟨by rfl, fun W hS => by clear hS; go_simp; try with_reducible rfl⟩) ?_)
      try simp only [Act.put, List.setIfInBounds_toArray, List.set_cons_zero, List.set_cons_succ]
    refine plan_done ?_
    go_wp2
    exact ret_has_tmp rfl (w.heap.size + 1) rfl 33 (baseC B) _ Try.underlying33 rfl (base_size _) hz rfl ⟨by rw [hM.out]; rfl, hbz⟩
  · have hM : Hid _ := upto_no h0
    have h0I : (((reachM s n).2 : Int) != 0) = true := by rw [bne_iff_ne]; omega
    have hz := hR.row (baseC base0)
    have hbz := below_setRow hb (show w.heap.size ≤ w.heap.size + 1 by omega) (baseC base0)
    go_wp2_with (first
      | (refine wpList_build_has (by rfl) 33 #[] rfl (baseC base0) (by simpa using base_built) ?_)
      | (refine wpList_store_has (by rfl) 33 _ _ rfl (w.heap.size + 1) rfl (baseC base0) rfl 33 (baseC base0) (base_size _) rfl (base_one _) ?hg ?_; (case hg => exact hR)))
    exact ret_has_tmp rfl (w.heap.size + 1) rfl 33 (baseC base0) _ Try.underlying33 rfl (base_size _) hz rfl ⟨by rw [hM.out]; rfl, hbz⟩

theorem cut_yes {s : StV} {n : Nat} (h : (reachM s n).2 = 0) : cutM s n = (withLog s (s.log.take (reachM s n).1), 0) := by unfold cutM; rw [if_pos h]
theorem cut_below {s : StV} {n : Nat} (h : (reachM s n).2 = 80) : cutM s n = (st0, 141) := by unfold cutM; rw [if_neg (by rw [h]; decide), if_pos h]
theorem cut_no {s : StV} {n : Nat} (h : (reachM s n).2 ≠ 0) (h' : (reachM s n).2 ≠ 80) : cutM s n = (st0, (reachM s n).2) := by unfold cutM; rw [if_neg h, if_neg h']
theorem reach_errs (s : StV) (n : Nat) : (reachM s n).2 = 0 ∨ (reachM s n).2 = 10 ∨ (reachM s n).2 = 80 ∨ (reachM s n).2 = 141 := by
  unfold reachM
  repeat' split
  all_goals simp

set_option maxHeartbeats 4000000 in
theorem cut_any (s : StV) (ao : Option Addr) (c n : Nat) (w : World) (hs : StOk s) (h : Sl w ao c 8 (entR s.log)) (hn : n < 4294967296) :
    Calls Try.prog 23 #[.agg (stC s ao c), .int .u32 (n : Int)] w fun en w' => ∃ ro rc, en = .returned (.tuple #[.agg (stC (cutM s n).1 ro rc), .int .i64 ((cutM s n).2 : Int)]) ∧ Gives w w' (cutM s n).1 ro rc := by
  obtain ⟨w1, hw1, hX, hR, hb⟩ := two_vars w 40 40 (stC s ao c) (stC st0 none 0)
  have hlen := hs.len
  have hle := h.ent_le
  have hcap := h.cap
  go_enter Try.func23, Try.ntmps23
  go_wp2_with (first
    | (refine wpList_alloc_has (by rfl) 40 rfl (stC st0 none 0) st_zero ?_; rw [hw1])
    | (refine wpList_load_has (by rfl) 40 _ rfl w.heap.size rfl 40 (stC s ao c) _ Try.underlying40 rfl (st_size _ _ _) ?hg ?_; (case hg => exact hX)))
  refine (reach_any s ao c n _ hs (h.later hb) hn).mono ?_
  rintro en w2 ⟨rfl, hq⟩
  replace hX := hX.later hq
  replace hR := hR.later hq
  replace hb := hb.trans (hq.mono hb.size)
  clear hq hw1
  by_cases h0 : (reachM s n).2 = 0
  · have hM : Hid _ := cut_yes h0
    obtain ⟨hi, hk⟩ := reach_le h0
    rw [h0]
    generalize (reachM s n).1 = k at *
    clear h0
    have hlen1 : (s.log.take k).length = k := by rw [List.length_take]; omega
    have hhead := fun W => run_head W ao s.log.length c k (by omega)
    have hjoin := fun W (hW : Below w.heap.size w W) => joined_any ao none c 0 (s.log.take k) [] W ((h.later hW).take k) (Sl.nothing W 8) (by simp; omega)
    rw [List.append_nil, hlen1] at hjoin
    have hl := hX.st_log
    generalize hL : s.log.take k = L at *
    replace hL : Hid _ := hL
    have hkI : (k : Int) ≤ (c : Int) := by omega
    go_wp2_with fail
    refine (hjoin _ hb).mono ?_
    rintro en w7 ⟨g, hg1, rfl, hG, hq⟩
    have hgs : w.heap.size + 1 < g := by have := hR.lt; omega
    replace hX := hX.later hq
    replace hR := hR.later hq
    replace hb := hb.trans (hq.mono hb.size)
    clear hq hl hjoin hhead
    have c48 := hX.st_log
    have f48 := hX.free 48
    have hX7 := hX.setLog L (some ⟨g, 0, none⟩) k
    rw [hlen1] at hX7
    have hR7 := hR.set_other (a := ⟨w.heap.size, 48, none⟩) (show w.heap.size + 1 ≠ w.heap.size by omega) (.slice (some ⟨g, 0, none⟩) k k)
    have hG7 := hG.set_other (a := ⟨w.heap.size, 48, none⟩) (show g ≠ w.heap.size by omega) (.slice (some ⟨g, 0, none⟩) k k)
    have hb7 := hb.setCell (show w.heap.size ≤ (⟨w.heap.size, 48, none⟩ : Addr).block from Nat.le_refl _) (.slice (some ⟨g, 0, none⟩) k k)
    obtain ⟨w8, hw8⟩ : ∃ W, w7.setCell ⟨w.heap.size, 48, none⟩ (.slice (some ⟨g, 0, none⟩) k k) = W := ⟨_, rfl⟩
    rw [hw8] at hX7 hR7 hG7 hb7
    have hR8 := hR7.row (stC (withLog s L) (some ⟨g, 0, none⟩) k)
    have hG8 := hG7.row_other (k := w.heap.size + 1) (by omega) (stC (withLog s L) (some ⟨g, 0, none⟩) k)
    have hb8 := below_setRow hb7 (show w.heap.size ≤ w.heap.size + 1 by omega) (stC (withLog s L) (some ⟨g, 0, none⟩) k)
    have hSl := hG8.ents (by rw [hlen1]; omega)
    rw [hlen1] at hSl
    have hgg : w.heap.size ≤ g := by omega
    clear hX hR hb hG
    go_wp2_with (first
      | (refine wpList_load_has (by rfl) 40 _ rfl w.heap.size rfl 40 (stC (withLog s L) (some ⟨g, 0, none⟩) k) _ Try.underlying40 rfl (st_size _ _ _) ?hg ?_; (case hg => exact hX7))
      | (refine wpList_store_has (by rfl) 40 _ _ rfl (w.heap.size + 1) rfl (stC (withLog s L) (some ⟨g, 0, none⟩) k) rfl 40 (stC st0 none 0) (st_size _ _ _) (st_same _ _ _ _ _ _) (st_one _ _ _) ?hg ?_; (case hg => exact hR7)))
    refine ret_has_tmp rfl (w.heap.size + 1) rfl 40 (stC (withLog s L) (some ⟨g, 0, none⟩) k) _ Try.underlying40 rfl (st_size _ _ _) hR8 rfl ⟨some ⟨g, 0, none⟩, k, by rw [hM.out]; rfl, ?_⟩
    rw [hM.out]
    exact ⟨hSl, fun d hd => by obtain rfl := Option.some.inj hd; exact hgg, hb8⟩
  · have hz := hR.row (stC st0 none 0)
    have hbz := below_setRow hb (show w.heap.size ≤ w.heap.size + 1 by omega) (stC st0 none 0)
    by_cases h8 : (reachM s n).2 = 80
    · have hM : Hid _ := cut_below h8
      rw [h8]
      clear h0 h8
      go_wp2_with (first
        | (refine wpList_build_has (by rfl) 40 #[] rfl (stC st0 none 0) (by simpa using st_built0) ?_)
        | (refine wpList_store_has (by rfl) 40 _ _ rfl (w.heap.size + 1) rfl (stC st0 none 0) rfl 40 (stC st0 none 0) (st_size _ _ _) (st_same _ _ _ _ _ _) (st_one _ _ _) ?hg ?_; (case hg => exact hR)))
      refine ret_has_tmp rfl (w.heap.size + 1) rfl 40 (stC st0 none 0) _ Try.underlying40 rfl (st_size _ _ _) hz rfl ⟨none, 0, by rw [hM.out]; rfl, ?_⟩
      rw [hM.out]
      exact Gives.zero hbz
    · have hM : Hid _ := cut_no h0 h8
      generalize (reachM s n).2 = q at *
      have h0I : ((q : Int) == 0) = false := by rw [beq_eq_false_iff_ne]; omega
      have h8I : ((q : Int) == 80) = false := by rw [beq_eq_false_iff_ne]; omega
      have h0N : (q == 0) = false := by rw [beq_eq_false_iff_ne]; omega
      have h8N : (q == 80) = false := by rw [beq_eq_false_iff_ne]; omega
      clear h0 h8
      go_wp2_with (first
        | (refine wpList_build_has (by rfl) 40 #[] rfl (stC st0 none 0) (by simpa using st_built0) ?_)
        | (refine wpList_store_has (by rfl) 40 _ _ rfl (w.heap.size + 1) rfl (stC st0 none 0) rfl 40 (stC st0 none 0) (st_size _ _ _) (st_same _ _ _ _ _ _) (st_one _ _ _) ?hg ?_; (case hg => exact hR)))
      refine ret_has_tmp rfl (w.heap.size + 1) rfl 40 (stC st0 none 0) _ Try.underlying40 rfl (st_size _ _ _) hz rfl ⟨none, 0, by rw [hM.out]; rfl, ?_⟩
      rw [hM.out]
      exact Gives.zero hbz

theorem tail_yes {s : StV} {n : Nat} (h : (reachM s n).2 = 0) : tailM s n = (foldK s (reachM s n).1, 0) := by unfold tailM; rw [if_pos h]
theorem tail_no {s : StV} {n : Nat} (h : (reachM s n).2 ≠ 0) : tailM s n = (st0, (reachM s n).2) := by unfold tailM; rw [if_neg h]

set_option maxHeartbeats 4000000 in
theorem tail_any (s : StV) (ao : Option Addr) (c n : Nat) (w : World) (hs : StOk s) (h : Sl w ao c 8 (entR s.log)) (hn : n < 4294967296) :
    Calls Try.prog 25 #[.agg (stC s ao c), .int .u32 (n : Int)] w fun en w' => ∃ ro rc, en = .returned (.tuple #[.agg (stC (tailM s n).1 ro rc), .int .i64 ((tailM s n).2 : Int)]) ∧ Gives w w' (tailM s n).1 ro rc := by
  obtain ⟨w1, hw1, hX, hR, hb⟩ := two_vars w 40 40 (stC s ao c) (stC st0 none 0)
  have hlen := hs.len
  have hle := h.ent_le
  have hcap := h.cap
  go_enter Try.func25, Try.ntmps25
  go_wp2_with (first
    | (refine wpList_alloc_has (by rfl) 40 rfl (stC st0 none 0) st_zero ?_; rw [hw1])
    | (refine wpList_load_has (by rfl) 40 _ rfl w.heap.size rfl 40 (stC s ao c) _ Try.underlying40 rfl (st_size _ _ _) ?hg ?_; (case hg => exact hX)))
  refine (reach_any s ao c n _ hs (h.later hb) hn).mono ?_
  rintro en w2 ⟨rfl, hq⟩
  replace hX := hX.later hq
  replace hR := hR.later hq
  replace hb := hb.trans (hq.mono hb.size)
  clear hq hw1
  by_cases h0 : (reachM s n).2 = 0
  · have hM : Hid _ := tail_yes h0
    obtain ⟨hi, hk⟩ := reach_le h0
    rw [h0]
    generalize (reachM s n).1 = k at *
    clear h0
    go_wp2_with (first
      | (refine wpList_load_has (by rfl) 40 _ rfl w.heap.size rfl 40 (stC s ao c) _ Try.underlying40 rfl (st_size _ _ _) ?hg ?_; (case hg => exact hX)))
    refine (folded_any s ao c k _ (hs.isBase hi) hs.tail (h.later hb) hs.log hs.len hk).mono ?_
    rintro en w3 ⟨ro, rc, rfl, hG⟩
    have hR3 := hR.later hG.below
    have hb3 := hb.trans (hG.below.mono hb.size)
    have hlt := hR.lt
    have hgs : ∀ d, ro = some d → d.block ≠ w.heap.size + 1 := fun d hd => by have := hG.new d hd; omega
    have hgn : ∀ d, ro = some d → w.heap.size ≤ d.block := fun d hd => by have := hG.new d hd; omega
    have hsl := hG.sl.row_other hgs (stC (foldK s k) ro rc)
    have hz := hR3.row (stC (foldK s k) ro rc)
    have hbz := below_setRow hb3 (show w.heap.size ≤ w.heap.size + 1 by omega) (stC (foldK s k) ro rc)
    clear hX hR hb hG
    go_wp2_with (first
      | (refine wpList_store_has (by rfl) 40 _ _ rfl (w.heap.size + 1) rfl (stC (foldK s k) ro rc) rfl 40 (stC st0 none 0) (st_size _ _ _) (st_same _ _ _ _ _ _) (st_one _ _ _) ?hg ?_; (case hg => exact hR3)))
    refine ret_has_tmp rfl (w.heap.size + 1) rfl 40 (stC (foldK s k) ro rc) _ Try.underlying40 rfl (st_size _ _ _) hz rfl ⟨ro, rc, by rw [hM.out]; rfl, ?_⟩
    rw [hM.out]
    exact ⟨hsl, hgn, hbz⟩
  · have hM : Hid _ := tail_no h0
    have hz := hR.row (stC st0 none 0)
    have hbz := below_setRow hb (show w.heap.size ≤ w.heap.size + 1 by omega) (stC st0 none 0)
    generalize (reachM s n).2 = q at *
    have h0I : ((q : Int) != 0) = true := by rw [bne_iff_ne]; omega
    clear h0
    go_wp2_with (first
      | (refine wpList_build_has (by rfl) 40 #[] rfl (stC st0 none 0) (by simpa using st_built0) ?_)
      | (refine wpList_store_has (by rfl) 40 _ _ rfl (w.heap.size + 1) rfl (stC st0 none 0) rfl 40 (stC st0 none 0) (st_size _ _ _) (st_same _ _ _ _ _ _) (st_one _ _ _) ?hg ?_; (case hg => exact hR)))
    refine ret_has_tmp rfl (w.heap.size + 1) rfl 40 (stC st0 none 0) _ Try.underlying40 rfl (st_size _ _ _) hz rfl ⟨none, 0, by rw [hM.out]; rfl, ?_⟩
    rw [hM.out]
    exact Gives.zero hbz

theorem find_no {s : StV} {n : Nat} (h : (reachM s n).2 ≠ 0 ∨ (reachM s n).1 = 0) : findM s n = (ent0, false) := by
  unfold findM
  rw [if_neg]
  rintro ⟨h1, h2⟩
  rcases h with h | h
  · exact h h1
  · exact h2 h
theorem find_yes {s : StV} {n k : Nat} (h : (reachM s n).2 = 0) (hk : (reachM s n).1 = k + 1) (hl : k < s.log.length) : findM s n = (s.log[k], true) := by
  unfold findM
  rw [if_pos ⟨h, by omega⟩, hk, List.getD_eq_getElem?_getD, show k + 1 - 1 = k by omega, List.getElem?_eq_getElem hl]
  rfl

set_option maxHeartbeats 4000000 in
theorem find_any (s : StV) (ao : Option Addr) (c n : Nat) (w : World) (hs : StOk s) (h : Sl w ao c 8 (entR s.log)) (hn : n < 4294967296) :
    Calls Try.prog 27 #[.agg (stC s ao c), .int .u32 (n : Int)] w fun en w' => en = .returned (.tuple #[.agg (entC (findM s n).1), .bool (findM s n).2]) ∧ Below w.heap.size w w' := by
  obtain ⟨w1, hw1, hX, hR, hb⟩ := two_vars w 40 37 (stC s ao c) (entC ent0)
  have hlen := hs.len
  have hle := h.ent_le
  have hcap := h.cap
  go_enter Try.func27, Try.ntmps27
  go_wp2_with (first
    | (refine wpList_alloc_has (by rfl) 37 rfl (entC ent0) ent_zero ?_; rw [hw1])
    | (refine wpList_load_has (by rfl) 40 _ rfl w.heap.size rfl 40 (stC s ao c) _ Try.underlying40 rfl (st_size _ _ _) ?hg ?_; (case hg => exact hX)))
  refine (reach_any s ao c n _ hs (h.later hb) hn).mono ?_
  rintro en w2 ⟨rfl, hq⟩
  replace hX := hX.later hq
  replace hR := hR.later hq
  replace hb := hb.trans (hq.mono hb.size)
  clear hq hw1
  have hz := hR.row (entC ent0)
  have hbz := below_setRow hb (show w.heap.size ≤ w.heap.size + 1 by omega) (entC ent0)
  by_cases h0 : (reachM s n).2 = 0
  · obtain ⟨hi, hk⟩ := reach_le h0
    rw [h0]
    cases hk1 : (reachM s n).1 with
    | zero =>
      have hM : Hid _ := find_no (.inr hk1)
      clear h0 hk1
      go_wp2_with (first
        | (refine wpList_build_has (by rfl) 37 #[] rfl (entC ent0) (by simpa using ent_built0) ?_)
        | (refine wpList_store_has (by rfl) 37 _ _ rfl (w.heap.size + 1) rfl (entC ent0) rfl 37 (entC ent0) (ent_size _) rfl (ent_one _) ?hg ?_; (case hg => exact hR)))
      exact ret_has_tmp rfl (w.heap.size + 1) rfl 37 (entC ent0) _ Try.underlying37 rfl (ent_size _) hz rfl ⟨by rw [hM.out]; rfl, hbz⟩
    | succ k =>
      rw [hk1] at hk
      have hlt : k < s.log.length := by omega
      have hM : Hid _ := find_yes h0 hk1 hlt
      clear h0 hk1
      cases ao with
      | none => have := h.nil rfl; omega
      | some ad =>
        have hx := ent_at (h.later hb) k hlt
        have hl := hX.st_log
        have i1 : ((k : Int) + 1 == 0) = false := by rw [beq_eq_false_iff_ne]; omega
        have i2 : (k : Int) < (s.log.length : Int) := by omega
        generalize s.log[k] = x at *
        have hzx := hR.row (entC x)
        have hbx := below_setRow hb (show w.heap.size ≤ w.heap.size + 1 by omega) (entC x)
        go_wp2_with (first
          | (refine wpList_load_any (by rfl) 37 _ rfl _ rfl (entL x) _ ?hg Try.underlying37 rfl (ent_size x) ?_; (case hg => exact hx))
          | (refine wpList_store_has (by rfl) 37 _ _ rfl (w.heap.size + 1) rfl (entC x) rfl 37 (entC ent0) (ent_size _) rfl (ent_one _) ?hg ?_; (case hg => exact hR)))
        exact ret_has_tmp rfl (w.heap.size + 1) rfl 37 (entC x) _ Try.underlying37 rfl (ent_size _) hzx rfl ⟨by rw [hM.out]; rfl, hbx⟩
  · have hM : Hid _ := find_no (.inl h0)
    generalize (reachM s n).2 = q at *
    have h0I : ((q : Int) != 0) = true := by rw [bne_iff_ne]; omega
    clear h0
    go_wp2_with (first
      | (refine wpList_build_has (by rfl) 37 #[] rfl (entC ent0) (by simpa using ent_built0) ?_)
      | (refine wpList_store_has (by rfl) 37 _ _ rfl (w.heap.size + 1) rfl (entC ent0) rfl 37 (entC ent0) (ent_size _) rfl (ent_one _) ?hg ?_; (case hg => exact hR)))
    exact ret_has_tmp rfl (w.heap.size + 1) rfl 37 (entC ent0) _ Try.underlying37 rfl (ent_size _) hz rfl ⟨by rw [hM.out]; rfl, hbz⟩
end Go.Proofs.Ytphlfepgaghhhaa
