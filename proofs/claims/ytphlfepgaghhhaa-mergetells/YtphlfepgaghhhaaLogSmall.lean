/- The contracts of pglog's position, last, follows, isTail. -/
import Derived.Test.YtphlfepgaghhhaaLogEq
import Derived.Test.YtphlfepgaghhhaaLandDo
import Derived.Test.YtphlfepgaghhhaaOpenObj
namespace Go.Proofs.Ytphlfepgaghhhaa
set_option linter.unusedSimpArgs false
set_option linter.unusedVariables false
set_option maxRecDepth 100000
open Go.RowKit

theorem alloc_size (w : World) (o : Obj) : (w.alloc o).heap.size = w.heap.size + 1 := by simp
theorem one_var (w : World) (t : TypeId) (c : Array Value) : ∃ W, w.alloc (.cells c t) = W ∧ Has W w.heap.size t c ∧ Below w.heap.size w W :=
  ⟨_, rfl, Has.new _ _ _, (Below.refl _ _).alloc (Nat.le_refl _) _⟩
theorem two_vars (w : World) (t1 t2 : TypeId) (c1 c2 : Array Value) : ∃ W, (w.alloc (.cells c1 t1)).alloc (.cells c2 t2) = W ∧ Has W w.heap.size t1 c1 ∧ Has W (w.heap.size + 1) t2 c2 ∧ Below w.heap.size w W := by
  refine ⟨_, rfl, (Has.new _ _ _).alloc _, ?_, ((Below.refl _ _).alloc (Nat.le_refl _) _).alloc (by simp) _⟩
  have := Has.new (w.alloc (.cells c1 t1)) t2 c2
  simpa using this
theorem three_vars (w : World) (t1 t2 t3 : TypeId) (c1 c2 c3 : Array Value) : ∃ W, ((w.alloc (.cells c1 t1)).alloc (.cells c2 t2)).alloc (.cells c3 t3) = W ∧ Has W w.heap.size t1 c1 ∧ Has W (w.heap.size + 1) t2 c2 ∧ Has W (w.heap.size + 1 + 1) t3 c3 ∧ Below w.heap.size w W := by
  refine ⟨_, rfl, ((Has.new _ _ _).alloc _).alloc _, ?_, ?_, (((Below.refl _ _).alloc (Nat.le_refl _) _).alloc (by simp) _).alloc (by simp; omega) _⟩
  · have := (Has.new (w.alloc (.cells c1 t1)) t2 c2).alloc (.cells c3 t3)
    simpa using this
  · have := Has.new ((w.alloc (.cells c1 t1)).alloc (.cells c2 t2)) t3 c3
    simpa using this
/-- A new variable that is filled at once. -/
theorem new_var (w : World) (t : TypeId) (z c : Array Value) : ∃ W, (w.alloc (.cells z t)).setRow w.heap.size c = W ∧ Has W w.heap.size t c ∧ Below w.heap.size w W :=
  ⟨_, rfl, (Has.new w t z).row _, below_setRow ((Below.refl _ _).alloc (Nat.le_refl _) _) (Nat.le_refl _) _⟩

theorem position_any (e : EntV) (w : World) : Calls Try.prog 64 #[.agg (entC e)] w fun en w' => en = .returned (.agg (entC (posE e))) ∧ Below w.heap.size w w' := by
  obtain ⟨w1, hw1, hE, hR, hb⟩ := two_vars w 37 37 (entC e) (entC ent0)
  have c0 := hE.ent_since
  have c1 := hE.ent_n
  have hz := hR.row (entC (posE e))
  have hbz := below_setRow hb (show w.heap.size ≤ w.heap.size + 1 by omega) (entC (posE e))
  go_enter Try.func64, Try.ntmps64
  go_wp2_with (first
    | (refine wpList_alloc_has (by rfl) 37 rfl (entC ent0) ent_zero ?_; rw [hw1])
    | (refine wpList_build_two (by rfl) 37 0 1 _ _ rfl (.int .u32 (e.since : Int)) (.int .u32 (e.n : Int)) rfl rfl (entC (posE e)) (pos_built e.since e.n) ?_)
    | (refine wpList_store_has (by rfl) 37 _ _ rfl (w.heap.size + 1) rfl (entC (posE e)) rfl 37 (entC ent0) (ent_size _) rfl (ent_one _) ?hg ?_; (case hg => exact hR)))
  exact ret_has rfl (w.heap.size + 1) rfl 37 (entC (posE e)) _ Try.underlying37 rfl (ent_size _) hz rfl ⟨rfl, hbz⟩

set_option maxHeartbeats 2000000 in
theorem last_any (t : EntV) (ao : Option Addr) (c : Nat) (l : List EntV) (w : World) (h : Sl w ao c 8 (entR l)) (hl : l.length ≤ 100000) :
    Calls Try.prog 42 #[.agg (entC t), .slice ao l.length c] w fun en w' => en = .returned (.agg (entC (lastE t l))) ∧ Below w.heap.size w w' := by
  obtain ⟨w1, hw1, hE, hR, hb⟩ := two_vars w 37 37 (entC t) (entC ent0)
  have hS := h.later hb
  induction l using snoc_ind with
  | h0 =>
    have hz := hR.row (entC t)
    have hbz := below_setRow hb (show w.heap.size ≤ w.heap.size + 1 by omega) (entC t)
    go_enter Try.func42, Try.ntmps42
    go_wp2_with (first
      | (refine wpList_alloc_has (by rfl) 37 rfl (entC ent0) ent_zero ?_; rw [hw1])
      | (refine wpList_load_has (by rfl) 37 _ rfl w.heap.size rfl 37 (entC t) _ Try.underlying37 rfl (ent_size _) ?hg ?_; (case hg => exact hE))
      | (refine wpList_store_has (by rfl) 37 _ _ rfl (w.heap.size + 1) rfl (entC t) rfl 37 (entC ent0) (ent_size _) rfl (ent_one _) ?hg ?_; (case hg => exact hR)))
    exact ret_has rfl (w.heap.size + 1) rfl 37 (entC t) _ Try.underlying37 rfl (ent_size _) hz rfl ⟨rfl, hbz⟩
  | h1 l x _ =>
    cases ao with
    | none => have := h.nil rfl; have := h.ent_le; simp at this; omega
    | some ad =>
      have hx := ent_at hS l.length (by simp)
      simp only [List.getElem_concat_length] at hx
      have hle := h.ent_le
      have hcap := h.cap
      have hlast : Hid _ := lastE_snoc t l x
      rw [List.length_append, List.length_singleton] at *
      generalize l.length = m at *
      clear hS h
      have hm : ¬ ((m : Int) + 1 = 0) := by omega
      have hm2 : (m : Int) < (m : Int) + 1 := by omega
      go_enter Try.func42, Try.ntmps42
      go_wp2_with (first
        | (refine wpList_alloc_has (by rfl) 37 rfl (entC ent0) ent_zero ?_; rw [hw1])
        | (refine wpList_load_any (by rfl) 37 _ rfl _ rfl (entL x) _ ?hg Try.underlying37 rfl (ent_size x) ?_; (case hg => exact hx)))
      refine (position_any x _).mono ?_
      rintro en w2 ⟨rfl, hq⟩
      have hR2 := hR.later hq
      have hb2 := hb.trans (hq.mono hb.size)
      have hz := hR2.row (entC (posE x))
      have hbz := below_setRow hb2 (show w.heap.size ≤ w.heap.size + 1 by omega) (entC (posE x))
      go_wp2_with (first
        | (refine wpList_store_has (by rfl) 37 _ _ rfl (w.heap.size + 1) rfl (entC (posE x)) rfl 37 (entC ent0) (ent_size _) rfl (ent_one _) ?hg ?_; (case hg => exact hR2)))
      exact ret_has rfl (w.heap.size + 1) rfl 37 (entC (posE x)) _ Try.underlying37 rfl (ent_size _) hz rfl ⟨by rw [hlast.out], hbz⟩

theorem follows_no {p e : EntV} (h : writesM e.op = false ∨ ¬ e.n = p.n + 1 ∨ ¬ p.since ≤ e.since ∨ ¬ e.since ≤ 60) : followsM p e = false := by
  cases hf : followsM p e with
  | false => rfl
  | true =>
    obtain ⟨a, b, c, d⟩ := follows_is.1 hf
    rcases h with h | h | h | h
    · rw [a] at h; cases h
    · exact absurd b h
    · exact absurd c h
    · exact absurd d h

set_option maxHeartbeats 4000000 in
theorem follows_any (p e : EntV) (w : World) (hp : EntOk p) (he : EntOk e) : Calls Try.prog 43 #[.agg (entC p), .agg (entC e)] w fun en w' => en = .returned (.bool (followsM p e)) ∧ Below w.heap.size w w' := by
  obtain ⟨w1, hw1, hP, hE, hb⟩ := two_vars w 37 37 (entC p) (entC e)
  have ho := hE.ent_op
  go_enter Try.func43, Try.ntmps43
  go_wp2_with (first
    | (refine wpList_load_mid' (by rfl) 35 _ rfl (w.heap.size + 1) 2 rfl (opL e.op) _ ?hg Try.underlying35 rfl (op_size _) ?_; (case hg => exact ho)))
  refine (writes_any e.op _ he.op).mono ?_
  rintro en w2 ⟨rfl, hq⟩
  replace hP := hP.later hq
  replace hE := hE.later hq
  replace hb := hb.trans (hq.mono hb.size)
  have e0 := hE.ent_since
  have e1 := hE.ent_n
  have p0 := hP.ent_since
  have p1 := hP.ent_n
  have b1 := he.since
  have b2 := he.n
  have b3 := hp.since
  have b4 := hp.n
  clear hP hE hq ho hw1
  have hno := fun h => follows_no (p := p) (e := e) h
  have hyes := fun h => (follows_is (p := p) (e := e)).2 h
  generalize writesM e.op = wr at *
  generalize e.since = es at *
  generalize p.since = ps at *
  generalize e.n = n at *
  generalize p.n = m at *
  cases wr with
  | false =>
    have hF : Hid _ := hno (.inl rfl)
    go_wp2
    go_ret
    exact ⟨by rw [hF.out]; rfl, hb⟩
  | true =>
    cases n with
    | zero =>
      have hF : Hid _ := hno (.inr (.inl (by omega)))
      go_wp2
      go_ret
      exact ⟨by rw [hF.out]; rfl, hb⟩
    | succ n =>
      have i1 : ((n : Int) + 1 != 0) = true := by rw [bne_iff_ne]; omega
      have i2 : (n : Int) < 4294967296 := by omega
      by_cases h1 : n = m
      · subst h1
        by_cases h2 : ps ≤ es
        · have h2I : (ps : Int) ≤ (es : Int) := by omega
          by_cases h3 : es ≤ 60
          · have h3I : (es : Int) ≤ 60 := by omega
            have hF : Hid _ := hyes ⟨rfl, rfl, h2, h3⟩
            go_wp2
            go_ret
            exact ⟨by rw [hF.out]; rfl, hb⟩
          · have h3I : decide ((es : Int) ≤ 60) = false := by rw [decide_eq_false_iff_not]; omega
            have hF : Hid _ := hno (.inr (.inr (.inr h3)))
            go_wp2
            go_ret
            exact ⟨by rw [hF.out]; rfl, hb⟩
        · have h2I : ¬ (ps : Int) ≤ (es : Int) := by omega
          have hF : Hid _ := hno (.inr (.inr (.inl h2)))
          go_wp2
          go_ret
          exact ⟨by rw [hF.out]; rfl, hb⟩
      · have h1I : ((n : Int) == (m : Int)) = false := by rw [beq_eq_false_iff_ne]; omega
        have h1N : (n == m) = false := by rw [beq_eq_false_iff_ne]; omega
        have hF : Hid _ := hno (.inr (.inl (by omega)))
        go_wp2
        go_ret
        exact ⟨by rw [hF.out]; rfl, hb⟩

theorem zero_op_in {t : EntV} : same tEnt t (posE t) = isZeroOp t.op := by
  rw [Bool.eq_iff_iff, same_is, isZero_is]
  obtain ⟨a, b, c⟩ := t
  unfold posE
  simp

set_option maxHeartbeats 4000000 in
theorem isTail_any (t : EntV) (w : World) (ht : EntOk t) : Calls Try.prog 48 #[.agg (entC t)] w fun en w' => en = .returned (.bool (isTailM t)) ∧ Below w.heap.size w w' := by
  obtain ⟨w1, hw1, hT, hb⟩ := one_var w 37 (entC t)
  have e0 := hT.ent_since
  have hpo : EntOk (posE t) := ⟨ht.since, ht.n, op0_ok⟩
  have heq := eqv_ent t (posE t) ht hpo
  rw [zero_op_in] at heq
  have hM : Hid (isTailM t = (decide (t.since ≤ 60) && isZeroOp t.op)) := rfl
  have hbA : Below w1.heap.size w1 w1.drew := (Below.refl _ _).drew
  have hTA := hT.drew
  go_enter Try.func48, Try.ntmps48
  go_wp2
  refine wp_region_plan (fun W => Below w1.heap.size w1 W) (Plan.of [(0, true), (1, true), (2, true), (3, true), (4, true), (5, true), (6, false), (7, true), (8, true), (9, true)] .done) (by kernel_rfl) (by kernel_rfl) (by kernel_rfl) (by kernel_rfl) hbA ?_
  iterate 1
    first
      | (refine plan_pass _ rfl (by rfl) ?_)
      | (refine plan_take _ _ rfl (.inl ⟨by rfl, fun W hS => by clear hS; go_simp; try with_reducible rfl⟩) ?_)
    try simp only [Act.put, List.setIfInBounds_toArray, List.set_cons_zero, List.set_cons_succ]
  iterate 1
    first
      | (refine plan_pass _ rfl (by rfl) ?_)
      | (refine plan_take _ _ rfl (.inl ⟨by rfl, fun W hS => by have z0 := (hT.later hS).ent_since; go_simp; try with_reducible rfl⟩) ?_)
    try simp only [Act.put, List.setIfInBounds_toArray, List.set_cons_zero, List.set_cons_succ]
  by_cases h : t.since ≤ 60
  · have hI : (t.since : Int) ≤ 60 := by omega
    refine plan_take _ (.bool true) rfl (.inl ⟨by rfl, fun W hS => by clear hS; go_simp; try with_reducible rfl⟩) ?_
    try simp only [Act.put, List.setIfInBounds_toArray, List.set_cons_zero, List.set_cons_succ]
    iterate 1
      first
        | (refine plan_pass _ rfl (by rfl) ?_)
        | (refine plan_take _ _ rfl (.inl ⟨by rfl, fun W hS => by clear hS; go_simp; try with_reducible rfl⟩) ?_)
      try simp only [Act.put, List.setIfInBounds_toArray, List.set_cons_zero, List.set_cons_succ]
    refine plan_take _ _ rfl (yields_load_has (by rfl) 37 _ rfl w.heap.size rfl 37 (entC t) _ Try.underlying37 rfl (ent_size _) (fun W hW => hT.later hW)) ?_
    try simp only [Act.put, List.setIfInBounds_toArray, List.set_cons_zero, List.set_cons_succ]
    refine plan_take _ _ rfl (yields_load_has (by rfl) 37 _ rfl w.heap.size rfl 37 (entC t) _ Try.underlying37 rfl (ent_size _) (fun W hW => hT.later hW)) ?_
    try simp only [Act.put, List.setIfInBounds_toArray, List.set_cons_zero, List.set_cons_succ]
    refine plan_run _ rfl (fun K hK => ?_)
    go_simp
    refine (position_any t _).mono ?_
    rintro en w2 ⟨rfl, hq⟩
    have hb2 : Below w1.heap.size w1 w2 := hbA.trans (hq.mono hbA.size)
    refine hK.out _ _ hb2 ?_
    clear hK K hq
    try simp only [Act.put, List.setIfInBounds_toArray, List.set_cons_zero, List.set_cons_succ]
    refine plan_take _ _ rfl (yields_bin_agg (by rfl) .eql 37 _ _ _ rfl (entC t) (entC (posE t)) rfl rfl (.bool (isZeroOp t.op)) guard_ent heq) ?_
    try simp only [Act.put, List.setIfInBounds_toArray, List.set_cons_zero, List.set_cons_succ]
    refine plan_take _ (.bool (isZeroOp t.op)) rfl (.inl ⟨by rfl, fun W hS => by clear hS; go_simp; try with_reducible rfl⟩) ?_
    try simp only [Act.put, List.setIfInBounds_toArray, List.set_cons_zero, List.set_cons_succ]
    iterate 1
      first
        | (refine plan_pass _ rfl (by rfl) ?_)
        | (refine plan_take _ _ rfl (.inl ⟨by rfl, fun W hS => by clear hS; go_simp; try with_reducible rfl⟩) ?_)
      try simp only [Act.put, List.setIfInBounds_toArray, List.set_cons_zero, List.set_cons_succ]
    refine plan_done ?_
    go_wp2
    go_ret
    exact ⟨by rw [hM.out, decide_eq_true h]; rfl, hb.trans (hb2.mono hb.size)⟩
  · have hI : ¬ (t.since : Int) ≤ 60 := by omega
    refine plan_take _ (.bool false) rfl (.inl ⟨by rfl, fun W hS => by clear hS; go_simp; try with_reducible rfl⟩) ?_
    try simp only [Act.put, List.setIfInBounds_toArray, List.set_cons_zero, List.set_cons_succ]
    iterate 3
      first
        | (refine plan_pass _ rfl (by rfl) ?_)
        | (refine plan_take _ _ rfl (.inl ⟨by rfl, fun W hS => by clear hS; go_simp; try with_reducible rfl⟩) ?_)
      try simp only [Act.put, List.setIfInBounds_toArray, List.set_cons_zero, List.set_cons_succ]
    refine plan_run _ rfl (fun K hK => ?_)
    go_simp
    refine hK.out _ _ hbA ?_
    clear hK K
    try simp only [Act.put, List.setIfInBounds_toArray, List.set_cons_zero, List.set_cons_succ]
    iterate 3
      first
        | (refine plan_pass _ rfl (by rfl) ?_)
        | (refine plan_take _ _ rfl (.inl ⟨by rfl, fun W hS => by clear hS; go_simp; try with_reducible rfl⟩) ?_)
      try simp only [Act.put, List.setIfInBounds_toArray, List.set_cons_zero, List.set_cons_succ]
    refine plan_done ?_
    go_wp2
    go_ret
    exact ⟨by rw [hM.out, decide_eq_false h]; rfl, hb.trans (hbA.mono hb.size)⟩
end Go.Proofs.Ytphlfepgaghhhaa
