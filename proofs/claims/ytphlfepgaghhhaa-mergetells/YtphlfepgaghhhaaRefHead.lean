/- The contract of the document's Head. -/
import Derived.Test.YtphlfepgaghhhaaRefState
import Derived.Test.YtphlfepgaghhhaaLogFace
namespace Go.Proofs.Ytphlfepgaghhhaa
set_option linter.unusedSimpArgs false
set_option linter.unusedVariables false
set_option maxRecDepth 100000
open Go.RowKit

set_option maxHeartbeats 4000000 in
theorem refhead_any (s : StV) (ao : Option Addr) (c : Nat) (w : World) (hs : StOk s) (h : Sl w ao c 8 (entR s.log)) :
    Calls Try.prog 12 #[.agg (stC s ao c)] w fun en w' => en = .returned (.tuple #[.int .u32 ((headM s).1 : Int), .int .u32 ((headM s).2 : Int)]) ∧ Below w.heap.size w w' := by
  obtain ⟨w1, hw1, hX, hb⟩ := one_var w 40 (stC s ao c)
  have hlen := hs.len
  have hle := h.ent_le
  have hcap := h.cap
  go_enter Try.func12, Try.ntmps12
  go_wp2_with (first
    | (refine wpList_load_has (by rfl) 40 _ rfl w.heap.size rfl 40 (stC s ao c) _ Try.underlying40 rfl (st_size _ _ _) ?hg ?_; (case hg => exact hX)))
  refine (refis_any s ao c _ hs (h.later hb)).mono ?_
  rintro en w2 ⟨rfl, hq⟩
  replace hX := hX.later hq
  replace hb := hb.trans (hq.mono hb.size)
  clear hq hw1
  cases hi : isM s with
  | false =>
    have hM : Hid _ := head_no hi
    go_wp2
    go_ret2
    exact ⟨by rw [hM.out]; rfl, hb⟩
  | true =>
    have hM : Hid _ := head_yes hi
    rw [head_n] at hM
    have hl := hX.st_log
    by_cases h0 : s.log.length = 0
    · have h0I : (s.log.length : Int) = 0 := by omega
      rw [List.eq_nil_of_length_eq_zero h0] at hM
      have hbA : Below w2.heap.size w2 w2.drew := (Below.refl _ _).drew
      go_wp2
      refine wp_region_plan (fun W => Below w2.heap.size w2 W) (Plan.of [(0, true), (1, true), (2, true), (3, true), (4, true), (5, true), (6, true), (7, true)] .done) (by kernel_rfl) (by kernel_rfl) (by kernel_rfl) (by kernel_rfl) hbA ?_
      iterate 2
        first
          | (refine plan_pass _ rfl (by rfl) ?_)
          | (refine plan_take _ _ rfl (.inl ⟨by rfl, fun W hS => by clear hS; go_simp; try with_reducible rfl⟩) ?_)
        try simp only [Act.put, List.setIfInBounds_toArray, List.set_cons_zero, List.set_cons_succ]
      iterate 1
        first
          | (refine plan_pass _ rfl (by rfl) ?_)
          | (refine plan_take _ _ rfl (.inl ⟨by rfl, fun W hS => by have z0 := (hX.later hS).st_tail_since; go_simp; try with_reducible rfl⟩) ?_)
        try simp only [Act.put, List.setIfInBounds_toArray, List.set_cons_zero, List.set_cons_succ]
      iterate 2
        first
          | (refine plan_pass _ rfl (by rfl) ?_)
          | (refine plan_take _ _ rfl (.inl ⟨by rfl, fun W hS => by clear hS; go_simp; try with_reducible rfl⟩) ?_)
        try simp only [Act.put, List.setIfInBounds_toArray, List.set_cons_zero, List.set_cons_succ]
      iterate 1
        first
          | (refine plan_pass _ rfl (by rfl) ?_)
          | (refine plan_take _ _ rfl (.inl ⟨by rfl, fun W hS => by have z0 := (hX.later hS).st_tail_n; go_simp; try with_reducible rfl⟩) ?_)
        try simp only [Act.put, List.setIfInBounds_toArray, List.set_cons_zero, List.set_cons_succ]
      iterate 2
        first
          | (refine plan_pass _ rfl (by rfl) ?_)
          | (refine plan_take _ _ rfl (.inl ⟨by rfl, fun W hS => by clear hS; go_simp; try with_reducible rfl⟩) ?_)
        try simp only [Act.put, List.setIfInBounds_toArray, List.set_cons_zero, List.set_cons_succ]
      refine plan_done ?_
      go_wp2
      go_ret2
      exact ⟨by rw [hM.out]; rfl, hb.trans (hbA.mono hb.size)⟩
    · have h0I : ¬ (s.log.length : Int) = 0 := by omega
      cases ao with
      | none => have := h.nil rfl; omega
      | some ad =>
        obtain ⟨m, hm⟩ : ∃ m, s.log.length = m + 1 := ⟨s.log.length - 1, by omega⟩
        have hlt : m < s.log.length := by omega
        have hx := ent_at (h.later hb) m hlt
        have hE : Hid (lastE s.tail s.log = posE s.log[m]) := by
          show _ = _
          conv => lhs; rw [show s.log = s.log.take m ++ [s.log[m]] by rw [← List.take_succ_eq_append_getElem hlt, List.take_of_length_le (by omega)]]
          rw [lastE_snoc]
        have hmI : (s.log.length : Int) - 1 = (m : Int) := by omega
        have hmJ : (m : Int) < (s.log.length : Int) := by omega
        rw [hE.out] at hM
        clear hm h0 hE
        generalize s.log[m] = x at *
        obtain ⟨w3, hw3, hE, hq⟩ := new_var w2 37 (entC ent0) (entC x)
        replace hb := hb.trans (hq.mono hb.size)
        clear hq
        go_wp2_with (first
          | (refine wpList_load_any (by rfl) 37 _ rfl _ rfl (entL x) _ ?hg Try.underlying37 rfl (ent_size x) ?_; (case hg => exact hx))
          | (refine wpList_alloc_has (by rfl) 37 rfl (entC ent0) ent_zero ?_)
          | (refine wpList_store_to (by rfl) 37 _ _ rfl w2.heap.size rfl (entC x) rfl 37 (entC ent0) (ent_size _) rfl (ent_one _) ?hg w3 ?hW ?_; (case hg => exact Has.new _ _ _); (case hW => exact hw3); clear hw3))
        have hbA : Below w3.heap.size w3 w3.drew := (Below.refl _ _).drew
        refine wp_region_plan (fun W => Below w3.heap.size w3 W) (Plan.of [(0, true), (1, true), (2, true), (3, true), (4, true), (5, true)] .done) (by kernel_rfl) (by kernel_rfl) (by kernel_rfl) (by kernel_rfl) hbA ?_
        iterate 1
          first
            | (refine plan_pass _ rfl (by rfl) ?_)
            | (refine plan_take _ _ rfl (.inl ⟨by rfl, fun W hS => by clear hS; go_simp; try with_reducible rfl⟩) ?_)
          try simp only [Act.put, List.setIfInBounds_toArray, List.set_cons_zero, List.set_cons_succ]
        iterate 1
          first
            | (refine plan_pass _ rfl (by rfl) ?_)
            | (refine plan_take _ _ rfl (.inl ⟨by rfl, fun W hS => by have z0 := (hE.later hS).ent_since; go_simp; try with_reducible rfl⟩) ?_)
          try simp only [Act.put, List.setIfInBounds_toArray, List.set_cons_zero, List.set_cons_succ]
        iterate 1
          first
            | (refine plan_pass _ rfl (by rfl) ?_)
            | (refine plan_take _ _ rfl (.inl ⟨by rfl, fun W hS => by clear hS; go_simp; try with_reducible rfl⟩) ?_)
          try simp only [Act.put, List.setIfInBounds_toArray, List.set_cons_zero, List.set_cons_succ]
        iterate 1
          first
            | (refine plan_pass _ rfl (by rfl) ?_)
            | (refine plan_take _ _ rfl (.inl ⟨by rfl, fun W hS => by have z0 := (hE.later hS).ent_n; go_simp; try with_reducible rfl⟩) ?_)
          try simp only [Act.put, List.setIfInBounds_toArray, List.set_cons_zero, List.set_cons_succ]
        iterate 2
          first
            | (refine plan_pass _ rfl (by rfl) ?_)
            | (refine plan_take _ _ rfl (.inl ⟨by rfl, fun W hS => by clear hS; go_simp; try with_reducible rfl⟩) ?_)
          try simp only [Act.put, List.setIfInBounds_toArray, List.set_cons_zero, List.set_cons_succ]
        refine plan_done ?_
        go_wp2
        go_ret2
        exact ⟨by rw [hM.out]; rfl, hb.trans (hbA.mono hb.size)⟩
end Go.Proofs.Ytphlfepgaghhhaa
