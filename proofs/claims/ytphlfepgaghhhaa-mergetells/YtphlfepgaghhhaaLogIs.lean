/- The contracts of pglog's isLog and Is. -/
import Derived.Test.YtphlfepgaghhhaaLogBase
namespace Go.Proofs.Ytphlfepgaghhhaa
set_option linter.unusedSimpArgs false
set_option linter.unusedVariables false
set_option maxRecDepth 100000
open Go.RowKit

theorem lastE_ok {t : EntV} {l : List EntV} (ht : EntOk t) (hl : ∀ e ∈ l, EntOk e) : EntOk (lastE t l) := by
  induction l using snoc_ind with
  | h0 => exact ht
  | h1 l x _ =>
    rw [lastE_snoc]
    have := hl x (by simp)
    exact ⟨this.since, this.n, op0_ok⟩
theorem chain_take (t : EntV) (l : List EntV) (n : Nat) (h : n < l.length) : chainM t (l.take (n + 1)) = (chainM t (l.take n) && followsM (lastE t (l.take n)) l[n]) := by
  rw [List.take_succ_eq_append_getElem h, chain_snoc]
theorem chain_no (t : EntV) (l : List EntV) (n : Nat) (h : chainM t (l.take n) = false) : chainM t l = false := by
  have : chainM t (l.take n ++ l.drop n) = false := by rw [chain_app, h]; rfl
  rw [List.take_append_drop] at this
  exact this

set_option maxHeartbeats 4000000 in
theorem isLog_any (t : EntV) (ao : Option Addr) (c : Nat) (l : List EntV) (w : World) (ht : EntOk t) (h : Sl w ao c 8 (entR l)) (hl : ∀ e ∈ l, EntOk e) (hn : l.length ≤ 1000) :
    Calls Try.prog 50 #[.agg (entC t), .slice ao l.length c] w fun en w' => en = .returned (.bool (isLogM t l)) ∧ Below w.heap.size w w' := by
  obtain ⟨w1, hw1, hT, hb⟩ := one_var w 37 (entC t)
  have hle := h.ent_le
  have hcap := h.cap
  by_cases h6 : l.length ≤ 6
  · have hI : ¬ (6 < (l.length : Int)) := by omega
    have hM : Hid (isLogM t l = chainM t l) := by unfold isLogM; rw [decide_eq_true h6]; rfl
    go_enter Try.func50, Try.ntmps50
    go_wp2
    go_loopw [12] (fun i wr => ∃ n : Nat, n ≤ l.length ∧ i = .int .i64 n ∧ Has wr w.heap.size 37 (entC t) ∧ Below w.heap.size w wr ∧ chainM t (l.take n) = true) (fun i _ => l.length - (intOf i).toNat)
    case atStart => exact ⟨0, Nat.zero_le _, rfl, hT, hb, rfl⟩
    case round =>
      clear hT hb
      obtain ⟨n, hn, rfl, hT, hb, hc⟩ := hrel
      by_cases hlt : n < l.length
      · cases ao with
        | none => have := h.nil rfl; omega
        | some ad =>
          have hx := ent_at (h.later hb) n hlt
          have hxo := hl l[n] (List.getElem_mem hlt)
          have hlo := lastE_ok ht (l := l.take n) (fun e he => hl e (List.mem_of_mem_take he))
          have hlast := fun W (hW : Below w.heap.size w W) => last_any t (some ad) c (l.take n) W ((h.later hW).take n) (by rw [List.length_take]; omega)
          rw [List.length_take, Nat.min_eq_left (by omega)] at hlast
          have hhead := fun W => run_head W (some ad) l.length c n (by omega)
          have hnext : Hid _ := chain_take t l n hlt
          have hno : Hid _ := chain_no t l (n + 1)
          rw [hc] at hnext
          replace hc : Hid _ := hc
          have hltI : (n : Int) < (l.length : Int) := by omega
          generalize l[n] = x at *
          generalize lastE t (l.take n) = p at *
          have hfol := fun W => follows_any p x W hlo hxo
          obtain ⟨w3, hw3, hX, hq⟩ := new_var wr 37 (entC ent0) (entC x)
          replace hT := hT.later hq
          replace hb := hb.trans (hq.mono hb.size)
          clear hq
          go_wp2_with (first
            | (refine wpList_load_any (by rfl) 37 _ rfl _ rfl (entL x) _ ?hg Try.underlying37 rfl (ent_size x) ?_; (case hg => exact hx))
            | (refine wpList_alloc_has (by rfl) 37 rfl (entC ent0) ent_zero ?_)
            | (refine wpList_store_to (by rfl) 37 _ _ rfl wr.heap.size rfl (entC x) rfl 37 (entC ent0) (ent_size _) rfl (ent_one _) ?hg w3 ?hW ?_; (case hg => exact Has.new _ _ _); (case hW => exact hw3); clear hw3))
          have hbA : Below w3.heap.size w3 w3.drew := (Below.refl _ _).drew
          refine wp_region_plan (fun W => Below w3.heap.size w3 W) (Plan.of [(0, true), (1, true), (2, true), (3, true), (5, true), (4, false), (6, false), (7, true)] .done) (by kernel_rfl) (by kernel_rfl) (by kernel_rfl) (by kernel_rfl) hbA ?_
          refine plan_take _ _ rfl (yields_load_has (by rfl) 37 _ rfl w.heap.size rfl 37 (entC t) _ Try.underlying37 rfl (ent_size _) (fun W hW => hT.later hW)) ?_
          try simp only [Act.put, List.setIfInBounds_toArray, List.set_cons_zero, List.set_cons_succ]
          iterate 2
            first
              | (refine plan_pass _ rfl (by rfl) ?_)
              | (refine plan_take _ _ rfl (.inl ⟨by rfl, fun W hS => by clear hS; go_simp; try with_reducible rfl⟩) ?_)
            try simp only [Act.put, List.setIfInBounds_toArray, List.set_cons_zero, List.set_cons_succ]
          refine plan_take _ (.slice (some ad) n c) rfl (.inl ⟨by rfl, fun W hS => by clear hS; have z := hhead W; go_simp; try with_reducible rfl⟩) ?_
          try simp only [Act.put, List.setIfInBounds_toArray, List.set_cons_zero, List.set_cons_succ]
          refine plan_take _ _ rfl (yields_load_has (by rfl) 37 _ rfl wr.heap.size rfl 37 (entC x) _ Try.underlying37 rfl (ent_size _) (fun W hW => hX.later hW)) ?_
          try simp only [Act.put, List.setIfInBounds_toArray, List.set_cons_zero, List.set_cons_succ]
          refine plan_run _ rfl (fun K hK => ?_)
          go_simp
          refine (hlast _ (hb.drew)).mono ?_
          rintro en w4 ⟨rfl, hq⟩
          have hb4 : Below w3.heap.size w3 w4 := hbA.trans (hq.mono hbA.size)
          refine hK.out _ _ hb4 ?_
          clear hK K hq
          try simp only [Act.put, List.setIfInBounds_toArray, List.set_cons_zero, List.set_cons_succ]
          refine plan_run _ rfl (fun K hK => ?_)
          go_simp
          refine (hfol _).mono ?_
          rintro en w5 ⟨rfl, hq⟩
          have hb5 : Below w3.heap.size w3 w5 := hb4.trans (hq.mono hb4.size)
          refine hK.out _ _ hb5 ?_
          clear hK K hq hb4 hfol
          try simp only [Act.put, List.setIfInBounds_toArray, List.set_cons_zero, List.set_cons_succ]
          replace hT := hT.later hb5
          replace hb := hb.trans (hb5.mono hb.size)
          clear hb5 hbA hX hx hlast
          cases hf : followsM p x with
          | false =>
            rw [hf] at hnext
            have hF : Hid _ := hno.out hnext.out
            refine plan_take _ (.bool true) rfl (.inl ⟨by rfl, fun W hS => by clear hS; go_simp; try with_reducible rfl⟩) ?_
            try simp only [Act.put, List.setIfInBounds_toArray, List.set_cons_zero, List.set_cons_succ]
            refine plan_done ?_
            go_wp2
            go_ret
            exact ⟨by rw [hM.out, hF.out]; rfl, hb⟩
          | true =>
            rw [hf] at hnext
            refine plan_take _ (.bool false) rfl (.inl ⟨by rfl, fun W hS => by clear hS; go_simp; try with_reducible rfl⟩) ?_
            try simp only [Act.put, List.setIfInBounds_toArray, List.set_cons_zero, List.set_cons_succ]
            refine plan_done ?_
            go_wp2
            go_roundw
            case rel => exact ⟨n + 1, by omega, by go_num, hT, hb, hnext.out⟩
            case measure => simp [intOf]; omega
      · have e5 : n = l.length := by omega
        subst e5
        rw [List.take_length] at hc
        replace hc : Hid _ := hc
        go_wp2
        go_ret
        exact ⟨by rw [hM.out, hc.out]; rfl, hb⟩
  · have hI : 6 < (l.length : Int) := by omega
    have hM : Hid (isLogM t l = false) := by unfold isLogM; rw [decide_eq_false h6]; rfl
    go_enter Try.func50, Try.ntmps50
    go_wp2
    go_ret
    exact ⟨by rw [hM.out]; rfl, hb⟩

theorem is_parts (s : StV) : isM s = (decide (s.started ≤ 60) && (isTailM s.tail && (isBaseM s.base && isLogM s.tail s.log))) := rfl

set_option maxHeartbeats 4000000 in
theorem is_any (s : StV) (ao : Option Addr) (c : Nat) (w : World) (hs : StOk s) (h : Sl w ao c 8 (entR s.log)) : Calls Try.prog 15 #[.agg (stC s ao c)] w fun en w' => en = .returned (.bool (isM s)) ∧ Below w.heap.size w w' := by
  obtain ⟨w1, hw1, hX, hb⟩ := one_var w 40 (stC s ao c)
  have hM : Hid _ := is_parts s
  have c0 := hX.st_started
  have h0 := hs.started
  have hle := h.ent_le
  have hcap := h.cap
  by_cases h1 : s.started ≤ 60
  · have h1I : (s.started : Int) ≤ 60 := by omega
    rw [decide_eq_true h1] at hM
    have ht := hX.st_tail
    go_enter Try.func15, Try.ntmps15
    go_wp2_with (first
      | (refine wpList_load_mid' (by first | rfl | simp [Region.wanted, yielded]) 37 _ rfl w.heap.size 40 rfl (entL s.tail) _ ?hg Try.underlying37 rfl (ent_size _) ?_; (case hg => exact ht)))
    refine (isTail_any s.tail _ hs.tail).mono ?_
    rintro en w2 ⟨rfl, hq⟩
    replace hX := hX.later hq
    replace hb := hb.trans (hq.mono hb.size)
    have hB := hX.st_base
    clear hq c0 ht
    cases h2 : isTailM s.tail with
    | false =>
      rw [h2] at hM
      go_wp2
      go_ret
      exact ⟨by rw [hM.out]; rfl, hb⟩
    | true =>
      rw [h2] at hM
      go_wp2_with (first
        | (refine wpList_load_mid' (by first | rfl | simp [Region.wanted, yielded]) 33 _ rfl w.heap.size 1 rfl (baseL s.base) _ ?hg Try.underlying33 rfl (base_size _) ?_; (case hg => exact hB)))
      refine (isBase_any s.base _ hs.base).mono ?_
      rintro en w3 ⟨rfl, hq⟩
      replace hX := hX.later hq
      replace hb := hb.trans (hq.mono hb.size)
      have ht := hX.st_tail
      have hl := hX.st_log
      clear hq hB
      cases h3 : isBaseM s.base with
      | false =>
        rw [h3] at hM
        go_wp2
        go_ret
        exact ⟨by rw [hM.out]; rfl, hb⟩
      | true =>
        rw [h3] at hM
        go_wp2_with (first
          | (refine wpList_load_mid' (by first | rfl | simp [Region.wanted, yielded]) 37 _ rfl w.heap.size 40 rfl (entL s.tail) _ ?hg Try.underlying37 rfl (ent_size _) ?_; (case hg => exact ht)))
        refine (isLog_any s.tail ao c s.log _ hs.tail (h.later hb) hs.log hs.len).mono ?_
        rintro en w4 ⟨rfl, hq⟩
        replace hb := hb.trans (hq.mono hb.size)
        clear hq
        go_wp2
        go_ret
        exact ⟨by rw [hM.out]; rfl, hb⟩
  · have h1I : ¬ (s.started : Int) ≤ 60 := by omega
    rw [decide_eq_false h1] at hM
    go_enter Try.func15, Try.ntmps15
    go_wp2
    go_ret
    exact ⟨by rw [hM.out]; rfl, hb⟩
end Go.Proofs.Ytphlfepgaghhhaa
