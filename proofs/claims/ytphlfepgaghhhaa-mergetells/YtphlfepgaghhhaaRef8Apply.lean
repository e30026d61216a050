/- The contract of the document's Apply (layer 8). -/
import Derived.Test.YtphlfepgaghhhaaRef8Low
import Derived.Test.YtphlfepgaghhhaaMergeDone
import Derived.Test.YtphlfepgaghhhaaRefMost
namespace Go.Proofs.Ytphlfepgaghhhaa
set_option linter.unusedSimpArgs false
set_option linter.unusedVariables false
set_option maxRecDepth 100000
open Go.RowKit

theorem tail_short (s : StV) (n : Nat) : (entR (tailM s n).1.log).length ≤ (entR s.log).length := by
  rw [entR_len, entR_len]
  unfold tailM
  split
  · show (s.log.drop _).length ≤ _
    rw [List.length_drop]
    omega
  · exact Nat.zero_le _
theorem turned_bare0 {s : StV} {d : DiffV} (h : d.kind = 0) (hb : bareM d = true) : turnedM s d = endedM s d.whole := by
  unfold turnedM
  rw [if_pos h, hb, Bool.and_true]
theorem turned_1 {s : StV} {d : DiffV} (h : d.kind = 1) (hr : (rewM s d.fr d.log).2 = 0) : turnedM s d = endedM (rewM s d.fr d.log).1 d.whole := by
  unfold turnedM
  rw [if_neg (by omega), if_pos h, if_pos hr]
theorem apply_rew {s : StV} {d : DiffV} (h : d.kind = 1) (hr : (rewM s d.fr d.log).2 ≠ 0) : applyM s d = (st0, 80) := by
  refine apply_no (.inr (.inl ?_))
  unfold turnedM
  rw [if_neg (by omega), if_pos h, if_neg hr]
theorem apply_not_bare {s : StV} {d : DiffV} (h : d.kind ≠ 1) (hb : bareM d = false) : applyM s d = (st0, 80) := by
  refine apply_no (.inr (.inl ?_))
  unfold turnedM
  by_cases h0 : d.kind = 0
  · rw [if_pos h0, hb, Bool.and_false]
  · rw [if_neg h0, if_neg h]
    by_cases h2 : d.kind = 2
    · rw [if_pos h2, hb]
    · rw [if_neg h2]
theorem apply_kind {s : StV} {d : DiffV} (h0 : d.kind ≠ 0) (h1 : d.kind ≠ 1) (h2 : d.kind ≠ 2) : applyM s d = (st0, 80) := by
  refine apply_no (.inr (.inl ?_))
  unfold turnedM
  rw [if_neg h0, if_neg h1, if_neg h2]
theorem apply_end {s S : StV} {d : DiffV} (hi : isM s = true) (h : turnedM s d = endedM S d.whole) : (∀ h1 : (tailM S d.whole.tail.n).2 = 0, ∀ h2 : (tailM S d.whole.tail.n).1.tail.since = d.whole.tail.since, isM (startAt (tailM S d.whole.tail.n).1 d.whole.started) = true → applyM s d = (startAt (tailM S d.whole.tail.n).1 d.whole.started, 0)) ∧ ((tailM S d.whole.tail.n).2 ≠ 0 ∨ (tailM S d.whole.tail.n).1.tail.since ≠ d.whole.tail.since ∨ isM (startAt (tailM S d.whole.tail.n).1 d.whole.started) = false → applyM s d = (st0, 80)) := by
  refine ⟨fun h1 h2 h3 => ?_, fun h1 => ?_⟩
  · rw [apply_yes hi (by rw [h]; unfold endedM; rw [decide_eq_true h1, decide_eq_true h2]; rfl) (by rw [h]; exact h3), h]
    rfl
  · refine apply_no (.inr ?_)
    rw [h]
    rcases h1 with h1 | h1 | h1
    · left; unfold endedM; rw [decide_eq_false h1]; rfl
    · left; unfold endedM; rw [decide_eq_false h1, Bool.and_false]
    · right; exact h1

set_option maxHeartbeats 8000000 in
theorem refapply_any (s : StV) (d : DiffV) (ao lo wo : Option Addr) (c lc wc : Nat) (w : World) (hs : StOk s) (hd : DiffOk d) (h : Sl w ao c 8 (entR s.log)) (hl : Sl w lo lc 8 (entR d.log)) (hwl : Sl w wo wc 8 (entR d.whole.log)) :
    Calls Try.prog 34 #[.agg (stC s ao c), .agg (diffC d lo lc wo wc)] w fun en w' => ∃ ro rc, en = .returned (.tuple #[.agg (stC (applyM s d).1 ro rc), .bool (decide ((applyM s d).2 = 0))]) ∧ Sl w' ro rc 8 (entR (applyM s d).1.log) ∧ Below w.heap.size w w' := by
  obtain ⟨w1, hw1, hX, hD, hR, hb⟩ := three_vars w 40 61 40 (stC s ao c) (diffC d lo lc wo wc) (stC st0 none 0)
  go_enter Try.func34, Try.ntmps34
  go_wp2_with (first
    | (refine wpList_alloc_has (by rfl) 40 rfl (stC st0 none 0) st_zero ?_; rw [hw1])
    | (refine wpList_load_has (by rfl) 40 _ rfl (w.heap.size) rfl 40 (stC s ao c) _ Try.underlying40 rfl (st_size _ _ _) ?hg ?_; (case hg => exact hX))
    | fail)
  refine (refis_any s ao c _ hs (h.later hb)).mono ?_
  rintro en w2 ⟨rfl, hq⟩
  replace hX := hX.later hq
  replace hD := hD.later hq
  replace hR := hR.later hq
  replace hb := hb.trans (hq.mono hb.size)
  clear hq hw1
  cases hi : isM s with
  | false =>
    have hM : Hid _ := apply_no (d := d) (.inl hi)
    have hz := hR.row (stC st0 none 0)
    have hbz := below_setRow hb (show w.heap.size ≤ w.heap.size + 1 + 1 by omega) (stC st0 none 0)
    go_wp2_with ((with_reducible refine at_open ?_); first
      | (refine wpList_build_has (by rfl) 40 #[] rfl (stC st0 none 0) (by simpa using st_built0) ?_)
      | (refine wpList_store_has (by rfl) 40 _ _ rfl (w.heap.size + 1 + 1) rfl (stC st0 none 0) rfl 40 (stC st0 none 0) (st_size _ _ _) (st_same _ _ _ _ _ _) (st_one _ _ _) ?hg ?_; (case hg => exact hR))
      | fail)
    refine ret_has_tmp rfl (w.heap.size + 1 + 1) rfl 40 (stC (st0) none 0) _ Try.underlying40 rfl (st_size _ _ _) hz rfl ⟨_, _, by rw [hM.out]; rfl, ?_⟩
    rw [hM.out]
    exact ⟨Sl.nothing _ _, hbz⟩
  | true =>
    have k0 := hD.d_kind
    have k1 := hD.d_from
    have k2 := hD.d_log
    by_cases q1 : d.kind = 1
    · have a0 : ¬ d.kind < 0 := by omega
      have a1 : ¬ 2 < d.kind := by omega
      have a2 : (d.kind == 1) = true := by rw [q1]; rfl
      have a3 : (d.kind == 2) = false := by rw [q1]; rfl
      have a4 : (d.kind != 1) = false := by rw [q1]; rfl
      have hlt0 := hR.lt
      obtain ⟨w3, hw3, hT, hq⟩ := new_var w2 40 (stC st0 none 0) (stC s ao c)
      replace hR := hR.later hq
      replace hD := hD.later hq
      replace hb := hb.trans (hq.mono hb.size)
      clear hq
      have k3 := hD.d_kind
      have k4 := hD.d_from
      go_wp2_with ((with_reducible refine at_open ?_); first
        | (refine wpList_load_has (by rfl) 40 _ rfl (w.heap.size) rfl 40 (stC s ao c) _ Try.underlying40 rfl (st_size _ _ _) ?hg ?_; (case hg => exact hX))
        | (refine wpList_alloc_has (by rfl) 40 rfl (stC st0 none 0) st_zero ?_)
        | (refine wpList_store_to (by rfl) 40 _ _ rfl w2.heap.size rfl (stC s ao c) rfl 40 (stC st0 none 0) (st_size _ _ _) (st_same _ _ _ _ _ _) (st_one _ _ _) ?hg w3 ?hW ?_; (case hg => exact Has.new _ _ _); (case hW => exact hw3); clear hw3)
        | (refine wpList_load_has (by rfl) 40 _ rfl (w2.heap.size) rfl 40 (stC s ao c) _ Try.underlying40 rfl (st_size _ _ _) ?hg ?_; (case hg => exact hT))
        | fail)
      refine (refcut_any s ao c d.fr _ hs (h.later hb) hd.fr).mono ?_
      rintro en w4 ⟨ro, rc, rfl, hG⟩
      have hlt3 := hT.lt
      have hS4 := hG.sl
      have hnew : ∀ e, ro = some e → w2.heap.size < e.block := fun e he => by have := hG.new e he; omega
      replace hT := hT.later hG.below
      replace hR := hR.later hG.below
      replace hD := hD.later hG.below
      replace hb := hb.trans (hG.below.mono hb.size)
      have hlt4 := hT.lt
      have h0 : Hid (rewM s d.fr (d.log.take 0) = cutM s d.fr) := by show _ = _; rw [List.take_zero]; rfl
      have hstop : Hid _ := rew_stop s d.fr d.log 0
      clear hG hX k0 k1 k2 k3 k4
      rw [← h0.out] at hS4
      rw [← h0.out]
      clear h0
      obtain ⟨P, hP⟩ : ∃ P, rewM s d.fr (d.log.take 0) = P := ⟨_, rfl⟩
      rw [hP] at hS4 hstop
      rw [hP]
      replace hP : Hid _ := hP
      obtain ⟨w5, hw5, hV, hq⟩ := new_var w4 40 (stC st0 none 0) (stC P.1 ro rc)
      replace hT := hT.later hq
      replace hR := hR.later hq
      replace hD := hD.later hq
      replace hS4 := hS4.later hq
      replace hb := hb.trans (hq.mono hb.size)
      clear hq
      by_cases hp : P.2 = 0
      · have e0I : ((P.2 : Int) != 0) = false := by rw [hp]; rfl
        have e0N : (P.2 != 0) = false := by rw [hp]; rfl
        have e0J : ((P.2 : Int) == 0) = true := by rw [hp]; rfl
        have e0M : (P.2 == 0) = true := by rw [hp]; rfl
        have hX6 := hT.row (stC P.1 ro rc)
        have hR6 := hR.row_other (k := w2.heap.size) (by omega) (stC P.1 ro rc)
        have hD6 := hD.row_other (k := w2.heap.size) (by omega) (stC P.1 ro rc)
        have hS6 := hS4.row_other (k := w2.heap.size) (fun e he => by have := hnew e he; omega) (stC P.1 ro rc)
        have hb6 := below_setRow hb (show w.heap.size ≤ w2.heap.size by omega) (stC P.1 ro rc)
        replace hp : Hid _ := hp
        clear hR hD hS4 hb hstop
        go_wp2_with ((with_reducible refine at_open ?_); first
          | (refine wpList_alloc_has (by rfl) 40 rfl (stC st0 none 0) st_zero ?_)
          | (refine wpList_store_to (by rfl) 40 _ _ rfl w4.heap.size rfl (stC P.1 ro rc) rfl 40 (stC st0 none 0) (st_size _ _ _) (st_same _ _ _ _ _ _) (st_one _ _ _) ?hg w5 ?hW ?_; (case hg => exact Has.new _ _ _); (case hW => exact hw5); clear hw5)
          | (refine wpList_load_has (by rfl) 40 _ rfl (w4.heap.size) rfl 40 (stC P.1 ro rc) _ Try.underlying40 rfl (st_size _ _ _) ?hg ?_; (case hg => exact hV))
          | (refine wpList_store_has (by rfl) 40 _ _ rfl (w2.heap.size) rfl (stC P.1 ro rc) rfl 40 (stC s ao c) (st_size _ _ _) (st_same _ _ _ _ _ _) (st_one _ _ _) ?hg ?_; (case hg => exact hT))
          | fail)
        clear hT hV e0I e0N e0J e0M
        have hlen := hd.len
        go_loopw [9] (fun i wr => ∃ (n : Nat) (ro : Option Addr) (rc : Nat), n ≤ d.log.length ∧ i = .int .i64 n ∧ (rewM s d.fr (d.log.take n)).2 = 0 ∧ Has wr w2.heap.size 40 (stC (rewM s d.fr (d.log.take n)).1 ro rc) ∧ Has wr (w.heap.size + 1) 61 (diffC d lo lc wo wc) ∧ Has wr (w.heap.size + 1 + 1) 40 (stC st0 none 0) ∧ Sl wr ro rc 8 (entR (rewM s d.fr (d.log.take n)).1.log) ∧ (∀ e, ro = some e → w2.heap.size < e.block) ∧ Below w.heap.size w wr) (fun i _ => d.log.length - (intOf i).toNat)
        case atStart => exact ⟨0, ro, rc, Nat.zero_le _, rfl, by rw [hP.out]; exact hp.out, by rw [hP.out]; exact hX6, hD6, hR6, by rw [hP.out]; exact hS6, hnew, hb6⟩
        case round =>
          clear hX6 hR6 hD6 hS6 hnew hb6 hp hP
          obtain ⟨n, ro, rc, hn, rfl, hp, hT, hD, hR, hS2, hnew, hb⟩ := hrel
          have k2 := hD.d_log
          have hltT := hT.lt
          by_cases hlt : n < d.log.length
          · cases lo with
            | none => have := hl.nil rfl; have := hl.ent_le; omega
            | some ld =>
              have hx := fun W (hW : Below wr.heap.size wr W) => ent_at (hl.later (hb.trans (hW.mono hb.size))) n hlt
              have hxo := hd.log d.log[n] (List.getElem_mem hlt)
              have hnext : Hid _ := rew_step s d.fr d.log n hlt
              have hPo := rew_fit hs d.fr (l := d.log.take n) (fun e he => hd.log e (List.mem_of_mem_take he))
              have hltI : (n : Int) < (d.log.length : Int) := by omega
              generalize d.log[n] = x at *
              generalize rewM s d.fr (d.log.take n) = P at *
              have hadd : addTo P x = addM P.1 x := by unfold addTo; rw [if_pos hp]
              rw [hadd] at hnext
              clear hadd hp
              have hbA : Below wr.heap.size wr wr.drew := (Below.refl _ _).drew
              go_wp2
              refine wp_region_plan (fun W => Below wr.heap.size wr W) (Plan.of [(0, true), (1, true), (2, true), (3, true), (4, true), (5, true)] (.either 6 (Plan.of [(7, true), (8, true), (9, true), (10, false), (11, false), (12, true)] .done) 10 (Plan.of [(6, false), (7, true), (8, true), (9, true), (11, false), (12, true)] .done))) (by kernel_rfl) (by kernel_rfl) (by kernel_rfl) (by kernel_rfl) hbA ?_
              refine plan_take _ _ rfl (yields_load_has (by rfl) 40 _ rfl (w2.heap.size) rfl 40 (stC P.1 ro rc) _ Try.underlying40 rfl (st_size _ _ _) (fun W hW => hT.later hW)) ?_
              try simp only [Act.put, List.setIfInBounds_toArray, List.set_cons_zero, List.set_cons_succ]
              iterate 1
                first
                  | (refine plan_pass _ rfl (by rfl) ?_)
                  | (refine plan_take _ _ rfl (.inl ⟨by rfl, fun W hS => by clear hS; go_simp; try with_reducible rfl⟩) ?_)
                try simp only [Act.put, List.setIfInBounds_toArray, List.set_cons_zero, List.set_cons_succ]
              iterate 1
                first
                  | (refine plan_pass _ rfl (by rfl) ?_)
                  | (refine plan_take _ _ rfl (.inl ⟨by rfl, fun W hS => by have z0 := (hD.later hS).d_log; go_simp; try with_reducible rfl⟩) ?_)
                try simp only [Act.put, List.setIfInBounds_toArray, List.set_cons_zero, List.set_cons_succ]
              iterate 2
                first
                  | (refine plan_pass _ rfl (by rfl) ?_)
                  | (refine plan_take _ _ rfl (.inl ⟨by rfl, fun W hS => by clear hS; go_simp; try with_reducible rfl⟩) ?_)
                try simp only [Act.put, List.setIfInBounds_toArray, List.set_cons_zero, List.set_cons_succ]
              refine plan_take _ _ rfl (.inl ⟨by rfl, fun W hW => run_load_any 37 _ rfl _ rfl (entL x) _ (hx W hW) Try.underlying37 rfl (ent_size x)⟩) ?_
              try simp only [Act.put, List.setIfInBounds_toArray, List.set_cons_zero, List.set_cons_succ]
              refine plan_either ?_ ?_
              · refine plan_run _ rfl (fun K hK => ?_)
                go_simp
                refine (refadd_any P.1 x ro rc _ hPo hxo (hS2.later hbA)).mono ?_
                rintro en w5 ⟨so, sc, rfl, hG⟩
                have hb5 := hbA.trans (hG.below.mono hbA.size)
                have hS5 := hG.sl
                have hn5 : ∀ e, so = some e → w2.heap.size < e.block := fun e he => by have := hG.new e he; have : wr.drew.heap.size = wr.heap.size := rfl; omega
                refine hK.out _ _ hb5 ?_
                clear hK K hG
                generalize addM P.1 x = Q at *
                try simp only [Act.put, List.setIfInBounds_toArray, List.set_cons_zero, List.set_cons_succ]
                iterate 3
                  first
                    | (refine plan_pass _ rfl (by rfl) ?_)
                    | (refine plan_take _ _ rfl (.inl ⟨by rfl, fun W hS => by clear hS; go_simp; try with_reducible rfl⟩) ?_)
                  try simp only [Act.put, List.setIfInBounds_toArray, List.set_cons_zero, List.set_cons_succ]
                refine plan_alloc_has _ rfl (by rfl) 40 rfl (stC st0 none 0) st_zero (hb5.alloc hb5.size _) ?_
                try simp only [Act.put, List.setIfInBounds_toArray, List.set_cons_zero, List.set_cons_succ]
                obtain ⟨wz, hwz, hxz, hq⟩ := new_var w5 40 (stC st0 none 0) (stC Q.1 so sc)
                have hbz := hb5.trans (hq.mono hb5.size)
                have hSz := hS5.later hq
                have hnz := hn5
                refine plan_store_has _ rfl (by rfl) 40 _ _ rfl w5.heap.size rfl (stC Q.1 so sc) rfl 40 (stC st0 none 0) (st_size _ _ _) (st_same _ _ _ _ _ _) (st_one _ _ _) (Has.new _ _ _) (by rw [hwz]; exact hbz) ?_
                rw [hwz]
                try simp only [Act.put, List.setIfInBounds_toArray, List.set_cons_zero, List.set_cons_succ]
                iterate 1
                  first
                    | (refine plan_pass _ rfl (by rfl) ?_)
                    | (refine plan_take _ _ rfl (.inl ⟨by rfl, fun W hS => by clear hS; go_simp; try with_reducible rfl⟩) ?_)
                  try simp only [Act.put, List.setIfInBounds_toArray, List.set_cons_zero, List.set_cons_succ]
                refine plan_done ?_
                clear hS5 hn5 hb5 hq hwz hx hbA k2
                replace hT := hT.later hbz
                replace hR := hR.later hbz
                replace hD := hD.later hbz
                replace hb := hb.trans (hbz.mono hb.size)
                by_cases hp2 : Q.2 = 0
                · rw [decide_eq_true hp2]
                  have hX5 := hT.row (stC Q.1 so sc)
                  have hR5 := hR.row_other (k := w2.heap.size) (by omega) (stC Q.1 so sc)
                  have hD5 := hD.row_other (k := w2.heap.size) (by omega) (stC Q.1 so sc)
                  have hS5 := hSz.row_other (k := w2.heap.size) (fun e he => by have := hnz e he; omega) (stC Q.1 so sc)
                  have hb5 := below_setRow hb (show w.heap.size ≤ w2.heap.size by omega) (stC Q.1 so sc)
                  go_wp2_with ((with_reducible refine at_open ?_); first
                    | (refine wpList_load_has (by rfl) 40 _ rfl (w5.heap.size) rfl 40 (stC Q.1 so sc) _ Try.underlying40 rfl (st_size _ _ _) ?hg ?_; (case hg => exact hxz))
                    | (refine wpList_store_has (by rfl) 40 _ _ rfl (w2.heap.size) rfl (stC Q.1 so sc) rfl 40 (stC P.1 ro rc) (st_size _ _ _) (st_same _ _ _ _ _ _) (st_one _ _ _) ?hg ?_; (case hg => exact hT))
                    | fail)
                  go_roundw
                  case rel => exact ⟨n + 1, so, sc, by omega, by go_num, by rw [hnext.out]; exact hp2, by rw [hnext.out]; exact hX5, hD5, hR5, by rw [hnext.out]; exact hS5, hnz, hb5⟩
                  case measure => simp [intOf]; omega
                · rw [decide_eq_false hp2]
                  have hM : Hid _ := apply_rew q1 (by rw [rew_stop s d.fr d.log (n + 1) (by rw [hnext.out]; exact hp2), hnext.out]; exact hp2)
                  have hz := hR.row (stC st0 none 0)
                  have hbz := below_setRow hb (show w.heap.size ≤ w.heap.size + 1 + 1 by omega) (stC st0 none 0)
                  go_wp2_with ((with_reducible refine at_open ?_); first
                    | (refine wpList_build_has (by rfl) 40 #[] rfl (stC st0 none 0) (by simpa using st_built0) ?_)
                    | (refine wpList_store_has (by rfl) 40 _ _ rfl (w.heap.size + 1 + 1) rfl (stC st0 none 0) rfl 40 (stC st0 none 0) (st_size _ _ _) (st_same _ _ _ _ _ _) (st_one _ _ _) ?hg ?_; (case hg => exact hR))
                    | fail)
                  refine ret_has_tmp rfl (w.heap.size + 1 + 1) rfl 40 (stC (st0) none 0) _ Try.underlying40 rfl (st_size _ _ _) hz rfl ⟨_, _, by rw [hM.out]; rfl, ?_⟩
                  rw [hM.out]
                  exact ⟨Sl.nothing _ _, hbz⟩
              · obtain ⟨wa, hwa, hxa, hq0⟩ : ∃ W, wr.drew.alloc (.cells (stC st0 none 0) 40) = W ∧ Has W wr.heap.size 40 (stC st0 none 0) ∧ Below wr.heap.size wr W := ⟨_, rfl, Has.new _ _ _, hbA.alloc (Nat.le_refl _) _⟩
                refine plan_alloc_has _ rfl (by rfl) 40 rfl (stC st0 none 0) st_zero (by rw [hwa]; exact hq0) ?_
                rw [hwa]
                try simp only [Act.put, List.setIfInBounds_toArray, List.set_cons_zero, List.set_cons_succ]
                refine plan_run _ rfl (fun K hK => ?_)
                go_simp
                refine (refadd_any P.1 x ro rc _ hPo hxo (hS2.later hq0)).mono ?_
                rintro en w5 ⟨so, sc, rfl, hG⟩
                have hb5 := hq0.trans (hG.below.mono hq0.size)
                have hlta := hxa.lt
                have hS5 := hG.sl
                have hn5 : ∀ e, so = some e → wr.heap.size < e.block := fun e he => by have := hG.new e he; omega
                have hxa5 := hxa.later hG.below
                refine hK.out _ _ hb5 ?_
                clear hK K hG
                generalize addM P.1 x = Q at *
                try simp only [Act.put, List.setIfInBounds_toArray, List.set_cons_zero, List.set_cons_succ]
                iterate 3
                  first
                    | (refine plan_pass _ rfl (by rfl) ?_)
                    | (refine plan_take _ _ rfl (.inl ⟨by rfl, fun W hS => by clear hS; go_simp; try with_reducible rfl⟩) ?_)
                  try simp only [Act.put, List.setIfInBounds_toArray, List.set_cons_zero, List.set_cons_succ]
                have hxz := hxa5.row (stC Q.1 so sc)
                have hbz := below_setRow hb5 (Nat.le_refl _) (stC Q.1 so sc)
                have hSz := hS5.row_other (k := wr.heap.size) (fun e he => by have := hn5 e he; omega) (stC Q.1 so sc)
                have hnz : ∀ e, so = some e → w2.heap.size < e.block := fun e he => by have := hn5 e he; omega
                refine plan_store_has _ rfl (by rfl) 40 _ _ rfl wr.heap.size rfl (stC Q.1 so sc) rfl 40 (stC st0 none 0) (st_size _ _ _) (st_same _ _ _ _ _ _) (st_one _ _ _) hxa5 hbz ?_
                generalize w5.setRow wr.heap.size (stC Q.1 so sc) = wz at *
                try simp only [Act.put, List.setIfInBounds_toArray, List.set_cons_zero, List.set_cons_succ]
                iterate 1
                  first
                    | (refine plan_pass _ rfl (by rfl) ?_)
                    | (refine plan_take _ _ rfl (.inl ⟨by rfl, fun W hS => by clear hS; go_simp; try with_reducible rfl⟩) ?_)
                  try simp only [Act.put, List.setIfInBounds_toArray, List.set_cons_zero, List.set_cons_succ]
                refine plan_done ?_
                clear hS5 hn5 hb5 hq0 hwa hxa hxa5 hlta hx hbA k2
                replace hT := hT.later hbz
                replace hR := hR.later hbz
                replace hD := hD.later hbz
                replace hb := hb.trans (hbz.mono hb.size)
                by_cases hp2 : Q.2 = 0
                · rw [decide_eq_true hp2]
                  have hX5 := hT.row (stC Q.1 so sc)
                  have hR5 := hR.row_other (k := w2.heap.size) (by omega) (stC Q.1 so sc)
                  have hD5 := hD.row_other (k := w2.heap.size) (by omega) (stC Q.1 so sc)
                  have hS5 := hSz.row_other (k := w2.heap.size) (fun e he => by have := hnz e he; omega) (stC Q.1 so sc)
                  have hb5 := below_setRow hb (show w.heap.size ≤ w2.heap.size by omega) (stC Q.1 so sc)
                  go_wp2_with ((with_reducible refine at_open ?_); first
                    | (refine wpList_load_has (by rfl) 40 _ rfl (wr.heap.size) rfl 40 (stC Q.1 so sc) _ Try.underlying40 rfl (st_size _ _ _) ?hg ?_; (case hg => exact hxz))
                    | (refine wpList_store_has (by rfl) 40 _ _ rfl (w2.heap.size) rfl (stC Q.1 so sc) rfl 40 (stC P.1 ro rc) (st_size _ _ _) (st_same _ _ _ _ _ _) (st_one _ _ _) ?hg ?_; (case hg => exact hT))
                    | fail)
                  go_roundw
                  case rel => exact ⟨n + 1, so, sc, by omega, by go_num, by rw [hnext.out]; exact hp2, by rw [hnext.out]; exact hX5, hD5, hR5, by rw [hnext.out]; exact hS5, hnz, hb5⟩
                  case measure => simp [intOf]; omega
                · rw [decide_eq_false hp2]
                  have hM : Hid _ := apply_rew q1 (by rw [rew_stop s d.fr d.log (n + 1) (by rw [hnext.out]; exact hp2), hnext.out]; exact hp2)
                  have hz := hR.row (stC st0 none 0)
                  have hbz := below_setRow hb (show w.heap.size ≤ w.heap.size + 1 + 1 by omega) (stC st0 none 0)
                  go_wp2_with ((with_reducible refine at_open ?_); first
                    | (refine wpList_build_has (by rfl) 40 #[] rfl (stC st0 none 0) (by simpa using st_built0) ?_)
                    | (refine wpList_store_has (by rfl) 40 _ _ rfl (w.heap.size + 1 + 1) rfl (stC st0 none 0) rfl 40 (stC st0 none 0) (st_size _ _ _) (st_same _ _ _ _ _ _) (st_one _ _ _) ?hg ?_; (case hg => exact hR))
                    | fail)
                  refine ret_has_tmp rfl (w.heap.size + 1 + 1) rfl 40 (stC (st0) none 0) _ Try.underlying40 rfl (st_size _ _ _) hz rfl ⟨_, _, by rw [hM.out]; rfl, ?_⟩
                  rw [hM.out]
                  exact ⟨Sl.nothing _ _, hbz⟩
          · have e5 : n = d.log.length := by omega
            subst e5
            rw [List.take_length] at hp hT hS2
            have hE : Hid _ := apply_end hi (turned_1 (s := s) q1 hp)
            have hSo := rew_fit hs d.fr (l := d.log) hd.log
            generalize rewM s d.fr d.log = P at *
            have hap : ∀ e, ro = some e → 0 < (entR P.1.log).length → e.block ≠ w.heap.size + 1 + 1 := fun e he _ => by have := hnew e he; omega
            have t1 : wr.cell? ⟨w.heap.size + 1, 44, none⟩ = some (.int .u32 (d.whole.tail.n : Int)) := hD.d_cell 41 _ (stC_tail (s := d.whole) (ao := wo) (c := wc) 1 (by decide))
            go_wp2_with ((with_reducible refine at_open ?_); first
              | (refine wpList_load_has (by rfl) 40 _ rfl (w2.heap.size) rfl 40 (stC P.1 ro rc) _ Try.underlying40 rfl (st_size _ _ _) ?hg ?_; (case hg => exact hT))
              | fail)
            clear k2 t1
            refine (reftail_any P.1 ro rc d.whole.tail.n _ hSo hS2 hd.whole.tail.n).mono ?_
            rintro en w5 ⟨po, pc, rfl, hS5, hto, hq⟩
            have hUo := startAt_ok (tailM_fit hSo d.whole.tail.n) hd.whole.started
            have hlt5 := hR.lt
            have hap5 : ∀ e, po = some e → 0 < (entR (tailM (P.1) d.whole.tail.n).1.log).length → e.block ≠ w.heap.size + 1 + 1 := fun e he hn => by
              rcases hto e he hn with h1 | h1
              · exact hap e h1.symm (Nat.lt_of_lt_of_le hn (tail_short _ _))
              · omega
            replace hD := hD.later hq
            replace hR := hR.later hq
            replace hb := hb.trans (hq.mono hb.size)
            have hlt6 := hR.lt
            clear hq hto hap hS2 hSo hT
            generalize (tailM (P.1) d.whole.tail.n).2 = E at *
            generalize (tailM (P.1) d.whole.tail.n).1 = T at *
            obtain ⟨w6, hw6, hV, hq6⟩ := new_var w5 40 (stC st0 none 0) (stC T po pc)
            have hb6 := hb.trans (hq6.mono hb.size)
            have hR6 := hR.later hq6
            have hD6 := hD.later hq6
            have v0 := hV.st_tail_since
            have y0 : w6.cell? ⟨w.heap.size + 1, 43, none⟩ = some (.int .u32 (d.whole.tail.since : Int)) := hD6.d_cell 40 _ (stC_tail (s := d.whole) (ao := wo) (c := wc) 0 (by decide))
            have s0 : w6.cell? ⟨w.heap.size + 1, 3, none⟩ = some (.int .u32 (d.whole.started : Int)) := hD6.d_cell 0 _ rfl
            clear hD6 hD hR hb
            by_cases e0 : E = 0
            · have e0I : ((E : Int) != 0) = false := by rw [e0]; rfl
              have e0N : (E != 0) = false := by rw [e0]; rfl
              have e0J : ((E : Int) == 0) = true := by rw [e0]; rfl
              have e0M : (E == 0) = true := by rw [e0]; rfl
              by_cases e1 : T.tail.since = d.whole.tail.since
              · have e1I : ((T.tail.since : Int) != (d.whole.tail.since : Int)) = false := by rw [e1]; simp
                have e1N : (T.tail.since != d.whole.tail.since) = false := by rw [e1]; simp
                have e1J : ((T.tail.since : Int) == (d.whole.tail.since : Int)) = true := by rw [e1]; simp
                have e1M : (T.tail.since == d.whole.tail.since) = true := by rw [e1]; simp
                have hyes : Hid _ := hE.out.1 e0 e1
                have hno : Hid _ := fun h => hE.out.2 (.inr (.inr h))
                have g0 := hV.st_started
                have f0 := hV.free 0
                have hV7 := hV.setStart d.whole.started
                have hR7 := hR6.set_other (a := ⟨w5.heap.size, 0, none⟩) (show w.heap.size + 1 + 1 ≠ w5.heap.size by omega) (.int .u32 (d.whole.started : Int))
                have hb7 := hb6.setCell (show w.heap.size ≤ (⟨w5.heap.size, 0, none⟩ : Addr).block by show w.heap.size ≤ w5.heap.size; omega) (.int .u32 (d.whole.started : Int))
                have hq7 := hq6.setCell (show w5.heap.size ≤ (⟨w5.heap.size, 0, none⟩ : Addr).block from Nat.le_refl _) (.int .u32 (d.whole.started : Int))
                obtain ⟨w7, hw7⟩ : ∃ W, w6.setCell ⟨w5.heap.size, 0, none⟩ (.int .u32 (d.whole.started : Int)) = W := ⟨_, rfl⟩
                rw [hw7] at hV7 hR7 hb7 hq7
                have hS7 : Sl w7 po pc 8 (entR (startAt T d.whole.started).log) := hS5.later hq7
                have hap7 : ∀ e, po = some e → 0 < (entR (startAt T d.whole.started).log).length → e.block ≠ w.heap.size + 1 + 1 := hap5
                clear hS5 hap5 hE hq6 hq7
                generalize startAt T d.whole.started = U at *
                go_wp2_with ((with_reducible refine at_open ?_); first
                  | (refine wpList_alloc_has (by rfl) 40 rfl (stC st0 none 0) st_zero ?_)
                  | (refine wpList_store_to (by rfl) 40 _ _ rfl w5.heap.size rfl (stC T po pc) rfl 40 (stC st0 none 0) (st_size _ _ _) (st_same _ _ _ _ _ _) (st_one _ _ _) ?hg w6 ?hW ?_; (case hg => exact Has.new _ _ _); (case hW => exact hw6); clear hw6)
                  | (refine wpList_load_has (by rfl) 40 _ rfl (w5.heap.size) rfl 40 (stC U po pc) _ Try.underlying40 rfl (st_size _ _ _) ?hg ?_; (case hg => exact hV7))
                  | fail)
                refine (refis_any U po pc _ hUo hS7).mono ?_
                rintro en w8 ⟨rfl, hq⟩
                replace hV7 := hV7.later hq
                replace hR7 := hR7.later hq
                replace hS7 := hS7.later hq
                replace hb7 := hb7.trans (hq.mono hb7.size)
                clear hq hV hR6 hb6 hw7 g0 f0 v0 y0 s0
                cases hj : isM U with
                | false =>
                  have hM : Hid _ := hno.out hj
                  have hz := hR7.row (stC st0 none 0)
                  have hbz := below_setRow hb7 (show w.heap.size ≤ w.heap.size + 1 + 1 by omega) (stC st0 none 0)
                  go_wp2_with ((with_reducible refine at_open ?_); first
                    | (refine wpList_build_has (by rfl) 40 #[] rfl (stC st0 none 0) (by simpa using st_built0) ?_)
                    | (refine wpList_store_has (by rfl) 40 _ _ rfl (w.heap.size + 1 + 1) rfl (stC st0 none 0) rfl 40 (stC st0 none 0) (st_size _ _ _) (st_same _ _ _ _ _ _) (st_one _ _ _) ?hg ?_; (case hg => exact hR7))
                    | fail)
                  refine ret_has_tmp rfl (w.heap.size + 1 + 1) rfl 40 (stC (st0) none 0) _ Try.underlying40 rfl (st_size _ _ _) hz rfl ⟨_, _, by rw [hM.out]; rfl, ?_⟩
                  rw [hM.out]
                  exact ⟨Sl.nothing _ _, hbz⟩
                | true =>
                  have hM : Hid _ := hyes.out hj
                  have hz := hR7.row (stC U po pc)
                  have hsl := hS7.row_if9 (k := w.heap.size + 1 + 1) hap7 (stC U po pc)
                  have hbz := below_setRow hb7 (show w.heap.size ≤ w.heap.size + 1 + 1 by omega) (stC U po pc)
                  go_wp2_with ((with_reducible refine at_open ?_); first
                    | (refine wpList_load_has (by rfl) 40 _ rfl (w5.heap.size) rfl 40 (stC U po pc) _ Try.underlying40 rfl (st_size _ _ _) ?hg ?_; (case hg => exact hV7))
                    | (refine wpList_store_has (by rfl) 40 _ _ rfl (w.heap.size + 1 + 1) rfl (stC U po pc) rfl 40 (stC st0 none 0) (st_size _ _ _) (st_same _ _ _ _ _ _) (st_one _ _ _) ?hg ?_; (case hg => exact hR7))
                    | fail)
                  refine ret_has_tmp rfl (w.heap.size + 1 + 1) rfl 40 (stC (U) po pc) _ Try.underlying40 rfl (st_size _ _ _) hz rfl ⟨_, _, by rw [hM.out]; rfl, ?_⟩
                  rw [hM.out]
                  exact ⟨hsl, hbz⟩
              · have e1I : ((T.tail.since : Int) != (d.whole.tail.since : Int)) = true := by rw [bne_iff_ne]; omega
                have e1N : (T.tail.since != d.whole.tail.since) = true := by rw [bne_iff_ne]; omega
                have e1J : ((T.tail.since : Int) == (d.whole.tail.since : Int)) = false := by rw [beq_eq_false_iff_ne]; omega
                have e1M : (T.tail.since == d.whole.tail.since) = false := by rw [beq_eq_false_iff_ne]; omega
                have hM : Hid _ := hE.out.2 (.inr (.inl e1))
                clear hE
                have hz := hR6.row (stC st0 none 0)
                have hbz := below_setRow hb6 (show w.heap.size ≤ w.heap.size + 1 + 1 by omega) (stC st0 none 0)
                go_wp2_with ((with_reducible refine at_open ?_); first
                  | (refine wpList_alloc_has (by rfl) 40 rfl (stC st0 none 0) st_zero ?_)
                  | (refine wpList_store_to (by rfl) 40 _ _ rfl w5.heap.size rfl (stC T po pc) rfl 40 (stC st0 none 0) (st_size _ _ _) (st_same _ _ _ _ _ _) (st_one _ _ _) ?hg w6 ?hW ?_; (case hg => exact Has.new _ _ _); (case hW => exact hw6); clear hw6)
                  | (refine wpList_build_has (by rfl) 40 #[] rfl (stC st0 none 0) (by simpa using st_built0) ?_)
                  | (refine wpList_store_has (by rfl) 40 _ _ rfl (w.heap.size + 1 + 1) rfl (stC st0 none 0) rfl 40 (stC st0 none 0) (st_size _ _ _) (st_same _ _ _ _ _ _) (st_one _ _ _) ?hg ?_; (case hg => exact hR6))
                  | fail)
                refine ret_has_tmp rfl (w.heap.size + 1 + 1) rfl 40 (stC (st0) none 0) _ Try.underlying40 rfl (st_size _ _ _) hz rfl ⟨_, _, by rw [hM.out]; rfl, ?_⟩
                rw [hM.out]
                exact ⟨Sl.nothing _ _, hbz⟩
            · have e0I : ((E : Int) != 0) = true := by rw [bne_iff_ne]; omega
              have e0N : (E != 0) = true := by rw [bne_iff_ne]; omega
              have e0J : ((E : Int) == 0) = false := by rw [beq_eq_false_iff_ne]; omega
              have e0M : (E == 0) = false := by rw [beq_eq_false_iff_ne]; omega
              have hM : Hid _ := hE.out.2 (.inl e0)
              clear hE
              have hz := hR6.row (stC st0 none 0)
              have hbz := below_setRow hb6 (show w.heap.size ≤ w.heap.size + 1 + 1 by omega) (stC st0 none 0)
              go_wp2_with ((with_reducible refine at_open ?_); first
                | (refine wpList_alloc_has (by rfl) 40 rfl (stC st0 none 0) st_zero ?_)
                | (refine wpList_store_to (by rfl) 40 _ _ rfl w5.heap.size rfl (stC T po pc) rfl 40 (stC st0 none 0) (st_size _ _ _) (st_same _ _ _ _ _ _) (st_one _ _ _) ?hg w6 ?hW ?_; (case hg => exact Has.new _ _ _); (case hW => exact hw6); clear hw6)
                | (refine wpList_build_has (by rfl) 40 #[] rfl (stC st0 none 0) (by simpa using st_built0) ?_)
                | (refine wpList_store_has (by rfl) 40 _ _ rfl (w.heap.size + 1 + 1) rfl (stC st0 none 0) rfl 40 (stC st0 none 0) (st_size _ _ _) (st_same _ _ _ _ _ _) (st_one _ _ _) ?hg ?_; (case hg => exact hR6))
                | fail)
              refine ret_has_tmp rfl (w.heap.size + 1 + 1) rfl 40 (stC (st0) none 0) _ Try.underlying40 rfl (st_size _ _ _) hz rfl ⟨_, _, by rw [hM.out]; rfl, ?_⟩
              rw [hM.out]
              exact ⟨Sl.nothing _ _, hbz⟩
      · have e0I : ((P.2 : Int) != 0) = true := by rw [bne_iff_ne]; omega
        have e0N : (P.2 != 0) = true := by rw [bne_iff_ne]; omega
        have e0J : ((P.2 : Int) == 0) = false := by rw [beq_eq_false_iff_ne]; omega
        have e0M : (P.2 == 0) = false := by rw [beq_eq_false_iff_ne]; omega
        have hM : Hid _ := apply_rew q1 (by rw [hstop.out hp]; exact hp)
        have hz := hR.row (stC st0 none 0)
        have hbz := below_setRow hb (show w.heap.size ≤ w.heap.size + 1 + 1 by omega) (stC st0 none 0)
        go_wp2_with ((with_reducible refine at_open ?_); first
          | (refine wpList_alloc_has (by rfl) 40 rfl (stC st0 none 0) st_zero ?_)
          | (refine wpList_store_to (by rfl) 40 _ _ rfl w4.heap.size rfl (stC P.1 ro rc) rfl 40 (stC st0 none 0) (st_size _ _ _) (st_same _ _ _ _ _ _) (st_one _ _ _) ?hg w5 ?hW ?_; (case hg => exact Has.new _ _ _); (case hW => exact hw5); clear hw5)
          | (refine wpList_build_has (by rfl) 40 #[] rfl (stC st0 none 0) (by simpa using st_built0) ?_)
          | (refine wpList_store_has (by rfl) 40 _ _ rfl (w.heap.size + 1 + 1) rfl (stC st0 none 0) rfl 40 (stC st0 none 0) (st_size _ _ _) (st_same _ _ _ _ _ _) (st_one _ _ _) ?hg ?_; (case hg => exact hR))
          | fail)
        refine ret_has_tmp rfl (w.heap.size + 1 + 1) rfl 40 (stC (st0) none 0) _ Try.underlying40 rfl (st_size _ _ _) hz rfl ⟨_, _, by rw [hM.out]; rfl, ?_⟩
        rw [hM.out]
        exact ⟨Sl.nothing _ _, hbz⟩
    · have a2 : (d.kind == 1) = false := by rw [beq_eq_false_iff_ne]; exact q1
      have a4 : (d.kind != 1) = true := by rw [bne_iff_ne]; exact q1
      by_cases q3 : d.kind < 0
      · have hM : Hid _ := apply_kind (s := s) (d := d) (by omega) (by omega) (by omega)
        have hz := hR.row (stC st0 none 0)
        have hbz := below_setRow hb (show w.heap.size ≤ w.heap.size + 1 + 1 by omega) (stC st0 none 0)
        go_wp2_with ((with_reducible refine at_open ?_); first
          | (refine wpList_build_has (by rfl) 40 #[] rfl (stC st0 none 0) (by simpa using st_built0) ?_)
          | (refine wpList_store_has (by rfl) 40 _ _ rfl (w.heap.size + 1 + 1) rfl (stC st0 none 0) rfl 40 (stC st0 none 0) (st_size _ _ _) (st_same _ _ _ _ _ _) (st_one _ _ _) ?hg ?_; (case hg => exact hR))
          | fail)
        refine ret_has_tmp rfl (w.heap.size + 1 + 1) rfl 40 (stC (st0) none 0) _ Try.underlying40 rfl (st_size _ _ _) hz rfl ⟨_, _, by rw [hM.out]; rfl, ?_⟩
        rw [hM.out]
        exact ⟨Sl.nothing _ _, hbz⟩
      · by_cases q4 : 2 < d.kind
        · have hM : Hid _ := apply_kind (s := s) (d := d) (by omega) (by omega) (by omega)
          have hz := hR.row (stC st0 none 0)
          have hbz := below_setRow hb (show w.heap.size ≤ w.heap.size + 1 + 1 by omega) (stC st0 none 0)
          go_wp2_with ((with_reducible refine at_open ?_); first
            | (refine wpList_build_has (by rfl) 40 #[] rfl (stC st0 none 0) (by simpa using st_built0) ?_)
            | (refine wpList_store_has (by rfl) 40 _ _ rfl (w.heap.size + 1 + 1) rfl (stC st0 none 0) rfl 40 (stC st0 none 0) (st_size _ _ _) (st_same _ _ _ _ _ _) (st_one _ _ _) ?hg ?_; (case hg => exact hR))
            | fail)
          refine ret_has_tmp rfl (w.heap.size + 1 + 1) rfl 40 (stC (st0) none 0) _ Try.underlying40 rfl (st_size _ _ _) hz rfl ⟨_, _, by rw [hM.out]; rfl, ?_⟩
          rw [hM.out]
          exact ⟨Sl.nothing _ _, hbz⟩
        · by_cases hn0 : d.log.length = 0
          · have n0 : ¬ (0 : Int) < (d.log.length : Int) := by omega
            have n1 : ¬ 0 < d.log.length := by omega
            by_cases hf0 : d.fr = 0
            · have f0 : ((d.fr : Int) != 0) = false := by rw [hf0]; rfl
              have f1 : (d.fr != 0) = false := by rw [hf0]; rfl
              have f2 : ((d.fr : Int) == 0) = true := by rw [hf0]; rfl
              have f3 : (d.fr == 0) = true := by rw [hf0]; rfl
              have hB : bareM d = true := by unfold bareM; rw [decide_eq_true hn0, decide_eq_true hf0]; rfl
              clear hn0 hf0
              by_cases q2 : d.kind = 2
              · have a3 : (d.kind == 2) = true := by rw [q2]; rfl
                have hTu : turnedM s d = (d.whole, true) := by unfold turnedM; rw [if_neg (by omega), if_neg q1, if_pos q2, hB]
                have hwh := hD.d_whole
                go_wp2_with ((with_reducible refine at_open ?_); first
                  | (refine wpList_load_mid' (by rfl) 40 _ rfl (w.heap.size + 1) (3) rfl (stL d.whole wo wc) _ ?hg Try.underlying40 rfl (st_size _ _ _) ?_; (case hg => exact hwh))
                  | fail)
                refine (refis_any d.whole wo wc _ hd.whole (hwl.later hb)).mono ?_
                rintro en w3 ⟨rfl, hq⟩
                replace hD := hD.later hq
                replace hR := hR.later hq
                replace hb := hb.trans (hq.mono hb.size)
                clear hq hX k0 k1 k2 hwh
                cases hj : isM d.whole with
                | false =>
                  have hM : Hid _ := apply_no (s := s) (d := d) (.inr (.inr (by rw [hTu]; exact hj)))
                  have hz := hR.row (stC st0 none 0)
                  have hbz := below_setRow hb (show w.heap.size ≤ w.heap.size + 1 + 1 by omega) (stC st0 none 0)
                  go_wp2_with ((with_reducible refine at_open ?_); first
                    | (refine wpList_build_has (by rfl) 40 #[] rfl (stC st0 none 0) (by simpa using st_built0) ?_)
                    | (refine wpList_store_has (by rfl) 40 _ _ rfl (w.heap.size + 1 + 1) rfl (stC st0 none 0) rfl 40 (stC st0 none 0) (st_size _ _ _) (st_same _ _ _ _ _ _) (st_one _ _ _) ?hg ?_; (case hg => exact hR))
                    | fail)
                  refine ret_has_tmp rfl (w.heap.size + 1 + 1) rfl 40 (stC (st0) none 0) _ Try.underlying40 rfl (st_size _ _ _) hz rfl ⟨_, _, by rw [hM.out]; rfl, ?_⟩
                  rw [hM.out]
                  exact ⟨Sl.nothing _ _, hbz⟩
                | true =>
                  have hM : Hid (applyM s d = (d.whole, 0)) := by show _ = _; rw [apply_yes hi (by rw [hTu]) (by rw [hTu]; exact hj), hTu]
                  have hwh := hD.d_whole
                  have hz := hR.row (stC d.whole wo wc)
                  have hbz := below_setRow hb (show w.heap.size ≤ w.heap.size + 1 + 1 by omega) (stC d.whole wo wc)
                  go_wp2_with ((with_reducible refine at_open ?_); first
                    | (refine wpList_load_mid' (by rfl) 40 _ rfl (w.heap.size + 1) (3) rfl (stL d.whole wo wc) _ ?hg Try.underlying40 rfl (st_size _ _ _) ?_; (case hg => exact hwh))
                    | (refine wpList_store_has (by rfl) 40 _ _ rfl (w.heap.size + 1 + 1) rfl (stC d.whole wo wc) rfl 40 (stC st0 none 0) (st_size _ _ _) (st_same _ _ _ _ _ _) (st_one _ _ _) ?hg ?_; (case hg => exact hR))
                    | fail)
                  refine ret_has_tmp rfl (w.heap.size + 1 + 1) rfl 40 (stC (d.whole) wo wc) _ Try.underlying40 rfl (st_size _ _ _) hz rfl ⟨_, _, by rw [hM.out]; rfl, ?_⟩
                  rw [hM.out]
                  exact ⟨hwl.later hbz, hbz⟩
              · have a3 : (d.kind == 2) = false := by rw [beq_eq_false_iff_ne]; exact q2
                have hE : Hid _ := apply_end hi (turned_bare0 (s := s) (d := d) (by omega) hB)
                have hlt0 := hR.lt
                have hap : ∀ e, ao = some e → 0 < (entR s.log).length → e.block ≠ w.heap.size + 1 + 1 := fun e he hn => by
                  subst he
                  have := h.block_lt hn (by decide)
                  omega
                obtain ⟨w3, hw3, hT, hq⟩ := new_var w2 40 (stC st0 none 0) (stC s ao c)
                replace hR := hR.later hq
                replace hD := hD.later hq
                replace hb := hb.trans (hq.mono hb.size)
                clear hq
                have hS2 := h.later hb
                have hSo := hs
                have k3 := hD.d_kind
                have t1 : w3.cell? ⟨w.heap.size + 1, 44, none⟩ = some (.int .u32 (d.whole.tail.n : Int)) := hD.d_cell 41 _ (stC_tail (s := d.whole) (ao := wo) (c := wc) 1 (by decide))
                go_wp2_with ((with_reducible refine at_open ?_); first
                  | (refine wpList_load_has (by rfl) 40 _ rfl (w.heap.size) rfl 40 (stC s ao c) _ Try.underlying40 rfl (st_size _ _ _) ?hg ?_; (case hg => exact hX))
                  | (refine wpList_alloc_has (by rfl) 40 rfl (stC st0 none 0) st_zero ?_)
                  | (refine wpList_store_to (by rfl) 40 _ _ rfl w2.heap.size rfl (stC s ao c) rfl 40 (stC st0 none 0) (st_size _ _ _) (st_same _ _ _ _ _ _) (st_one _ _ _) ?hg w3 ?hW ?_; (case hg => exact Has.new _ _ _); (case hW => exact hw3); clear hw3)
                  | (refine wpList_load_has (by rfl) 40 _ rfl (w2.heap.size) rfl 40 (stC s ao c) _ Try.underlying40 rfl (st_size _ _ _) ?hg ?_; (case hg => exact hT))
                  | fail)
                clear hX k0 k1 k2 k3 t1
                refine (reftail_any s ao c d.whole.tail.n _ hSo hS2 hd.whole.tail.n).mono ?_
                rintro en w5 ⟨po, pc, rfl, hS5, hto, hq⟩
                have hUo := startAt_ok (tailM_fit hSo d.whole.tail.n) hd.whole.started
                have hlt5 := hR.lt
                have hap5 : ∀ e, po = some e → 0 < (entR (tailM (s) d.whole.tail.n).1.log).length → e.block ≠ w.heap.size + 1 + 1 := fun e he hn => by
                  rcases hto e he hn with h1 | h1
                  · exact hap e h1.symm (Nat.lt_of_lt_of_le hn (tail_short _ _))
                  · omega
                replace hD := hD.later hq
                replace hR := hR.later hq
                replace hb := hb.trans (hq.mono hb.size)
                have hlt6 := hR.lt
                clear hq hto hap hS2 hSo hT
                generalize (tailM (s) d.whole.tail.n).2 = E at *
                generalize (tailM (s) d.whole.tail.n).1 = T at *
                obtain ⟨w6, hw6, hV, hq6⟩ := new_var w5 40 (stC st0 none 0) (stC T po pc)
                have hb6 := hb.trans (hq6.mono hb.size)
                have hR6 := hR.later hq6
                have hD6 := hD.later hq6
                have v0 := hV.st_tail_since
                have y0 : w6.cell? ⟨w.heap.size + 1, 43, none⟩ = some (.int .u32 (d.whole.tail.since : Int)) := hD6.d_cell 40 _ (stC_tail (s := d.whole) (ao := wo) (c := wc) 0 (by decide))
                have s0 : w6.cell? ⟨w.heap.size + 1, 3, none⟩ = some (.int .u32 (d.whole.started : Int)) := hD6.d_cell 0 _ rfl
                clear hD6 hD hR hb
                by_cases e0 : E = 0
                · have e0I : ((E : Int) != 0) = false := by rw [e0]; rfl
                  have e0N : (E != 0) = false := by rw [e0]; rfl
                  have e0J : ((E : Int) == 0) = true := by rw [e0]; rfl
                  have e0M : (E == 0) = true := by rw [e0]; rfl
                  by_cases e1 : T.tail.since = d.whole.tail.since
                  · have e1I : ((T.tail.since : Int) != (d.whole.tail.since : Int)) = false := by rw [e1]; simp
                    have e1N : (T.tail.since != d.whole.tail.since) = false := by rw [e1]; simp
                    have e1J : ((T.tail.since : Int) == (d.whole.tail.since : Int)) = true := by rw [e1]; simp
                    have e1M : (T.tail.since == d.whole.tail.since) = true := by rw [e1]; simp
                    have hyes : Hid _ := hE.out.1 e0 e1
                    have hno : Hid _ := fun h => hE.out.2 (.inr (.inr h))
                    have g0 := hV.st_started
                    have f0 := hV.free 0
                    have hV7 := hV.setStart d.whole.started
                    have hR7 := hR6.set_other (a := ⟨w5.heap.size, 0, none⟩) (show w.heap.size + 1 + 1 ≠ w5.heap.size by omega) (.int .u32 (d.whole.started : Int))
                    have hb7 := hb6.setCell (show w.heap.size ≤ (⟨w5.heap.size, 0, none⟩ : Addr).block by show w.heap.size ≤ w5.heap.size; omega) (.int .u32 (d.whole.started : Int))
                    have hq7 := hq6.setCell (show w5.heap.size ≤ (⟨w5.heap.size, 0, none⟩ : Addr).block from Nat.le_refl _) (.int .u32 (d.whole.started : Int))
                    obtain ⟨w7, hw7⟩ : ∃ W, w6.setCell ⟨w5.heap.size, 0, none⟩ (.int .u32 (d.whole.started : Int)) = W := ⟨_, rfl⟩
                    rw [hw7] at hV7 hR7 hb7 hq7
                    have hS7 : Sl w7 po pc 8 (entR (startAt T d.whole.started).log) := hS5.later hq7
                    have hap7 : ∀ e, po = some e → 0 < (entR (startAt T d.whole.started).log).length → e.block ≠ w.heap.size + 1 + 1 := hap5
                    clear hS5 hap5 hE hq6 hq7
                    generalize startAt T d.whole.started = U at *
                    go_wp2_with ((with_reducible refine at_open ?_); first
                      | (refine wpList_alloc_has (by rfl) 40 rfl (stC st0 none 0) st_zero ?_)
                      | (refine wpList_store_to (by rfl) 40 _ _ rfl w5.heap.size rfl (stC T po pc) rfl 40 (stC st0 none 0) (st_size _ _ _) (st_same _ _ _ _ _ _) (st_one _ _ _) ?hg w6 ?hW ?_; (case hg => exact Has.new _ _ _); (case hW => exact hw6); clear hw6)
                      | (refine wpList_load_has (by rfl) 40 _ rfl (w5.heap.size) rfl 40 (stC U po pc) _ Try.underlying40 rfl (st_size _ _ _) ?hg ?_; (case hg => exact hV7))
                      | fail)
                    refine (refis_any U po pc _ hUo hS7).mono ?_
                    rintro en w8 ⟨rfl, hq⟩
                    replace hV7 := hV7.later hq
                    replace hR7 := hR7.later hq
                    replace hS7 := hS7.later hq
                    replace hb7 := hb7.trans (hq.mono hb7.size)
                    clear hq hV hR6 hb6 hw7 g0 f0 v0 y0 s0
                    cases hj : isM U with
                    | false =>
                      have hM : Hid _ := hno.out hj
                      have hz := hR7.row (stC st0 none 0)
                      have hbz := below_setRow hb7 (show w.heap.size ≤ w.heap.size + 1 + 1 by omega) (stC st0 none 0)
                      go_wp2_with ((with_reducible refine at_open ?_); first
                        | (refine wpList_build_has (by rfl) 40 #[] rfl (stC st0 none 0) (by simpa using st_built0) ?_)
                        | (refine wpList_store_has (by rfl) 40 _ _ rfl (w.heap.size + 1 + 1) rfl (stC st0 none 0) rfl 40 (stC st0 none 0) (st_size _ _ _) (st_same _ _ _ _ _ _) (st_one _ _ _) ?hg ?_; (case hg => exact hR7))
                        | fail)
                      refine ret_has_tmp rfl (w.heap.size + 1 + 1) rfl 40 (stC (st0) none 0) _ Try.underlying40 rfl (st_size _ _ _) hz rfl ⟨_, _, by rw [hM.out]; rfl, ?_⟩
                      rw [hM.out]
                      exact ⟨Sl.nothing _ _, hbz⟩
                    | true =>
                      have hM : Hid _ := hyes.out hj
                      have hz := hR7.row (stC U po pc)
                      have hsl := hS7.row_if9 (k := w.heap.size + 1 + 1) hap7 (stC U po pc)
                      have hbz := below_setRow hb7 (show w.heap.size ≤ w.heap.size + 1 + 1 by omega) (stC U po pc)
                      go_wp2_with ((with_reducible refine at_open ?_); first
                        | (refine wpList_load_has (by rfl) 40 _ rfl (w5.heap.size) rfl 40 (stC U po pc) _ Try.underlying40 rfl (st_size _ _ _) ?hg ?_; (case hg => exact hV7))
                        | (refine wpList_store_has (by rfl) 40 _ _ rfl (w.heap.size + 1 + 1) rfl (stC U po pc) rfl 40 (stC st0 none 0) (st_size _ _ _) (st_same _ _ _ _ _ _) (st_one _ _ _) ?hg ?_; (case hg => exact hR7))
                        | fail)
                      refine ret_has_tmp rfl (w.heap.size + 1 + 1) rfl 40 (stC (U) po pc) _ Try.underlying40 rfl (st_size _ _ _) hz rfl ⟨_, _, by rw [hM.out]; rfl, ?_⟩
                      rw [hM.out]
                      exact ⟨hsl, hbz⟩
                  · have e1I : ((T.tail.since : Int) != (d.whole.tail.since : Int)) = true := by rw [bne_iff_ne]; omega
                    have e1N : (T.tail.since != d.whole.tail.since) = true := by rw [bne_iff_ne]; omega
                    have e1J : ((T.tail.since : Int) == (d.whole.tail.since : Int)) = false := by rw [beq_eq_false_iff_ne]; omega
                    have e1M : (T.tail.since == d.whole.tail.since) = false := by rw [beq_eq_false_iff_ne]; omega
                    have hM : Hid _ := hE.out.2 (.inr (.inl e1))
                    clear hE
                    have hz := hR6.row (stC st0 none 0)
                    have hbz := below_setRow hb6 (show w.heap.size ≤ w.heap.size + 1 + 1 by omega) (stC st0 none 0)
                    go_wp2_with ((with_reducible refine at_open ?_); first
                      | (refine wpList_alloc_has (by rfl) 40 rfl (stC st0 none 0) st_zero ?_)
                      | (refine wpList_store_to (by rfl) 40 _ _ rfl w5.heap.size rfl (stC T po pc) rfl 40 (stC st0 none 0) (st_size _ _ _) (st_same _ _ _ _ _ _) (st_one _ _ _) ?hg w6 ?hW ?_; (case hg => exact Has.new _ _ _); (case hW => exact hw6); clear hw6)
                      | (refine wpList_build_has (by rfl) 40 #[] rfl (stC st0 none 0) (by simpa using st_built0) ?_)
                      | (refine wpList_store_has (by rfl) 40 _ _ rfl (w.heap.size + 1 + 1) rfl (stC st0 none 0) rfl 40 (stC st0 none 0) (st_size _ _ _) (st_same _ _ _ _ _ _) (st_one _ _ _) ?hg ?_; (case hg => exact hR6))
                      | fail)
                    refine ret_has_tmp rfl (w.heap.size + 1 + 1) rfl 40 (stC (st0) none 0) _ Try.underlying40 rfl (st_size _ _ _) hz rfl ⟨_, _, by rw [hM.out]; rfl, ?_⟩
                    rw [hM.out]
                    exact ⟨Sl.nothing _ _, hbz⟩
                · have e0I : ((E : Int) != 0) = true := by rw [bne_iff_ne]; omega
                  have e0N : (E != 0) = true := by rw [bne_iff_ne]; omega
                  have e0J : ((E : Int) == 0) = false := by rw [beq_eq_false_iff_ne]; omega
                  have e0M : (E == 0) = false := by rw [beq_eq_false_iff_ne]; omega
                  have hM : Hid _ := hE.out.2 (.inl e0)
                  clear hE
                  have hz := hR6.row (stC st0 none 0)
                  have hbz := below_setRow hb6 (show w.heap.size ≤ w.heap.size + 1 + 1 by omega) (stC st0 none 0)
                  go_wp2_with ((with_reducible refine at_open ?_); first
                    | (refine wpList_alloc_has (by rfl) 40 rfl (stC st0 none 0) st_zero ?_)
                    | (refine wpList_store_to (by rfl) 40 _ _ rfl w5.heap.size rfl (stC T po pc) rfl 40 (stC st0 none 0) (st_size _ _ _) (st_same _ _ _ _ _ _) (st_one _ _ _) ?hg w6 ?hW ?_; (case hg => exact Has.new _ _ _); (case hW => exact hw6); clear hw6)
                    | (refine wpList_build_has (by rfl) 40 #[] rfl (stC st0 none 0) (by simpa using st_built0) ?_)
                    | (refine wpList_store_has (by rfl) 40 _ _ rfl (w.heap.size + 1 + 1) rfl (stC st0 none 0) rfl 40 (stC st0 none 0) (st_size _ _ _) (st_same _ _ _ _ _ _) (st_one _ _ _) ?hg ?_; (case hg => exact hR6))
                    | fail)
                  refine ret_has_tmp rfl (w.heap.size + 1 + 1) rfl 40 (stC (st0) none 0) _ Try.underlying40 rfl (st_size _ _ _) hz rfl ⟨_, _, by rw [hM.out]; rfl, ?_⟩
                  rw [hM.out]
                  exact ⟨Sl.nothing _ _, hbz⟩
            · have f0 : ((d.fr : Int) != 0) = true := by rw [bne_iff_ne]; omega
              have f1 : (d.fr != 0) = true := by rw [bne_iff_ne]; omega
              have f2 : ((d.fr : Int) == 0) = false := by rw [beq_eq_false_iff_ne]; omega
              have f3 : (d.fr == 0) = false := by rw [beq_eq_false_iff_ne]; omega
              have hM : Hid _ := apply_not_bare (s := s) q1 (by unfold bareM; rw [decide_eq_false hf0, Bool.and_false])
              have hz := hR.row (stC st0 none 0)
              have hbz := below_setRow hb (show w.heap.size ≤ w.heap.size + 1 + 1 by omega) (stC st0 none 0)
              go_wp2_with ((with_reducible refine at_open ?_); first
                | (refine wpList_build_has (by rfl) 40 #[] rfl (stC st0 none 0) (by simpa using st_built0) ?_)
                | (refine wpList_store_has (by rfl) 40 _ _ rfl (w.heap.size + 1 + 1) rfl (stC st0 none 0) rfl 40 (stC st0 none 0) (st_size _ _ _) (st_same _ _ _ _ _ _) (st_one _ _ _) ?hg ?_; (case hg => exact hR))
                | fail)
              refine ret_has_tmp rfl (w.heap.size + 1 + 1) rfl 40 (stC (st0) none 0) _ Try.underlying40 rfl (st_size _ _ _) hz rfl ⟨_, _, by rw [hM.out]; rfl, ?_⟩
              rw [hM.out]
              exact ⟨Sl.nothing _ _, hbz⟩
          · have n0 : (0 : Int) < (d.log.length : Int) := by omega
            have n1 : 0 < d.log.length := by omega
            have hM : Hid _ := apply_not_bare (s := s) q1 (by unfold bareM; rw [decide_eq_false hn0]; rfl)
            have hz := hR.row (stC st0 none 0)
            have hbz := below_setRow hb (show w.heap.size ≤ w.heap.size + 1 + 1 by omega) (stC st0 none 0)
            go_wp2_with ((with_reducible refine at_open ?_); first
              | (refine wpList_build_has (by rfl) 40 #[] rfl (stC st0 none 0) (by simpa using st_built0) ?_)
              | (refine wpList_store_has (by rfl) 40 _ _ rfl (w.heap.size + 1 + 1) rfl (stC st0 none 0) rfl 40 (stC st0 none 0) (st_size _ _ _) (st_same _ _ _ _ _ _) (st_one _ _ _) ?hg ?_; (case hg => exact hR))
              | fail)
            refine ret_has_tmp rfl (w.heap.size + 1 + 1) rfl 40 (stC (st0) none 0) _ Try.underlying40 rfl (st_size _ _ _) hz rfl ⟨_, _, by rw [hM.out]; rfl, ?_⟩
            rw [hM.out]
            exact ⟨Sl.nothing _ _, hbz⟩
end Go.Proofs.Ytphlfepgaghhhaa
