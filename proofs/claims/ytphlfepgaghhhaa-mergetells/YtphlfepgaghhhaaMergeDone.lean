/- MergeTurn, MergeMake, MergeFace, joined. -/
import Derived.Test.YtphlfepgaghhhaaMergeWays
import Derived.Test.YtphlfepgaghhhaaLogRow
namespace Go.Proofs.Ytphlfepgaghhhaa
set_option linter.unusedSimpArgs false
set_option linter.unusedVariables false
set_option maxRecDepth 100000
open Go.RowKit

set_option maxHeartbeats 4000000 in
theorem turned_any (s : StV) (d : DiffV) (ao lo wo : Option Addr) (c lc wc : Nat) (w : World) (hs : StOk s) (hd : DiffOk d) (h : Sl w ao c 8 (entR s.log)) (hl : Sl w lo lc 8 (entR d.log)) (hwl : Sl w wo wc 8 (entR d.whole.log)) :
    Calls Try.prog 63 #[.agg (stC s ao c), .agg (diffC d lo lc wo wc)] w fun en w' => ∃ ro rc, en = .returned (.tuple #[.agg (stC (turnedM s d).1 ro rc), .bool (turnedM s d).2]) ∧ Sl w' ro rc 8 (entR (turnedM s d).1.log) ∧ Below w.heap.size w w' := by
  obtain ⟨w1, hw1, hX, hD, hR, hb⟩ := three_vars w 40 61 40 (stC s ao c) (diffC d lo lc wo wc) (stC st0 none 0)
  have l2 := hD.d_log
  have l1 := hD.d_from
  by_cases h0 : d.log.length = 0
  · have j0 : ((d.log.length : Int) == 0) = true := by rw [h0]; rfl
    have j0N : (d.log.length == 0) = true := by rw [h0]; rfl
    by_cases h1 : d.fr = 0
    · have j1 : ((d.fr : Int) == 0) = true := by rw [h1]; rfl
      have j1N : (d.fr == 0) = true := by rw [h1]; rfl
      have hBr : Hid (bareM d = true) := by show _ = _; unfold bareM; rw [decide_eq_true h0, decide_eq_true h1]; rfl
      clear h0 h1
      go_enter Try.func63, Try.ntmps63
      have k0 := hD.d_kind
      have hwh := hD.d_whole
      by_cases q0 : d.kind = 0
      · have i0 : (d.kind == 0) = true := by rw [q0]; rfl
        have hM : Hid (turnedM s d = ((endedM s d.whole).1, (endedM s d.whole).2 && bareM d)) := by show _ = _; unfold turnedM; rw [if_pos q0]
        rw [hBr.out] at hM
        clear q0
        go_wp2_with (first
          | (refine wpList_alloc_has (by rfl) 40 rfl (stC st0 none 0) st_zero ?_; rw [hw1])
          | (refine wpList_load_has (by rfl) 40 _ rfl (w.heap.size) rfl 40 (stC s ao c) _ Try.underlying40 rfl (st_size _ _ _) ?hg ?_; (case hg => exact hX))
          | (refine wpList_load_mid' (by rfl) 40 _ rfl (w.heap.size + 1) (3) rfl (stL d.whole wo wc) _ ?hg Try.underlying40 rfl (st_size _ _ _) ?_; (case hg => exact hwh))
          | fail)
        refine (ended_any s d.whole ao wo c wc _ hs hd.whole (h.later hb)).mono ?_
        rintro en w2 ⟨ro, rc, rfl, hG⟩
        have hS2 := hG.sl
        have hlt0 := hR.lt
        have hnew : ∀ d, ro = some d → w.heap.size + 1 + 1 < d.block := fun d hd => by have := hG.new d hd; omega
        replace hR := hR.later hG.below
        replace hb := hb.trans (hG.below.mono hb.size)
        clear hG hX hD k0 hwh
        generalize (endedM s d.whole).1 = T at *
        generalize (endedM s d.whole).2 = b at *
        obtain ⟨w3, hw3, hT, hq⟩ := new_var w2 40 (stC st0 none 0) (stC T ro rc)
        replace hR := hR.later hq
        replace hS2 := hS2.later hq
        replace hb := hb.trans (hq.mono hb.size)
        clear hq
        have hz := hR.row (stC T ro rc)
        have hsl := hS2.row_other (k := w.heap.size + 1 + 1) (fun d hd => by have := hnew d hd; omega) (stC T ro rc)
        have hbz := below_setRow hb (show w.heap.size ≤ w.heap.size + 1 + 1 by omega) (stC T ro rc)
        cases b with
        | false =>
          go_wp2_with (first
            | (refine wpList_alloc_has (by rfl) 40 rfl (stC st0 none 0) st_zero ?_)
            | (refine wpList_store_to (by rfl) 40 _ _ rfl w2.heap.size rfl (stC T ro rc) rfl 40 (stC st0 none 0) (st_size _ _ _) (st_same _ _ _ _ _ _) (st_one _ _ _) ?hg w3 ?hW ?_; (case hg => exact Has.new _ _ _); (case hW => exact hw3); clear hw3)
            | (refine wpList_load_has (by rfl) 40 _ rfl (w2.heap.size) rfl 40 (stC T ro rc) _ Try.underlying40 rfl (st_size _ _ _) ?hg ?_; (case hg => exact hT))
            | (refine wpList_store_has (by rfl) 40 _ _ rfl (w.heap.size + 1 + 1) rfl (stC T ro rc) rfl 40 (stC st0 none 0) (st_size _ _ _) (st_same _ _ _ _ _ _) (st_one _ _ _) ?hg ?_; (case hg => exact hR))
            | fail)
          refine ret_has_tmp rfl (w.heap.size + 1 + 1) rfl 40 (stC (T) ro rc) _ Try.underlying40 rfl (st_size _ _ _) hz rfl ⟨_, _, by rw [hM.out]; rfl, ?_⟩
          rw [hM.out]
          exact ⟨hsl, hbz⟩
        | true =>
          go_wp2_with (first
            | (refine wpList_alloc_has (by rfl) 40 rfl (stC st0 none 0) st_zero ?_)
            | (refine wpList_store_to (by rfl) 40 _ _ rfl w2.heap.size rfl (stC T ro rc) rfl 40 (stC st0 none 0) (st_size _ _ _) (st_same _ _ _ _ _ _) (st_one _ _ _) ?hg w3 ?hW ?_; (case hg => exact Has.new _ _ _); (case hW => exact hw3); clear hw3)
            | (refine wpList_load_has (by rfl) 40 _ rfl (w2.heap.size) rfl 40 (stC T ro rc) _ Try.underlying40 rfl (st_size _ _ _) ?hg ?_; (case hg => exact hT))
            | (refine wpList_store_has (by rfl) 40 _ _ rfl (w.heap.size + 1 + 1) rfl (stC T ro rc) rfl 40 (stC st0 none 0) (st_size _ _ _) (st_same _ _ _ _ _ _) (st_one _ _ _) ?hg ?_; (case hg => exact hR))
            | fail)
          refine ret_has_tmp rfl (w.heap.size + 1 + 1) rfl 40 (stC (T) ro rc) _ Try.underlying40 rfl (st_size _ _ _) hz rfl ⟨_, _, by rw [hM.out]; rfl, ?_⟩
          rw [hM.out]
          exact ⟨hsl, hbz⟩
      · have i0 : (d.kind == 0) = false := by rw [beq_eq_false_iff_ne]; exact q0
        by_cases q1 : d.kind = 1
        · have i1 : (d.kind == 1) = true := by rw [q1]; rfl
          have hM : Hid (turnedM s d = if (rewM s d.fr d.log).2 = 0 then endedM (rewM s d.fr d.log).1 d.whole else (st0, false)) := by show _ = _; unfold turnedM; rw [if_neg q0, if_pos q1]
          have k1 := hD.d_from
          have k2 := hD.d_log
          clear q0 q1
          go_wp2_with (first
            | (refine wpList_alloc_has (by rfl) 40 rfl (stC st0 none 0) st_zero ?_; rw [hw1])
            | (refine wpList_load_has (by rfl) 40 _ rfl (w.heap.size) rfl 40 (stC s ao c) _ Try.underlying40 rfl (st_size _ _ _) ?hg ?_; (case hg => exact hX))
            | fail)
          refine (rewritten_any s ao lo c lc d.fr d.log _ hs (h.later hb) hd.fr (hl.later hb) hd.log hd.len).mono ?_
          rintro en w2 ⟨ro, rc, rfl, hG⟩
          have hS2 := hG.sl
          have hPo := rew_fit hs d.fr hd.log
          replace hR := hR.later hG.below
          replace hD := hD.later hG.below
          replace hb := hb.trans (hG.below.mono hb.size)
          clear hG hX k0 k1 k2 hwh
          generalize rewM s d.fr d.log = P at *
          obtain ⟨w3, hw3, hT, hq⟩ := new_var w2 40 (stC st0 none 0) (stC P.1 ro rc)
          replace hR := hR.later hq
          replace hD := hD.later hq
          replace hS2 := hS2.later hq
          replace hb := hb.trans (hq.mono hb.size)
          clear hq
          have hwh := hD.d_whole
          by_cases hp : P.2 = 0
          · rw [decide_eq_true hp]
            rw [if_pos hp] at hM
            clear hp
            go_wp2_with (first
              | (refine wpList_alloc_has (by rfl) 40 rfl (stC st0 none 0) st_zero ?_)
              | (refine wpList_store_to (by rfl) 40 _ _ rfl w2.heap.size rfl (stC P.1 ro rc) rfl 40 (stC st0 none 0) (st_size _ _ _) (st_same _ _ _ _ _ _) (st_one _ _ _) ?hg w3 ?hW ?_; (case hg => exact Has.new _ _ _); (case hW => exact hw3); clear hw3)
              | (refine wpList_load_has (by rfl) 40 _ rfl (w2.heap.size) rfl 40 (stC P.1 ro rc) _ Try.underlying40 rfl (st_size _ _ _) ?hg ?_; (case hg => exact hT))
              | (refine wpList_load_mid' (by rfl) 40 _ rfl (w.heap.size + 1) (3) rfl (stL d.whole wo wc) _ ?hg Try.underlying40 rfl (st_size _ _ _) ?_; (case hg => exact hwh))
              | fail)
            refine (ended_any P.1 d.whole ro wo rc wc _ hPo hd.whole hS2).mono ?_
            rintro en w4 ⟨so, sc, rfl, hG⟩
            have hS4 := hG.sl
            have hlt0 := hR.lt
            have hnew : ∀ d, so = some d → w.heap.size + 1 + 1 < d.block := fun d hd => by have := hG.new d hd; omega
            replace hR := hR.later hG.below
            replace hb := hb.trans (hG.below.mono hb.size)
            clear hG hT hD hwh hS2
            generalize (endedM P.1 d.whole) = T at *
            have hz := hR.row (stC T.1 so sc)
            have hsl := hS4.row_other (k := w.heap.size + 1 + 1) (fun d hd => by have := hnew d hd; omega) (stC T.1 so sc)
            have hbz := below_setRow hb (show w.heap.size ≤ w.heap.size + 1 + 1 by omega) (stC T.1 so sc)
            go_wp2_with (first
              | (refine wpList_store_has (by rfl) 40 _ _ rfl (w.heap.size + 1 + 1) rfl (stC T.1 so sc) rfl 40 (stC st0 none 0) (st_size _ _ _) (st_same _ _ _ _ _ _) (st_one _ _ _) ?hg ?_; (case hg => exact hR))
              | fail)
            refine ret_has_tmp rfl (w.heap.size + 1 + 1) rfl 40 (stC (T.1) so sc) _ Try.underlying40 rfl (st_size _ _ _) hz rfl ⟨_, _, by rw [hM.out]; rfl, ?_⟩
            rw [hM.out]
            exact ⟨hsl, hbz⟩
          · rw [decide_eq_false hp]
            rw [if_neg hp] at hM
            clear hp
            have hz := hR.row (stC st0 none 0)
            have hbz := below_setRow hb (show w.heap.size ≤ w.heap.size + 1 + 1 by omega) (stC st0 none 0)
            go_wp2_with (first
              | (refine wpList_alloc_has (by rfl) 40 rfl (stC st0 none 0) st_zero ?_)
              | (refine wpList_store_to (by rfl) 40 _ _ rfl w2.heap.size rfl (stC P.1 ro rc) rfl 40 (stC st0 none 0) (st_size _ _ _) (st_same _ _ _ _ _ _) (st_one _ _ _) ?hg w3 ?hW ?_; (case hg => exact Has.new _ _ _); (case hW => exact hw3); clear hw3)
              | (refine wpList_build_has (by rfl) 40 #[] rfl (stC st0 none 0) (by simpa using st_built0) ?_)
              | (refine wpList_store_has (by rfl) 40 _ _ rfl (w.heap.size + 1 + 1) rfl (stC st0 none 0) rfl 40 (stC st0 none 0) (st_size _ _ _) (st_same _ _ _ _ _ _) (st_one _ _ _) ?hg ?_; (case hg => exact hR))
              | fail)
            refine ret_has_tmp rfl (w.heap.size + 1 + 1) rfl 40 (stC (st0) none 0) _ Try.underlying40 rfl (st_size _ _ _) hz rfl ⟨_, _, by rw [hM.out]; rfl, ?_⟩
            rw [hM.out]
            exact ⟨Sl.nothing _ _, hbz⟩
        · have i1 : (d.kind == 1) = false := by rw [beq_eq_false_iff_ne]; exact q1
          by_cases q2 : d.kind = 2
          · have i2 : (d.kind == 2) = true := by rw [q2]; rfl
            have hM : Hid (turnedM s d = (d.whole, bareM d)) := by show _ = _; unfold turnedM; rw [if_neg q0, if_neg q1, if_pos q2]
            rw [hBr.out] at hM
            clear q0 q1 q2
            have hz := hR.row (stC d.whole wo wc)
            have hbz := below_setRow hb (show w.heap.size ≤ w.heap.size + 1 + 1 by omega) (stC d.whole wo wc)
            go_wp2_with (first
              | (refine wpList_alloc_has (by rfl) 40 rfl (stC st0 none 0) st_zero ?_; rw [hw1])
              | (refine wpList_load_mid' (by rfl) 40 _ rfl (w.heap.size + 1) (3) rfl (stL d.whole wo wc) _ ?hg Try.underlying40 rfl (st_size _ _ _) ?_; (case hg => exact hwh))
              | (refine wpList_store_has (by rfl) 40 _ _ rfl (w.heap.size + 1 + 1) rfl (stC d.whole wo wc) rfl 40 (stC st0 none 0) (st_size _ _ _) (st_same _ _ _ _ _ _) (st_one _ _ _) ?hg ?_; (case hg => exact hR))
              | fail)
            refine ret_has_tmp rfl (w.heap.size + 1 + 1) rfl 40 (stC (d.whole) wo wc) _ Try.underlying40 rfl (st_size _ _ _) hz rfl ⟨_, _, by rw [hM.out]; rfl, ?_⟩
            rw [hM.out]
            exact ⟨hwl.later hbz, hbz⟩
          · have i2 : (d.kind == 2) = false := by rw [beq_eq_false_iff_ne]; exact q2
            have hM : Hid (turnedM s d = (st0, false)) := by show _ = _; unfold turnedM; rw [if_neg q0, if_neg q1, if_neg q2]
            clear q0 q1 q2
            have hz := hR.row (stC st0 none 0)
            have hbz := below_setRow hb (show w.heap.size ≤ w.heap.size + 1 + 1 by omega) (stC st0 none 0)
            go_wp2_with (first
              | (refine wpList_alloc_has (by rfl) 40 rfl (stC st0 none 0) st_zero ?_; rw [hw1])
              | (refine wpList_build_has (by rfl) 40 #[] rfl (stC st0 none 0) (by simpa using st_built0) ?_)
              | (refine wpList_store_has (by rfl) 40 _ _ rfl (w.heap.size + 1 + 1) rfl (stC st0 none 0) rfl 40 (stC st0 none 0) (st_size _ _ _) (st_same _ _ _ _ _ _) (st_one _ _ _) ?hg ?_; (case hg => exact hR))
              | fail)
            refine ret_has_tmp rfl (w.heap.size + 1 + 1) rfl 40 (stC (st0) none 0) _ Try.underlying40 rfl (st_size _ _ _) hz rfl ⟨_, _, by rw [hM.out]; rfl, ?_⟩
            rw [hM.out]
            exact ⟨Sl.nothing _ _, hbz⟩
    · have j1 : ((d.fr : Int) == 0) = false := by rw [beq_eq_false_iff_ne]; omega
      have j1N : (d.fr == 0) = false := by rw [beq_eq_false_iff_ne]; omega
      have hBr : Hid (bareM d = false) := by show _ = _; unfold bareM; rw [decide_eq_true h0, decide_eq_false h1]; rfl
      clear h0 h1
      go_enter Try.func63, Try.ntmps63
      have k0 := hD.d_kind
      have hwh := hD.d_whole
      by_cases q0 : d.kind = 0
      · have i0 : (d.kind == 0) = true := by rw [q0]; rfl
        have hM : Hid (turnedM s d = ((endedM s d.whole).1, (endedM s d.whole).2 && bareM d)) := by show _ = _; unfold turnedM; rw [if_pos q0]
        rw [hBr.out] at hM
        clear q0
        go_wp2_with (first
          | (refine wpList_alloc_has (by rfl) 40 rfl (stC st0 none 0) st_zero ?_; rw [hw1])
          | (refine wpList_load_has (by rfl) 40 _ rfl (w.heap.size) rfl 40 (stC s ao c) _ Try.underlying40 rfl (st_size _ _ _) ?hg ?_; (case hg => exact hX))
          | (refine wpList_load_mid' (by rfl) 40 _ rfl (w.heap.size + 1) (3) rfl (stL d.whole wo wc) _ ?hg Try.underlying40 rfl (st_size _ _ _) ?_; (case hg => exact hwh))
          | fail)
        refine (ended_any s d.whole ao wo c wc _ hs hd.whole (h.later hb)).mono ?_
        rintro en w2 ⟨ro, rc, rfl, hG⟩
        have hS2 := hG.sl
        have hlt0 := hR.lt
        have hnew : ∀ d, ro = some d → w.heap.size + 1 + 1 < d.block := fun d hd => by have := hG.new d hd; omega
        replace hR := hR.later hG.below
        replace hb := hb.trans (hG.below.mono hb.size)
        clear hG hX hD k0 hwh
        generalize (endedM s d.whole).1 = T at *
        generalize (endedM s d.whole).2 = b at *
        obtain ⟨w3, hw3, hT, hq⟩ := new_var w2 40 (stC st0 none 0) (stC T ro rc)
        replace hR := hR.later hq
        replace hS2 := hS2.later hq
        replace hb := hb.trans (hq.mono hb.size)
        clear hq
        have hz := hR.row (stC T ro rc)
        have hsl := hS2.row_other (k := w.heap.size + 1 + 1) (fun d hd => by have := hnew d hd; omega) (stC T ro rc)
        have hbz := below_setRow hb (show w.heap.size ≤ w.heap.size + 1 + 1 by omega) (stC T ro rc)
        cases b with
        | false =>
          go_wp2_with (first
            | (refine wpList_alloc_has (by rfl) 40 rfl (stC st0 none 0) st_zero ?_)
            | (refine wpList_store_to (by rfl) 40 _ _ rfl w2.heap.size rfl (stC T ro rc) rfl 40 (stC st0 none 0) (st_size _ _ _) (st_same _ _ _ _ _ _) (st_one _ _ _) ?hg w3 ?hW ?_; (case hg => exact Has.new _ _ _); (case hW => exact hw3); clear hw3)
            | (refine wpList_load_has (by rfl) 40 _ rfl (w2.heap.size) rfl 40 (stC T ro rc) _ Try.underlying40 rfl (st_size _ _ _) ?hg ?_; (case hg => exact hT))
            | (refine wpList_store_has (by rfl) 40 _ _ rfl (w.heap.size + 1 + 1) rfl (stC T ro rc) rfl 40 (stC st0 none 0) (st_size _ _ _) (st_same _ _ _ _ _ _) (st_one _ _ _) ?hg ?_; (case hg => exact hR))
            | fail)
          refine ret_has_tmp rfl (w.heap.size + 1 + 1) rfl 40 (stC (T) ro rc) _ Try.underlying40 rfl (st_size _ _ _) hz rfl ⟨_, _, by rw [hM.out]; rfl, ?_⟩
          rw [hM.out]
          exact ⟨hsl, hbz⟩
        | true =>
          go_wp2_with (first
            | (refine wpList_alloc_has (by rfl) 40 rfl (stC st0 none 0) st_zero ?_)
            | (refine wpList_store_to (by rfl) 40 _ _ rfl w2.heap.size rfl (stC T ro rc) rfl 40 (stC st0 none 0) (st_size _ _ _) (st_same _ _ _ _ _ _) (st_one _ _ _) ?hg w3 ?hW ?_; (case hg => exact Has.new _ _ _); (case hW => exact hw3); clear hw3)
            | (refine wpList_load_has (by rfl) 40 _ rfl (w2.heap.size) rfl 40 (stC T ro rc) _ Try.underlying40 rfl (st_size _ _ _) ?hg ?_; (case hg => exact hT))
            | (refine wpList_store_has (by rfl) 40 _ _ rfl (w.heap.size + 1 + 1) rfl (stC T ro rc) rfl 40 (stC st0 none 0) (st_size _ _ _) (st_same _ _ _ _ _ _) (st_one _ _ _) ?hg ?_; (case hg => exact hR))
            | fail)
          refine ret_has_tmp rfl (w.heap.size + 1 + 1) rfl 40 (stC (T) ro rc) _ Try.underlying40 rfl (st_size _ _ _) hz rfl ⟨_, _, by rw [hM.out]; rfl, ?_⟩
          rw [hM.out]
          exact ⟨hsl, hbz⟩
      · have i0 : (d.kind == 0) = false := by rw [beq_eq_false_iff_ne]; exact q0
        by_cases q1 : d.kind = 1
        · have i1 : (d.kind == 1) = true := by rw [q1]; rfl
          have hM : Hid (turnedM s d = if (rewM s d.fr d.log).2 = 0 then endedM (rewM s d.fr d.log).1 d.whole else (st0, false)) := by show _ = _; unfold turnedM; rw [if_neg q0, if_pos q1]
          have k1 := hD.d_from
          have k2 := hD.d_log
          clear q0 q1
          go_wp2_with (first
            | (refine wpList_alloc_has (by rfl) 40 rfl (stC st0 none 0) st_zero ?_; rw [hw1])
            | (refine wpList_load_has (by rfl) 40 _ rfl (w.heap.size) rfl 40 (stC s ao c) _ Try.underlying40 rfl (st_size _ _ _) ?hg ?_; (case hg => exact hX))
            | fail)
          refine (rewritten_any s ao lo c lc d.fr d.log _ hs (h.later hb) hd.fr (hl.later hb) hd.log hd.len).mono ?_
          rintro en w2 ⟨ro, rc, rfl, hG⟩
          have hS2 := hG.sl
          have hPo := rew_fit hs d.fr hd.log
          replace hR := hR.later hG.below
          replace hD := hD.later hG.below
          replace hb := hb.trans (hG.below.mono hb.size)
          clear hG hX k0 k1 k2 hwh
          generalize rewM s d.fr d.log = P at *
          obtain ⟨w3, hw3, hT, hq⟩ := new_var w2 40 (stC st0 none 0) (stC P.1 ro rc)
          replace hR := hR.later hq
          replace hD := hD.later hq
          replace hS2 := hS2.later hq
          replace hb := hb.trans (hq.mono hb.size)
          clear hq
          have hwh := hD.d_whole
          by_cases hp : P.2 = 0
          · rw [decide_eq_true hp]
            rw [if_pos hp] at hM
            clear hp
            go_wp2_with (first
              | (refine wpList_alloc_has (by rfl) 40 rfl (stC st0 none 0) st_zero ?_)
              | (refine wpList_store_to (by rfl) 40 _ _ rfl w2.heap.size rfl (stC P.1 ro rc) rfl 40 (stC st0 none 0) (st_size _ _ _) (st_same _ _ _ _ _ _) (st_one _ _ _) ?hg w3 ?hW ?_; (case hg => exact Has.new _ _ _); (case hW => exact hw3); clear hw3)
              | (refine wpList_load_has (by rfl) 40 _ rfl (w2.heap.size) rfl 40 (stC P.1 ro rc) _ Try.underlying40 rfl (st_size _ _ _) ?hg ?_; (case hg => exact hT))
              | (refine wpList_load_mid' (by rfl) 40 _ rfl (w.heap.size + 1) (3) rfl (stL d.whole wo wc) _ ?hg Try.underlying40 rfl (st_size _ _ _) ?_; (case hg => exact hwh))
              | fail)
            refine (ended_any P.1 d.whole ro wo rc wc _ hPo hd.whole hS2).mono ?_
            rintro en w4 ⟨so, sc, rfl, hG⟩
            have hS4 := hG.sl
            have hlt0 := hR.lt
            have hnew : ∀ d, so = some d → w.heap.size + 1 + 1 < d.block := fun d hd => by have := hG.new d hd; omega
            replace hR := hR.later hG.below
            replace hb := hb.trans (hG.below.mono hb.size)
            clear hG hT hD hwh hS2
            generalize (endedM P.1 d.whole) = T at *
            have hz := hR.row (stC T.1 so sc)
            have hsl := hS4.row_other (k := w.heap.size + 1 + 1) (fun d hd => by have := hnew d hd; omega) (stC T.1 so sc)
            have hbz := below_setRow hb (show w.heap.size ≤ w.heap.size + 1 + 1 by omega) (stC T.1 so sc)
            go_wp2_with (first
              | (refine wpList_store_has (by rfl) 40 _ _ rfl (w.heap.size + 1 + 1) rfl (stC T.1 so sc) rfl 40 (stC st0 none 0) (st_size _ _ _) (st_same _ _ _ _ _ _) (st_one _ _ _) ?hg ?_; (case hg => exact hR))
              | fail)
            refine ret_has_tmp rfl (w.heap.size + 1 + 1) rfl 40 (stC (T.1) so sc) _ Try.underlying40 rfl (st_size _ _ _) hz rfl ⟨_, _, by rw [hM.out]; rfl, ?_⟩
            rw [hM.out]
            exact ⟨hsl, hbz⟩
          · rw [decide_eq_false hp]
            rw [if_neg hp] at hM
            clear hp
            have hz := hR.row (stC st0 none 0)
            have hbz := below_setRow hb (show w.heap.size ≤ w.heap.size + 1 + 1 by omega) (stC st0 none 0)
            go_wp2_with (first
              | (refine wpList_alloc_has (by rfl) 40 rfl (stC st0 none 0) st_zero ?_)
              | (refine wpList_store_to (by rfl) 40 _ _ rfl w2.heap.size rfl (stC P.1 ro rc) rfl 40 (stC st0 none 0) (st_size _ _ _) (st_same _ _ _ _ _ _) (st_one _ _ _) ?hg w3 ?hW ?_; (case hg => exact Has.new _ _ _); (case hW => exact hw3); clear hw3)
              | (refine wpList_build_has (by rfl) 40 #[] rfl (stC st0 none 0) (by simpa using st_built0) ?_)
              | (refine wpList_store_has (by rfl) 40 _ _ rfl (w.heap.size + 1 + 1) rfl (stC st0 none 0) rfl 40 (stC st0 none 0) (st_size _ _ _) (st_same _ _ _ _ _ _) (st_one _ _ _) ?hg ?_; (case hg => exact hR))
              | fail)
            refine ret_has_tmp rfl (w.heap.size + 1 + 1) rfl 40 (stC (st0) none 0) _ Try.underlying40 rfl (st_size _ _ _) hz rfl ⟨_, _, by rw [hM.out]; rfl, ?_⟩
            rw [hM.out]
            exact ⟨Sl.nothing _ _, hbz⟩
        · have i1 : (d.kind == 1) = false := by rw [beq_eq_false_iff_ne]; exact q1
          by_cases q2 : d.kind = 2
          · have i2 : (d.kind == 2) = true := by rw [q2]; rfl
            have hM : Hid (turnedM s d = (d.whole, bareM d)) := by show _ = _; unfold turnedM; rw [if_neg q0, if_neg q1, if_pos q2]
            rw [hBr.out] at hM
            clear q0 q1 q2
            have hz := hR.row (stC d.whole wo wc)
            have hbz := below_setRow hb (show w.heap.size ≤ w.heap.size + 1 + 1 by omega) (stC d.whole wo wc)
            go_wp2_with (first
              | (refine wpList_alloc_has (by rfl) 40 rfl (stC st0 none 0) st_zero ?_; rw [hw1])
              | (refine wpList_load_mid' (by rfl) 40 _ rfl (w.heap.size + 1) (3) rfl (stL d.whole wo wc) _ ?hg Try.underlying40 rfl (st_size _ _ _) ?_; (case hg => exact hwh))
              | (refine wpList_store_has (by rfl) 40 _ _ rfl (w.heap.size + 1 + 1) rfl (stC d.whole wo wc) rfl 40 (stC st0 none 0) (st_size _ _ _) (st_same _ _ _ _ _ _) (st_one _ _ _) ?hg ?_; (case hg => exact hR))
              | fail)
            refine ret_has_tmp rfl (w.heap.size + 1 + 1) rfl 40 (stC (d.whole) wo wc) _ Try.underlying40 rfl (st_size _ _ _) hz rfl ⟨_, _, by rw [hM.out]; rfl, ?_⟩
            rw [hM.out]
            exact ⟨hwl.later hbz, hbz⟩
          · have i2 : (d.kind == 2) = false := by rw [beq_eq_false_iff_ne]; exact q2
            have hM : Hid (turnedM s d = (st0, false)) := by show _ = _; unfold turnedM; rw [if_neg q0, if_neg q1, if_neg q2]
            clear q0 q1 q2
            have hz := hR.row (stC st0 none 0)
            have hbz := below_setRow hb (show w.heap.size ≤ w.heap.size + 1 + 1 by omega) (stC st0 none 0)
            go_wp2_with (first
              | (refine wpList_alloc_has (by rfl) 40 rfl (stC st0 none 0) st_zero ?_; rw [hw1])
              | (refine wpList_build_has (by rfl) 40 #[] rfl (stC st0 none 0) (by simpa using st_built0) ?_)
              | (refine wpList_store_has (by rfl) 40 _ _ rfl (w.heap.size + 1 + 1) rfl (stC st0 none 0) rfl 40 (stC st0 none 0) (st_size _ _ _) (st_same _ _ _ _ _ _) (st_one _ _ _) ?hg ?_; (case hg => exact hR))
              | fail)
            refine ret_has_tmp rfl (w.heap.size + 1 + 1) rfl 40 (stC (st0) none 0) _ Try.underlying40 rfl (st_size _ _ _) hz rfl ⟨_, _, by rw [hM.out]; rfl, ?_⟩
            rw [hM.out]
            exact ⟨Sl.nothing _ _, hbz⟩
  · have j0 : ((d.log.length : Int) == 0) = false := by rw [beq_eq_false_iff_ne]; omega
    have j0N : (d.log.length == 0) = false := by rw [beq_eq_false_iff_ne]; omega
    have hBr : Hid (bareM d = false) := by show _ = _; unfold bareM; rw [decide_eq_false h0]; rfl
    clear h0
    go_enter Try.func63, Try.ntmps63
    have k0 := hD.d_kind
    have hwh := hD.d_whole
    by_cases q0 : d.kind = 0
    · have i0 : (d.kind == 0) = true := by rw [q0]; rfl
      have hM : Hid (turnedM s d = ((endedM s d.whole).1, (endedM s d.whole).2 && bareM d)) := by show _ = _; unfold turnedM; rw [if_pos q0]
      rw [hBr.out] at hM
      clear q0
      go_wp2_with (first
        | (refine wpList_alloc_has (by rfl) 40 rfl (stC st0 none 0) st_zero ?_; rw [hw1])
        | (refine wpList_load_has (by rfl) 40 _ rfl (w.heap.size) rfl 40 (stC s ao c) _ Try.underlying40 rfl (st_size _ _ _) ?hg ?_; (case hg => exact hX))
        | (refine wpList_load_mid' (by rfl) 40 _ rfl (w.heap.size + 1) (3) rfl (stL d.whole wo wc) _ ?hg Try.underlying40 rfl (st_size _ _ _) ?_; (case hg => exact hwh))
        | fail)
      refine (ended_any s d.whole ao wo c wc _ hs hd.whole (h.later hb)).mono ?_
      rintro en w2 ⟨ro, rc, rfl, hG⟩
      have hS2 := hG.sl
      have hlt0 := hR.lt
      have hnew : ∀ d, ro = some d → w.heap.size + 1 + 1 < d.block := fun d hd => by have := hG.new d hd; omega
      replace hR := hR.later hG.below
      replace hb := hb.trans (hG.below.mono hb.size)
      clear hG hX hD k0 hwh
      generalize (endedM s d.whole).1 = T at *
      generalize (endedM s d.whole).2 = b at *
      obtain ⟨w3, hw3, hT, hq⟩ := new_var w2 40 (stC st0 none 0) (stC T ro rc)
      replace hR := hR.later hq
      replace hS2 := hS2.later hq
      replace hb := hb.trans (hq.mono hb.size)
      clear hq
      have hz := hR.row (stC T ro rc)
      have hsl := hS2.row_other (k := w.heap.size + 1 + 1) (fun d hd => by have := hnew d hd; omega) (stC T ro rc)
      have hbz := below_setRow hb (show w.heap.size ≤ w.heap.size + 1 + 1 by omega) (stC T ro rc)
      cases b with
      | false =>
        go_wp2_with (first
          | (refine wpList_alloc_has (by rfl) 40 rfl (stC st0 none 0) st_zero ?_)
          | (refine wpList_store_to (by rfl) 40 _ _ rfl w2.heap.size rfl (stC T ro rc) rfl 40 (stC st0 none 0) (st_size _ _ _) (st_same _ _ _ _ _ _) (st_one _ _ _) ?hg w3 ?hW ?_; (case hg => exact Has.new _ _ _); (case hW => exact hw3); clear hw3)
          | (refine wpList_load_has (by rfl) 40 _ rfl (w2.heap.size) rfl 40 (stC T ro rc) _ Try.underlying40 rfl (st_size _ _ _) ?hg ?_; (case hg => exact hT))
          | (refine wpList_store_has (by rfl) 40 _ _ rfl (w.heap.size + 1 + 1) rfl (stC T ro rc) rfl 40 (stC st0 none 0) (st_size _ _ _) (st_same _ _ _ _ _ _) (st_one _ _ _) ?hg ?_; (case hg => exact hR))
          | fail)
        refine ret_has_tmp rfl (w.heap.size + 1 + 1) rfl 40 (stC (T) ro rc) _ Try.underlying40 rfl (st_size _ _ _) hz rfl ⟨_, _, by rw [hM.out]; rfl, ?_⟩
        rw [hM.out]
        exact ⟨hsl, hbz⟩
      | true =>
        go_wp2_with (first
          | (refine wpList_alloc_has (by rfl) 40 rfl (stC st0 none 0) st_zero ?_)
          | (refine wpList_store_to (by rfl) 40 _ _ rfl w2.heap.size rfl (stC T ro rc) rfl 40 (stC st0 none 0) (st_size _ _ _) (st_same _ _ _ _ _ _) (st_one _ _ _) ?hg w3 ?hW ?_; (case hg => exact Has.new _ _ _); (case hW => exact hw3); clear hw3)
          | (refine wpList_load_has (by rfl) 40 _ rfl (w2.heap.size) rfl 40 (stC T ro rc) _ Try.underlying40 rfl (st_size _ _ _) ?hg ?_; (case hg => exact hT))
          | (refine wpList_store_has (by rfl) 40 _ _ rfl (w.heap.size + 1 + 1) rfl (stC T ro rc) rfl 40 (stC st0 none 0) (st_size _ _ _) (st_same _ _ _ _ _ _) (st_one _ _ _) ?hg ?_; (case hg => exact hR))
          | fail)
        refine ret_has_tmp rfl (w.heap.size + 1 + 1) rfl 40 (stC (T) ro rc) _ Try.underlying40 rfl (st_size _ _ _) hz rfl ⟨_, _, by rw [hM.out]; rfl, ?_⟩
        rw [hM.out]
        exact ⟨hsl, hbz⟩
    · have i0 : (d.kind == 0) = false := by rw [beq_eq_false_iff_ne]; exact q0
      by_cases q1 : d.kind = 1
      · have i1 : (d.kind == 1) = true := by rw [q1]; rfl
        have hM : Hid (turnedM s d = if (rewM s d.fr d.log).2 = 0 then endedM (rewM s d.fr d.log).1 d.whole else (st0, false)) := by show _ = _; unfold turnedM; rw [if_neg q0, if_pos q1]
        have k1 := hD.d_from
        have k2 := hD.d_log
        clear q0 q1
        go_wp2_with (first
          | (refine wpList_alloc_has (by rfl) 40 rfl (stC st0 none 0) st_zero ?_; rw [hw1])
          | (refine wpList_load_has (by rfl) 40 _ rfl (w.heap.size) rfl 40 (stC s ao c) _ Try.underlying40 rfl (st_size _ _ _) ?hg ?_; (case hg => exact hX))
          | fail)
        refine (rewritten_any s ao lo c lc d.fr d.log _ hs (h.later hb) hd.fr (hl.later hb) hd.log hd.len).mono ?_
        rintro en w2 ⟨ro, rc, rfl, hG⟩
        have hS2 := hG.sl
        have hPo := rew_fit hs d.fr hd.log
        replace hR := hR.later hG.below
        replace hD := hD.later hG.below
        replace hb := hb.trans (hG.below.mono hb.size)
        clear hG hX k0 k1 k2 hwh
        generalize rewM s d.fr d.log = P at *
        obtain ⟨w3, hw3, hT, hq⟩ := new_var w2 40 (stC st0 none 0) (stC P.1 ro rc)
        replace hR := hR.later hq
        replace hD := hD.later hq
        replace hS2 := hS2.later hq
        replace hb := hb.trans (hq.mono hb.size)
        clear hq
        have hwh := hD.d_whole
        by_cases hp : P.2 = 0
        · rw [decide_eq_true hp]
          rw [if_pos hp] at hM
          clear hp
          go_wp2_with (first
            | (refine wpList_alloc_has (by rfl) 40 rfl (stC st0 none 0) st_zero ?_)
            | (refine wpList_store_to (by rfl) 40 _ _ rfl w2.heap.size rfl (stC P.1 ro rc) rfl 40 (stC st0 none 0) (st_size _ _ _) (st_same _ _ _ _ _ _) (st_one _ _ _) ?hg w3 ?hW ?_; (case hg => exact Has.new _ _ _); (case hW => exact hw3); clear hw3)
            | (refine wpList_load_has (by rfl) 40 _ rfl (w2.heap.size) rfl 40 (stC P.1 ro rc) _ Try.underlying40 rfl (st_size _ _ _) ?hg ?_; (case hg => exact hT))
            | (refine wpList_load_mid' (by rfl) 40 _ rfl (w.heap.size + 1) (3) rfl (stL d.whole wo wc) _ ?hg Try.underlying40 rfl (st_size _ _ _) ?_; (case hg => exact hwh))
            | fail)
          refine (ended_any P.1 d.whole ro wo rc wc _ hPo hd.whole hS2).mono ?_
          rintro en w4 ⟨so, sc, rfl, hG⟩
          have hS4 := hG.sl
          have hlt0 := hR.lt
          have hnew : ∀ d, so = some d → w.heap.size + 1 + 1 < d.block := fun d hd => by have := hG.new d hd; omega
          replace hR := hR.later hG.below
          replace hb := hb.trans (hG.below.mono hb.size)
          clear hG hT hD hwh hS2
          generalize (endedM P.1 d.whole) = T at *
          have hz := hR.row (stC T.1 so sc)
          have hsl := hS4.row_other (k := w.heap.size + 1 + 1) (fun d hd => by have := hnew d hd; omega) (stC T.1 so sc)
          have hbz := below_setRow hb (show w.heap.size ≤ w.heap.size + 1 + 1 by omega) (stC T.1 so sc)
          go_wp2_with (first
            | (refine wpList_store_has (by rfl) 40 _ _ rfl (w.heap.size + 1 + 1) rfl (stC T.1 so sc) rfl 40 (stC st0 none 0) (st_size _ _ _) (st_same _ _ _ _ _ _) (st_one _ _ _) ?hg ?_; (case hg => exact hR))
            | fail)
          refine ret_has_tmp rfl (w.heap.size + 1 + 1) rfl 40 (stC (T.1) so sc) _ Try.underlying40 rfl (st_size _ _ _) hz rfl ⟨_, _, by rw [hM.out]; rfl, ?_⟩
          rw [hM.out]
          exact ⟨hsl, hbz⟩
        · rw [decide_eq_false hp]
          rw [if_neg hp] at hM
          clear hp
          have hz := hR.row (stC st0 none 0)
          have hbz := below_setRow hb (show w.heap.size ≤ w.heap.size + 1 + 1 by omega) (stC st0 none 0)
          go_wp2_with (first
            | (refine wpList_alloc_has (by rfl) 40 rfl (stC st0 none 0) st_zero ?_)
            | (refine wpList_store_to (by rfl) 40 _ _ rfl w2.heap.size rfl (stC P.1 ro rc) rfl 40 (stC st0 none 0) (st_size _ _ _) (st_same _ _ _ _ _ _) (st_one _ _ _) ?hg w3 ?hW ?_; (case hg => exact Has.new _ _ _); (case hW => exact hw3); clear hw3)
            | (refine wpList_build_has (by rfl) 40 #[] rfl (stC st0 none 0) (by simpa using st_built0) ?_)
            | (refine wpList_store_has (by rfl) 40 _ _ rfl (w.heap.size + 1 + 1) rfl (stC st0 none 0) rfl 40 (stC st0 none 0) (st_size _ _ _) (st_same _ _ _ _ _ _) (st_one _ _ _) ?hg ?_; (case hg => exact hR))
            | fail)
          refine ret_has_tmp rfl (w.heap.size + 1 + 1) rfl 40 (stC (st0) none 0) _ Try.underlying40 rfl (st_size _ _ _) hz rfl ⟨_, _, by rw [hM.out]; rfl, ?_⟩
          rw [hM.out]
          exact ⟨Sl.nothing _ _, hbz⟩
      · have i1 : (d.kind == 1) = false := by rw [beq_eq_false_iff_ne]; exact q1
        by_cases q2 : d.kind = 2
        · have i2 : (d.kind == 2) = true := by rw [q2]; rfl
          have hM : Hid (turnedM s d = (d.whole, bareM d)) := by show _ = _; unfold turnedM; rw [if_neg q0, if_neg q1, if_pos q2]
          rw [hBr.out] at hM
          clear q0 q1 q2
          have hz := hR.row (stC d.whole wo wc)
          have hbz := below_setRow hb (show w.heap.size ≤ w.heap.size + 1 + 1 by omega) (stC d.whole wo wc)
          go_wp2_with (first
            | (refine wpList_alloc_has (by rfl) 40 rfl (stC st0 none 0) st_zero ?_; rw [hw1])
            | (refine wpList_load_mid' (by rfl) 40 _ rfl (w.heap.size + 1) (3) rfl (stL d.whole wo wc) _ ?hg Try.underlying40 rfl (st_size _ _ _) ?_; (case hg => exact hwh))
            | (refine wpList_store_has (by rfl) 40 _ _ rfl (w.heap.size + 1 + 1) rfl (stC d.whole wo wc) rfl 40 (stC st0 none 0) (st_size _ _ _) (st_same _ _ _ _ _ _) (st_one _ _ _) ?hg ?_; (case hg => exact hR))
            | fail)
          refine ret_has_tmp rfl (w.heap.size + 1 + 1) rfl 40 (stC (d.whole) wo wc) _ Try.underlying40 rfl (st_size _ _ _) hz rfl ⟨_, _, by rw [hM.out]; rfl, ?_⟩
          rw [hM.out]
          exact ⟨hwl.later hbz, hbz⟩
        · have i2 : (d.kind == 2) = false := by rw [beq_eq_false_iff_ne]; exact q2
          have hM : Hid (turnedM s d = (st0, false)) := by show _ = _; unfold turnedM; rw [if_neg q0, if_neg q1, if_neg q2]
          clear q0 q1 q2
          have hz := hR.row (stC st0 none 0)
          have hbz := below_setRow hb (show w.heap.size ≤ w.heap.size + 1 + 1 by omega) (stC st0 none 0)
          go_wp2_with (first
            | (refine wpList_alloc_has (by rfl) 40 rfl (stC st0 none 0) st_zero ?_; rw [hw1])
            | (refine wpList_build_has (by rfl) 40 #[] rfl (stC st0 none 0) (by simpa using st_built0) ?_)
            | (refine wpList_store_has (by rfl) 40 _ _ rfl (w.heap.size + 1 + 1) rfl (stC st0 none 0) rfl 40 (stC st0 none 0) (st_size _ _ _) (st_same _ _ _ _ _ _) (st_one _ _ _) ?hg ?_; (case hg => exact hR))
            | fail)
          refine ret_has_tmp rfl (w.heap.size + 1 + 1) rfl 40 (stC (st0) none 0) _ Try.underlying40 rfl (st_size _ _ _) hz rfl ⟨_, _, by rw [hM.out]; rfl, ?_⟩
          rw [hM.out]
          exact ⟨Sl.nothing _ _, hbz⟩

theorem apply_no {s : StV} {d : DiffV} (h : isM s = false ∨ (turnedM s d).2 = false ∨ isM (turnedM s d).1 = false) : applyM s d = (st0, 80) := by
  unfold applyM
  rw [if_neg]
  rintro ⟨h1, h2, h3⟩
  rcases h with h | h | h
  · rw [h1] at h; cases h
  · rw [h2] at h; cases h
  · rw [h3] at h; cases h
theorem apply_yes {s : StV} {d : DiffV} (h1 : isM s = true) (h2 : (turnedM s d).2 = true) (h3 : isM (turnedM s d).1 = true) : applyM s d = ((turnedM s d).1, 0) := by
  unfold applyM
  rw [if_pos ⟨h1, h2, h3⟩]

set_option maxHeartbeats 4000000 in
theorem apply_any (s : StV) (d : DiffV) (ao lo wo : Option Addr) (c lc wc : Nat) (w : World) (hs : StOk s) (hd : DiffOk d) (h : Sl w ao c 8 (entR s.log)) (hl : Sl w lo lc 8 (entR d.log)) (hwl : Sl w wo wc 8 (entR d.whole.log)) :
    Calls Try.prog 33 #[.agg (stC s ao c), .agg (diffC d lo lc wo wc)] w fun en w' => ∃ ro rc, en = .returned (.tuple #[.agg (stC (applyM s d).1 ro rc), .int .i64 ((applyM s d).2 : Int)]) ∧ Gives w w' (applyM s d).1 ro rc := by
  obtain ⟨w1, hw1, hX, hD, hR, hb⟩ := three_vars w 40 61 40 (stC s ao c) (diffC d lo lc wo wc) (stC st0 none 0)
  go_enter Try.func33, Try.ntmps33
  go_wp2_with (first
    | (refine wpList_alloc_has (by rfl) 40 rfl (stC st0 none 0) st_zero ?_; rw [hw1])
    | (refine wpList_load_has (by rfl) 40 _ rfl (w.heap.size) rfl 40 (stC s ao c) _ Try.underlying40 rfl (st_size _ _ _) ?hg ?_; (case hg => exact hX))
    | fail)
  refine (is_any s ao c _ hs (h.later hb)).mono ?_
  rintro en w2 ⟨rfl, hq⟩
  replace hX := hX.later hq
  replace hD := hD.later hq
  replace hR := hR.later hq
  replace hb := hb.trans (hq.mono hb.size)
  clear hq hw1
  cases hi : isM s with
  | false =>
    have hM : Hid _ := apply_no (d := d) (.inl hi)
    have hz := hR.row (stC st0 none 0)
    have hbz := below_setRow hb (show w.heap.size ≤ w.heap.size + 1 + 1 by omega) (stC st0 none 0)
    go_wp2_with (first
      | (refine wpList_build_has (by rfl) 40 #[] rfl (stC st0 none 0) (by simpa using st_built0) ?_)
      | (refine wpList_store_has (by rfl) 40 _ _ rfl (w.heap.size + 1 + 1) rfl (stC st0 none 0) rfl 40 (stC st0 none 0) (st_size _ _ _) (st_same _ _ _ _ _ _) (st_one _ _ _) ?hg ?_; (case hg => exact hR))
      | fail)
    refine ret_has_tmp rfl (w.heap.size + 1 + 1) rfl 40 (stC (st0) none 0) _ Try.underlying40 rfl (st_size _ _ _) hz rfl ⟨_, _, by rw [hM.out]; rfl, ?_⟩
    rw [hM.out]
    exact Gives.zero hbz
  | true =>
    have hno : Hid _ := fun h => apply_no (s := s) (d := d) (.inr h)
    have hyes : Hid _ := apply_yes (s := s) (d := d) hi
    go_wp2_with (first
      | (refine wpList_load_has (by rfl) 40 _ rfl (w.heap.size) rfl 40 (stC s ao c) _ Try.underlying40 rfl (st_size _ _ _) ?hg ?_; (case hg => exact hX))
      | (refine wpList_load_has (by rfl) 61 _ rfl (w.heap.size + 1) rfl 61 (diffC d lo lc wo wc) _ Try.underlying61 rfl (diff_size _ _ _ _ _) ?hg ?_; (case hg => exact hD))
      | fail)
    refine (turned_any s d ao lo wo c lc wc _ hs hd (h.later hb) (hl.later hb) (hwl.later hb)).mono ?_
    rintro en w3 ⟨ro, rc, rfl, hS3, hq⟩
    have hTo := turned_fit hs hd
    replace hR := hR.later hq
    replace hb := hb.trans (hq.mono hb.size)
    clear hq hX hD
    generalize (turnedM s d).1 = T at *
    generalize (turnedM s d).2 = b at *
    obtain ⟨w4, hw4, hT, hq⟩ := new_var w3 40 (stC st0 none 0) (stC T ro rc)
    replace hR := hR.later hq
    replace hS3 := hS3.later hq
    replace hb := hb.trans (hq.mono hb.size)
    clear hq
    cases b with
    | false =>
      have hM : Hid _ := hno.out (.inl rfl)
      have hz := hR.row (stC st0 none 0)
      have hbz := below_setRow hb (show w.heap.size ≤ w.heap.size + 1 + 1 by omega) (stC st0 none 0)
      go_wp2_with (first
        | (refine wpList_alloc_has (by rfl) 40 rfl (stC st0 none 0) st_zero ?_)
        | (refine wpList_store_to (by rfl) 40 _ _ rfl w3.heap.size rfl (stC T ro rc) rfl 40 (stC st0 none 0) (st_size _ _ _) (st_same _ _ _ _ _ _) (st_one _ _ _) ?hg w4 ?hW ?_; (case hg => exact Has.new _ _ _); (case hW => exact hw4); clear hw4)
        | (refine wpList_build_has (by rfl) 40 #[] rfl (stC st0 none 0) (by simpa using st_built0) ?_)
        | (refine wpList_store_has (by rfl) 40 _ _ rfl (w.heap.size + 1 + 1) rfl (stC st0 none 0) rfl 40 (stC st0 none 0) (st_size _ _ _) (st_same _ _ _ _ _ _) (st_one _ _ _) ?hg ?_; (case hg => exact hR))
        | fail)
      refine ret_has_tmp rfl (w.heap.size + 1 + 1) rfl 40 (stC (st0) none 0) _ Try.underlying40 rfl (st_size _ _ _) hz rfl ⟨_, _, by rw [hM.out]; rfl, ?_⟩
      rw [hM.out]
      exact Gives.zero hbz
    | true =>
      go_wp2_with (first
        | (refine wpList_alloc_has (by rfl) 40 rfl (stC st0 none 0) st_zero ?_)
        | (refine wpList_store_to (by rfl) 40 _ _ rfl w3.heap.size rfl (stC T ro rc) rfl 40 (stC st0 none 0) (st_size _ _ _) (st_same _ _ _ _ _ _) (st_one _ _ _) ?hg w4 ?hW ?_; (case hg => exact Has.new _ _ _); (case hW => exact hw4); clear hw4)
        | (refine wpList_load_has (by rfl) 40 _ rfl (w3.heap.size) rfl 40 (stC T ro rc) _ Try.underlying40 rfl (st_size _ _ _) ?hg ?_; (case hg => exact hT))
        | fail)
      refine (is_any T ro rc _ hTo hS3).mono ?_
      rintro en w5 ⟨rfl, hq⟩
      replace hR := hR.later hq
      replace hT := hT.later hq
      replace hS3 := hS3.later hq
      replace hb := hb.trans (hq.mono hb.size)
      clear hq
      cases hti : isM T with
      | false =>
        have hM : Hid _ := hno.out (.inr hti)
        have hz := hR.row (stC st0 none 0)
        have hbz := below_setRow hb (show w.heap.size ≤ w.heap.size + 1 + 1 by omega) (stC st0 none 0)
        go_wp2_with (first
          | (refine wpList_build_has (by rfl) 40 #[] rfl (stC st0 none 0) (by simpa using st_built0) ?_)
          | (refine wpList_store_has (by rfl) 40 _ _ rfl (w.heap.size + 1 + 1) rfl (stC st0 none 0) rfl 40 (stC st0 none 0) (st_size _ _ _) (st_same _ _ _ _ _ _) (st_one _ _ _) ?hg ?_; (case hg => exact hR))
          | fail)
        refine ret_has_tmp rfl (w.heap.size + 1 + 1) rfl 40 (stC (st0) none 0) _ Try.underlying40 rfl (st_size _ _ _) hz rfl ⟨_, _, by rw [hM.out]; rfl, ?_⟩
        rw [hM.out]
        exact Gives.zero hbz
      | true =>
        have hM : Hid _ := hyes.out (by first | trivial | rfl) hti
        go_wp2_with (first
          | (refine wpList_load_has (by rfl) 40 _ rfl (w3.heap.size) rfl 40 (stC T ro rc) _ Try.underlying40 rfl (st_size _ _ _) ?hg ?_; (case hg => exact hT))
          | fail)
        refine (twin_any T ro rc _ hTo hS3).mono ?_
        rintro en w6 ⟨so, sc, rfl, hG⟩
        have hS4 := hG.sl
        have hlt0 := hR.lt
        have hnew : ∀ d, so = some d → w.heap.size + 1 + 1 < d.block := fun d hd => by have := hG.new d hd; omega
        have hgn : ∀ d, so = some d → w.heap.size ≤ d.block := fun d hd => by have := hnew d hd; omega
        replace hR := hR.later hG.below
        replace hb := hb.trans (hG.below.mono hb.size)
        clear hG hT hS3
        have hz := hR.row (stC T so sc)
        have hsl := hS4.row_other (k := w.heap.size + 1 + 1) (fun d hd => by have := hnew d hd; omega) (stC T so sc)
        have hbz := below_setRow hb (show w.heap.size ≤ w.heap.size + 1 + 1 by omega) (stC T so sc)
        go_wp2_with (first
          | (refine wpList_store_has (by rfl) 40 _ _ rfl (w.heap.size + 1 + 1) rfl (stC T so sc) rfl 40 (stC st0 none 0) (st_size _ _ _) (st_same _ _ _ _ _ _) (st_one _ _ _) ?hg ?_; (case hg => exact hR))
          | fail)
        refine ret_has_tmp rfl (w.heap.size + 1 + 1) rfl 40 (stC (T) so sc) _ Try.underlying40 rfl (st_size _ _ _) hz rfl ⟨_, _, by rw [hM.out]; rfl, ?_⟩
        rw [hM.out]
        exact ⟨hsl, hgn, hbz⟩


/-- What a call that hands back a difference leaves: its logs lie in new memory. -/
structure GivesD (w w' : World) (d : DiffV) (lo : Option Addr) (lc : Nat) (wo : Option Addr) (wc : Nat) : Prop where
  sl : Sl w' lo lc 8 (entR d.log)
  wl : Sl w' wo wc 8 (entR d.whole.log)
  newl : ∀ a, lo = some a → w.heap.size ≤ a.block
  neww : ∀ a, wo = some a → w.heap.size ≤ a.block
  below : Below w.heap.size w w'

theorem wpList_build_four8 {P : Program} {ops : Array Oper} {rest : List Oper} {o : Oper} {a : Act} {w : World} {Q : Exit → Act → World → Prop} (hw : Region.wanted o (yielded ops a.tmps) = true) (t : TypeId) (i j k l : Nat) (x y z u : Operand) (ho : o.op = .build t #[(i, x), (j, y), (k, z), (l, u)]) (p q r s : Value) (hx : a.eval x = p) (hy : a.eval y = q) (hz : a.eval z = r) (hu : a.eval u = s) (c : Array Value) (hf : P.built t [(i, p), (j, q), (k, r), (l, s)] = some c)
    (h : wpList P ops Q rest (a.put o.dst (.agg c)) w) : wpList P ops Q (o :: rest) a w :=
  wpList_build_has hw t _ ho c (by simpa [hx, hy, hz, hu] using hf) h
theorem yields_build_four8 {P : Program} {ops : Array Oper} {S : World → Prop} {o : Oper} {a : Act} (hw : Region.wanted o (yielded ops a.tmps) = true) (t : TypeId) (i j k l : Nat) (x y z u : Operand) (ho : o.op = .build t #[(i, x), (j, y), (k, z), (l, u)]) (p q r s : Value) (hx : a.eval x = p) (hy : a.eval y = q) (hz : a.eval z = r) (hu : a.eval u = s) (c : Array Value) (hf : P.built t [(i, p), (j, q), (k, r), (l, s)] = some c) : YieldsIf P ops S o (.agg c) a := by
  refine .inl ⟨hw, fun W _ => ?_⟩
  have hc : P.built t ((#[(i, x), (j, y), (k, z), (l, u)] : Array (Nat × Operand)).map fun (i, x) => (i, a.eval x)).toList = some c := by simpa [hx, hy, hz, hu] using hf
  unfold execOp
  simp only [ho, Sem.run_bind, run_build W t _ c hc, Result.andThen_ok]
  rfl
theorem u32_small (n : Nat) (h : n < 4294967296) : IntKind.u32.wrap (n : Int) = (n : Int) := by
  simp [IntKind.wrap, IntKind.bits, IntKind.signed]
  omega

theorem make_no {a b : StV} (h : isM a = false ∨ isM b = false) : makeM a b = diff0 := by unfold makeM; rw [if_pos h]
theorem make_0 {a b : StV} (ha : isM a = true) (hb : isM b = true) (h : same tSt (startAt a b.started) b = true) : makeM a b = ⟨0, 0, [], endsM b⟩ := by
  unfold makeM
  rw [if_neg (by rw [ha, hb]; simp), if_pos h]
theorem make_1 {a b : StV} (ha : isM a = true) (hb : isM b = true) (h : same tSt (startAt a b.started) b = false) (h' : throughM a b = true) : makeM a b = ⟨1, b.tail.n + sharedN a b.log, b.log.drop (sharedN a b.log), endsM b⟩ := by
  unfold makeM
  rw [if_neg (by rw [ha, hb]; simp), if_neg (by rw [h]; simp), if_pos h']
theorem make_2 {a b : StV} (ha : isM a = true) (hb : isM b = true) (h : same tSt (startAt a b.started) b = false) (h' : throughM a b = false) : makeM a b = ⟨2, 0, [], b⟩ := by
  unfold makeM
  rw [if_neg (by rw [ha, hb]; simp), if_neg (by rw [h]; simp), if_neg (by rw [h']; simp)]

set_option maxHeartbeats 4000000 in
theorem make_any (s t : StV) (ao bo : Option Addr) (c d : Nat) (w : World) (hs : StOk s) (ht : StOk t) (h : Sl w ao c 8 (entR s.log)) (h' : Sl w bo d 8 (entR t.log)) :
    Calls Try.prog 31 #[.agg (stC s ao c), .agg (stC t bo d)] w fun en w' => ∃ lo lc wo wc, en = .returned (.agg (diffC (makeM s t) lo lc wo wc)) ∧ GivesD w w' (makeM s t) lo lc wo wc := by
  obtain ⟨w1, hw1, hX, hY, hR, hb⟩ := three_vars w 40 40 61 (stC s ao c) (stC t bo d) (diffC diff0 none 0 none 0)
  have hle' := h'.ent_le
  have hcap' := h'.cap
  go_enter Try.func31, Try.ntmps31
  go_wp2_with (first
    | (refine wpList_alloc_has (by rfl) 61 rfl (diffC diff0 none 0 none 0) diff_zero ?_; rw [hw1])
    | (refine wpList_load_has (by rfl) 40 _ rfl (w.heap.size) rfl 40 (stC s ao c) _ Try.underlying40 rfl (st_size _ _ _) ?hg ?_; (case hg => exact hX))
    | fail)
  refine (is_any s ao c _ hs (h.later hb)).mono ?_
  rintro en w2 ⟨rfl, hq⟩
  replace hX := hX.later hq
  replace hY := hY.later hq
  replace hR := hR.later hq
  replace hb := hb.trans (hq.mono hb.size)
  clear hq hw1
  cases hi : isM s with
  | false =>
    have hM : Hid _ := make_no (a := s) (b := t) (.inl hi)
    have hz := hR.row (diffC diff0 none 0 none 0)
    have hbz := below_setRow hb (show w.heap.size ≤ w.heap.size + 1 + 1 by omega) (diffC diff0 none 0 none 0)
    go_wp2_with (first
      | (refine wpList_build_has (by rfl) 61 #[] rfl (diffC diff0 none 0 none 0) (by simpa using diff_built0) ?_)
      | (refine wpList_store_has (by rfl) 61 _ _ rfl (w.heap.size + 1 + 1) rfl (diffC diff0 none 0 none 0) rfl 61 (diffC diff0 none 0 none 0) (diff_size _ _ _ _ _) (diff_same _ _ _ _ _ _ _ _ _ _) (diff_one _ _ _ _ _) ?hg ?_; (case hg => exact hR))
      | fail)
    refine ret_has rfl (w.heap.size + 1 + 1) rfl 61 (diffC diff0 none 0 none 0) _ Try.underlying61 rfl (diff_size _ _ _ _ _) hz rfl ⟨none, 0, none, 0, by rw [hM.out], ?_⟩
    rw [hM.out]
    exact ⟨Sl.nothing _ _, Sl.nothing _ _, (fun a ha => by cases ha), (fun a ha => by cases ha), hbz⟩
  | true =>
  go_wp2_with (first
    | (refine wpList_load_has (by rfl) 40 _ rfl (w.heap.size + 1) rfl 40 (stC t bo d) _ Try.underlying40 rfl (st_size _ _ _) ?hg ?_; (case hg => exact hY))
    | fail)
  refine (is_any t bo d _ ht (h'.later hb)).mono ?_
  rintro en w3 ⟨rfl, hq⟩
  replace hX := hX.later hq
  replace hY := hY.later hq
  replace hR := hR.later hq
  replace hb := hb.trans (hq.mono hb.size)
  clear hq
  cases hj : isM t with
  | false =>
    have hM : Hid _ := make_no (a := s) (b := t) (.inr hj)
    have hz := hR.row (diffC diff0 none 0 none 0)
    have hbz := below_setRow hb (show w.heap.size ≤ w.heap.size + 1 + 1 by omega) (diffC diff0 none 0 none 0)
    go_wp2_with (first
      | (refine wpList_build_has (by rfl) 61 #[] rfl (diffC diff0 none 0 none 0) (by simpa using diff_built0) ?_)
      | (refine wpList_store_has (by rfl) 61 _ _ rfl (w.heap.size + 1 + 1) rfl (diffC diff0 none 0 none 0) rfl 61 (diffC diff0 none 0 none 0) (diff_size _ _ _ _ _) (diff_same _ _ _ _ _ _ _ _ _ _) (diff_one _ _ _ _ _) ?hg ?_; (case hg => exact hR))
      | fail)
    refine ret_has rfl (w.heap.size + 1 + 1) rfl 61 (diffC diff0 none 0 none 0) _ Try.underlying61 rfl (diff_size _ _ _ _ _) hz rfl ⟨none, 0, none, 0, by rw [hM.out], ?_⟩
    rw [hM.out]
    exact ⟨Sl.nothing _ _, Sl.nothing _ _, (fun a ha => by cases ha), (fun a ha => by cases ha), hbz⟩
  | true =>
  have hllt := last_lt ht hj
  have m0 : Hid _ := make_0 hi hj
  have m1 : Hid _ := make_1 hi hj
  have m2 : Hid _ := make_2 hi hj
  clear hi hj
  go_wp2_with (first
    | (refine wpList_load_has (by rfl) 40 _ rfl (w.heap.size) rfl 40 (stC s ao c) _ Try.underlying40 rfl (st_size _ _ _) ?hg ?_; (case hg => exact hX))
    | (refine wpList_load_has (by rfl) 40 _ rfl (w.heap.size + 1) rfl 40 (stC t bo d) _ Try.underlying40 rfl (st_size _ _ _) ?hg ?_; (case hg => exact hY))
    | fail)
  refine (sbs_any s t ao bo c d _ hs ht (h.later hb) (h'.later hb)).mono ?_
  rintro en w4 ⟨rfl, hq⟩
  replace hX := hX.later hq
  replace hY := hY.later hq
  replace hR := hR.later hq
  replace hb := hb.trans (hq.mono hb.size)
  clear hq
  generalize same tSt (startAt s t.started) t = b at *
  cases b with
  | true =>
    have hM : Hid _ := m0.out (by first | trivial | rfl)
    clear m0 m1 m2
    go_wp2_with (first
      | (refine wpList_load_has (by rfl) 40 _ rfl (w.heap.size + 1) rfl 40 (stC t bo d) _ Try.underlying40 rfl (st_size _ _ _) ?hg ?_; (case hg => exact hY))
      | fail)
    refine (ends_any t bo d _).mono ?_
    rintro en w5 ⟨rfl, hq⟩
    replace hR := hR.later hq
    replace hb := hb.trans (hq.mono hb.size)
    clear hq
    have hz := hR.row (diffC ⟨0, 0, [], endsM t⟩ none 0 none 0)
    have hbz := below_setRow hb (show w.heap.size ≤ w.heap.size + 1 + 1 by omega) (diffC ⟨0, 0, [], endsM t⟩ none 0 none 0)
    go_wp2_with (first
      | (refine wpList_build_two (by rfl) 61 0 3 _ _ rfl (.int .i64 0) (.agg (stC (endsM t) none 0)) rfl rfl (diffC ⟨0, 0, [], endsM t⟩ none 0 none 0) (diff_built_kw none 0 0 (endsM t)) ?_)
      | (refine wpList_store_has (by rfl) 61 _ _ rfl (w.heap.size + 1 + 1) rfl (diffC ⟨0, 0, [], endsM t⟩ none 0 none 0) rfl 61 (diffC diff0 none 0 none 0) (diff_size _ _ _ _ _) (diff_same _ _ _ _ _ _ _ _ _ _) (diff_one _ _ _ _ _) ?hg ?_; (case hg => exact hR))
      | fail)
    refine ret_has rfl (w.heap.size + 1 + 1) rfl 61 (diffC ⟨0, 0, [], endsM t⟩ none 0 none 0) _ Try.underlying61 rfl (diff_size _ _ _ _ _) hz rfl ⟨none, 0, none, 0, by rw [hM.out], ?_⟩
    rw [hM.out]
    exact ⟨Sl.nothing _ _, Sl.nothing _ _, (fun a ha => by cases ha), (fun a ha => by cases ha), hbz⟩
  | false =>
  go_wp2_with (first
    | (refine wpList_load_has (by rfl) 40 _ rfl (w.heap.size) rfl 40 (stC s ao c) _ Try.underlying40 rfl (st_size _ _ _) ?hg ?_; (case hg => exact hX))
    | (refine wpList_load_has (by rfl) 40 _ rfl (w.heap.size + 1) rfl 40 (stC t bo d) _ Try.underlying40 rfl (st_size _ _ _) ?hg ?_; (case hg => exact hY))
    | fail)
  refine (through_any s t ao bo c d _ hs ht (h.later hb)).mono ?_
  rintro en w5 ⟨rfl, hq⟩
  replace hX := hX.later hq
  replace hY := hY.later hq
  replace hR := hR.later hq
  replace hb := hb.trans (hq.mono hb.size)
  clear hq
  generalize throughM s t = b at *
  cases b with
  | false =>
    have hM : Hid _ := m2.out (by first | trivial | rfl) (by first | trivial | rfl)
    clear m0 m1 m2
    go_wp2_with (first
      | (refine wpList_load_has (by rfl) 40 _ rfl (w.heap.size + 1) rfl 40 (stC t bo d) _ Try.underlying40 rfl (st_size _ _ _) ?hg ?_; (case hg => exact hY))
      | fail)
    refine (twin_any t bo d _ ht (h'.later hb)).mono ?_
    rintro en w6 ⟨ro, rc, rfl, hG⟩
    have hlt0 := hR.lt
    have hS6 := hG.sl
    have hnew : ∀ d, ro = some d → w.heap.size + 1 + 1 < d.block := fun d hd => by have := hG.new d hd; omega
    replace hR := hR.later hG.below
    replace hb := hb.trans (hG.below.mono hb.size)
    clear hG
    have hz := hR.row (diffC ⟨2, 0, [], t⟩ none 0 ro rc)
    have hsl := hS6.row_other (k := w.heap.size + 1 + 1) (fun d hd => by have := hnew d hd; omega) (diffC ⟨2, 0, [], t⟩ none 0 ro rc)
    have hbz := below_setRow hb (show w.heap.size ≤ w.heap.size + 1 + 1 by omega) (diffC ⟨2, 0, [], t⟩ none 0 ro rc)
    have hgn : ∀ d, ro = some d → w.heap.size ≤ d.block := fun d hd => by have := hnew d hd; omega
    go_wp2_with (first
      | (refine wpList_build_two (by rfl) 61 0 3 _ _ rfl (.int .i64 2) (.agg (stC t ro rc)) rfl rfl (diffC ⟨2, 0, [], t⟩ none 0 ro rc) (diff_built_kw ro rc 2 t) ?_)
      | (refine wpList_store_has (by rfl) 61 _ _ rfl (w.heap.size + 1 + 1) rfl (diffC ⟨2, 0, [], t⟩ none 0 ro rc) rfl 61 (diffC diff0 none 0 none 0) (diff_size _ _ _ _ _) (diff_same _ _ _ _ _ _ _ _ _ _) (diff_one _ _ _ _ _) ?hg ?_; (case hg => exact hR))
      | fail)
    refine ret_has rfl (w.heap.size + 1 + 1) rfl 61 (diffC ⟨2, 0, [], t⟩ none 0 ro rc) _ Try.underlying61 rfl (diff_size _ _ _ _ _) hz rfl ⟨none, 0, ro, rc, by rw [hM.out], ?_⟩
    rw [hM.out]
    exact ⟨Sl.nothing _ _, hsl, (fun a ha => by cases ha), hgn, hbz⟩
  | true =>
  have hM : Hid _ := m1.out (by first | trivial | rfl) (by first | trivial | rfl)
  clear m0 m1 m2
  go_wp2_with (first
    | (refine wpList_load_has (by rfl) 40 _ rfl (w.heap.size) rfl 40 (stC s ao c) _ Try.underlying40 rfl (st_size _ _ _) ?hg ?_; (case hg => exact hX))
    | (refine wpList_load_has (by rfl) 40 _ rfl (w.heap.size + 1) rfl 40 (stC t bo d) _ Try.underlying40 rfl (st_size _ _ _) ?hg ?_; (case hg => exact hY))
    | fail)
  refine (shared_any s t ao bo c d _ hs ht (h.later hb) (h'.later hb)).mono ?_
  rintro en w6 ⟨rfl, hq⟩
  have hkl := shared_le s t.log
  replace hX := hX.later hq
  replace hY := hY.later hq
  replace hR := hR.later hq
  replace hb := hb.trans (hq.mono hb.size)
  clear hq
  generalize sharedN s t.log = k at *
  have hlen := ht.len
  have hlen1 : (t.log.drop k).length = t.log.length - k := by rw [List.length_drop]
  have hsum : Hid (t.tail.n + k < 4294967296) := by show _ < _; omega
  have hrest := fun W => run_rest W bo t.log.length d k hkl hle'
  have hcop := fun W (hW : Below w.heap.size w W) => copied_any (cutAddr bo d k) (d - k) (t.log.drop k) W ((h'.later hW).drop k hkl) (by omega)
  rw [hlen1] at hcop
  have hkI : (k : Int) ≤ (t.log.length : Int) := by omega
  generalize cutAddr bo d k = co at *
  go_wp2_with fail
  have hbA : Below w6.heap.size w6 w6.drew := (Below.refl _ _).drew
  refine wp_region_plan (fun W => Has W (w.heap.size + 1) 40 (stC t bo d) ∧ Below w.heap.size w W) (Plan.of [(0, true), (1, true), (2, true), (3, true), (4, true), (5, true), (6, true), (7, true), (8, true), (9, true), (11, true), (10, false), (12, false), (13, true), (14, false)] .done) (by kernel_rfl) (by kernel_rfl) (by kernel_rfl) (by kernel_rfl) ⟨hY.later hbA, hb.trans (hbA.mono hb.size)⟩ ?_
  iterate 2
    first
      | (refine plan_pass _ rfl (by rfl) ?_)
      | (refine plan_take _ _ rfl (.inl ⟨by rfl, fun W hS => by clear hS; go_simp; try with_reducible rfl⟩) ?_)
    try simp only [Act.put, List.setIfInBounds_toArray, List.set_cons_zero, List.set_cons_succ]
  iterate 1
    first
      | (refine plan_pass _ rfl (by rfl) ?_)
      | (refine plan_take _ _ rfl (.inl ⟨by rfl, fun W hS => by have z0 := hS.1.st_tail_n; go_simp; try with_reducible rfl⟩) ?_)
    try simp only [Act.put, List.setIfInBounds_toArray, List.set_cons_zero, List.set_cons_succ]
  iterate 1
    first
      | (refine plan_pass _ rfl (by rfl) ?_)
      | (refine plan_take _ _ rfl (.inl ⟨by rfl, fun W hS => by clear hS; go_simp; try with_reducible rfl⟩) ?_)
    try simp only [Act.put, List.setIfInBounds_toArray, List.set_cons_zero, List.set_cons_succ]
  refine plan_take _ (.int .u32 (k : Int)) rfl (.inl ⟨by rfl, fun W hS => by clear hS; go_simp; first | exact u32_small _ (by omega) | with_reducible rfl⟩) ?_
  try simp only [Act.put, List.setIfInBounds_toArray, List.set_cons_zero, List.set_cons_succ]
  refine plan_take _ (.int .u32 ((t.tail.n + k : Nat) : Int)) rfl (.inl ⟨by rfl, fun W _ => run_add_u32 _ _ _ _ rfl t.tail.n k (t.tail.n + k) rfl rfl rfl hsum.out W⟩) ?_
  try simp only [Act.put, List.setIfInBounds_toArray, List.set_cons_zero, List.set_cons_succ]
  iterate 1
    first
      | (refine plan_pass _ rfl (by rfl) ?_)
      | (refine plan_take _ _ rfl (.inl ⟨by rfl, fun W hS => by clear hS; go_simp; try with_reducible rfl⟩) ?_)
    try simp only [Act.put, List.setIfInBounds_toArray, List.set_cons_zero, List.set_cons_succ]
  iterate 1
    first
      | (refine plan_pass _ rfl (by rfl) ?_)
      | (refine plan_take _ _ rfl (.inl ⟨by rfl, fun W hS => by have z0 := hS.1.st_log; go_simp; try with_reducible rfl⟩) ?_)
    try simp only [Act.put, List.setIfInBounds_toArray, List.set_cons_zero, List.set_cons_succ]
  iterate 1
    first
      | (refine plan_pass _ rfl (by rfl) ?_)
      | (refine plan_take _ _ rfl (.inl ⟨by rfl, fun W hS => by clear hS; go_simp; try with_reducible rfl⟩) ?_)
    try simp only [Act.put, List.setIfInBounds_toArray, List.set_cons_zero, List.set_cons_succ]
  refine plan_take _ (.slice co (t.log.length - k) (d - k)) rfl (.inl ⟨by rfl, fun W hS => by clear hS; have z := hrest W; go_simp; try with_reducible rfl⟩) ?_
  try simp only [Act.put, List.setIfInBounds_toArray, List.set_cons_zero, List.set_cons_succ]
  refine plan_take _ _ rfl (yields_load_has (by rfl) 40 _ rfl (w.heap.size + 1) rfl 40 (stC t bo d) _ Try.underlying40 rfl (st_size _ _ _) (fun W hW => hW.1)) ?_
  try simp only [Act.put, List.setIfInBounds_toArray, List.set_cons_zero, List.set_cons_succ]
  replace hX := hX.later hbA
  replace hY := hY.later hbA
  replace hR := hR.later hbA
  replace hb := hb.trans (hbA.mono hb.size)
  clear hbA
  refine plan_run _ rfl (fun K hK => ?_)
  go_simp
  refine (hcop _ hb).mono ?_
  rintro en w7 ⟨g, hg1, rfl, hG, hq⟩
  have hgs : w.heap.size + 1 + 1 < g := by have := hR.lt; omega
  replace hY := hY.later hq
  replace hR := hR.later hq
  replace hb := hb.trans (hq.mono hb.size)
  refine hK.out _ _ ⟨hY, hb⟩ ?_
  clear hK K hq
  try simp only [Act.put, List.setIfInBounds_toArray, List.set_cons_zero, List.set_cons_succ]
  refine plan_run _ rfl (fun K hK => ?_)
  go_simp
  refine (ends_any t bo d _).mono ?_
  rintro en w8 ⟨rfl, hq⟩
  replace hY := hY.later hq
  replace hR := hR.later hq
  replace hG := hG.later hq
  replace hb := hb.trans (hq.mono hb.size)
  refine hK.out _ _ ⟨hY, hb⟩ ?_
  clear hK K hq
  try simp only [Act.put, List.setIfInBounds_toArray, List.set_cons_zero, List.set_cons_succ]
  have hbf := diff_built4 (some ⟨g, 0, none⟩) none (t.log.length - k) 0 1 (t.tail.n + k) (t.log.drop k) (endsM t)
  rw [hlen1] at hbf
  refine plan_take _ _ rfl (yields_build_four8 (by rfl) 61 0 1 2 3 _ _ _ _ rfl (.int .i64 1) (.int .u32 ((t.tail.n + k : Nat) : Int)) (.slice (some ⟨g, 0, none⟩) (t.log.length - k) (t.log.length - k)) (.agg (stC (endsM t) none 0)) rfl rfl rfl rfl _ hbf) ?_
  try simp only [Act.put, List.setIfInBounds_toArray, List.set_cons_zero, List.set_cons_succ]
  have hG2 := hG
  have hR9 := hR.row (diffC ⟨1, t.tail.n + k, t.log.drop k, endsM t⟩ (some ⟨g, 0, none⟩) (t.log.length - k) none 0)
  have hY9 := hY.row_other (k := w.heap.size + 1 + 1) (by omega) (diffC ⟨1, t.tail.n + k, t.log.drop k, endsM t⟩ (some ⟨g, 0, none⟩) (t.log.length - k) none 0)
  have hG9 := hG.row_other (k := w.heap.size + 1 + 1) (by omega) (diffC ⟨1, t.tail.n + k, t.log.drop k, endsM t⟩ (some ⟨g, 0, none⟩) (t.log.length - k) none 0)
  have hb9 := below_setRow hb (show w.heap.size ≤ w.heap.size + 1 + 1 by omega) (diffC ⟨1, t.tail.n + k, t.log.drop k, endsM t⟩ (some ⟨g, 0, none⟩) (t.log.length - k) none 0)
  refine plan_store_has _ rfl (by rfl) 61 _ _ rfl (w.heap.size + 1 + 1) rfl (diffC ⟨1, t.tail.n + k, t.log.drop k, endsM t⟩ (some ⟨g, 0, none⟩) (t.log.length - k) none 0) rfl 61 (diffC diff0 none 0 none 0) (diff_size _ _ _ _ _) (diff_same _ _ _ _ _ _ _ _ _ _) (diff_one _ _ _ _ _) hR ⟨hY9, hb9⟩ ?_
  try simp only [Act.put, List.setIfInBounds_toArray, List.set_cons_zero, List.set_cons_succ]
  refine plan_done ?_
  have hSl := hG9.ents (by omega)
  rw [hlen1] at hSl
  go_wp2
  refine ret_has rfl (w.heap.size + 1 + 1) rfl 61 (diffC ⟨1, t.tail.n + k, t.log.drop k, endsM t⟩ (some ⟨g, 0, none⟩) (t.log.length - k) none 0) _ Try.underlying61 rfl (diff_size _ _ _ _ _) hR9 rfl ⟨some ⟨g, 0, none⟩, t.log.length - k, none, 0, by rw [hM.out], ?_⟩
  rw [hM.out]
  exact ⟨hSl, Sl.nothing _ _, (fun a ha => by obtain rfl := Option.some.inj ha; show w.heap.size ≤ g; omega), (fun a ha => by cases ha), hb9⟩


theorem extends_no {a b : StV} (h : isM a = false ∨ isM b = false) : extendsM a b = false := by
  unfold extendsM
  rcases h with h | h <;> rw [h] <;> simp
theorem extends_yes {a b : StV} (ha : isM a = true) (hb : isM b = true) : extendsM a b = (decide ((headE a).n ≤ (headE b).n) && (decide ((makeM a b).kind = 0) || (decide ((makeM a b).kind = 1) && decide ((makeM a b).fr = (headE a).n)))) := by
  unfold extendsM
  rw [ha, hb]
  simp

set_option maxHeartbeats 4000000 in
theorem extends_any (s t : StV) (ao bo : Option Addr) (c d : Nat) (w : World) (hs : StOk s) (ht : StOk t) (h : Sl w ao c 8 (entR s.log)) (h' : Sl w bo d 8 (entR t.log)) :
    Calls Try.prog 36 #[.agg (stC s ao c), .agg (stC t bo d)] w fun en w' => en = .returned (.bool (extendsM s t)) ∧ Below w.heap.size w w' := by
  obtain ⟨w1, hw1, hX, hY, hb⟩ := two_vars w 40 40 (stC s ao c) (stC t bo d)
  go_enter Try.func36, Try.ntmps36
  go_wp2_with (first
    | (refine wpList_load_has (by rfl) 40 _ rfl (w.heap.size) rfl 40 (stC s ao c) _ Try.underlying40 rfl (st_size _ _ _) ?hg ?_; (case hg => exact hX))
    | fail)
  refine (is_any s ao c _ hs (h.later hb)).mono ?_
  rintro en w2 ⟨rfl, hq⟩
  replace hX := hX.later hq
  replace hY := hY.later hq
  replace hb := hb.trans (hq.mono hb.size)
  clear hq hw1
  cases hi : isM s with
  | false =>
    have hM : Hid _ := extends_no (a := s) (b := t) (.inl hi)
    go_wp2
    go_ret
    exact ⟨by rw [hM.out]; rfl, hb⟩
  | true =>
  go_wp2_with (first
    | (refine wpList_load_has (by rfl) 40 _ rfl (w.heap.size + 1) rfl 40 (stC t bo d) _ Try.underlying40 rfl (st_size _ _ _) ?hg ?_; (case hg => exact hY))
    | fail)
  refine (is_any t bo d _ ht (h'.later hb)).mono ?_
  rintro en w3 ⟨rfl, hq⟩
  replace hX := hX.later hq
  replace hY := hY.later hq
  replace hb := hb.trans (hq.mono hb.size)
  clear hq
  cases hj : isM t with
  | false =>
    have hM : Hid _ := extends_no (a := s) (b := t) (.inr hj)
    go_wp2
    go_ret
    exact ⟨by rw [hM.out]; rfl, hb⟩
  | true =>
  have hM : Hid _ := extends_yes hi hj
  have hh1 : Hid _ := head_yes hi
  have hh2 : Hid _ := head_yes hj
  clear hi hj
  go_wp2_with (first
    | (refine wpList_load_has (by rfl) 40 _ rfl (w.heap.size) rfl 40 (stC s ao c) _ Try.underlying40 rfl (st_size _ _ _) ?hg ?_; (case hg => exact hX))
    | fail)
  refine (head_any s ao c _ hs (h.later hb)).mono ?_
  rintro en w4 ⟨rfl, hq⟩
  rw [hh1.out]
  replace hX := hX.later hq
  replace hY := hY.later hq
  replace hb := hb.trans (hq.mono hb.size)
  clear hq hh1
  go_wp2_with (first
    | (refine wpList_load_has (by rfl) 40 _ rfl (w.heap.size + 1) rfl 40 (stC t bo d) _ Try.underlying40 rfl (st_size _ _ _) ?hg ?_; (case hg => exact hY))
    | fail)
  refine (head_any t bo d _ ht (h'.later hb)).mono ?_
  rintro en w5 ⟨rfl, hq⟩
  rw [hh2.out]
  replace hX := hX.later hq
  replace hY := hY.later hq
  replace hb := hb.trans (hq.mono hb.size)
  clear hq hh2
  generalize (headE s).n = n at *
  generalize (headE t).n = m at *
  by_cases hnm : n ≤ m
  · have i1 : ¬ (m : Int) < (n : Int) := by omega
    have i2 : decide ((m : Int) < (n : Int)) = false := by rw [decide_eq_false_iff_not]; omega
    rw [decide_eq_true hnm, Bool.true_and] at hM
    clear hnm
    go_wp2_with (first
      | (refine wpList_load_has (by rfl) 40 _ rfl (w.heap.size) rfl 40 (stC s ao c) _ Try.underlying40 rfl (st_size _ _ _) ?hg ?_; (case hg => exact hX))
      | (refine wpList_load_has (by rfl) 40 _ rfl (w.heap.size + 1) rfl 40 (stC t bo d) _ Try.underlying40 rfl (st_size _ _ _) ?hg ?_; (case hg => exact hY))
      | fail)
    refine (make_any s t ao bo c d _ hs ht (h.later hb) (h'.later hb)).mono ?_
    rintro en w6 ⟨lo, lc, wo, wc, rfl, hG⟩
    have hdo := make_fit hs ht
    replace hb := hb.trans (hG.below.mono hb.size)
    clear hG hX hY
    generalize makeM s t = D at *
    obtain ⟨w7, hw7, hD, hq⟩ := new_var w6 61 (diffC diff0 none 0 none 0) (diffC D lo lc wo wc)
    replace hb := hb.trans (hq.mono hb.size)
    clear hq
    have k0 := hD.d_kind
    have k1 := hD.d_from
    by_cases q0 : D.kind = 0
    · have j0 : (D.kind == 0) = true := by rw [q0]; rfl
      rw [decide_eq_true q0, Bool.true_or] at hM
      clear q0
      go_wp2_with (first
        | (refine wpList_alloc_has (by rfl) 61 rfl (diffC diff0 none 0 none 0) diff_zero ?_)
        | (refine wpList_store_to (by rfl) 61 _ _ rfl w6.heap.size rfl (diffC D lo lc wo wc) rfl 61 (diffC diff0 none 0 none 0) (diff_size _ _ _ _ _) (diff_same _ _ _ _ _ _ _ _ _ _) (diff_one _ _ _ _ _) ?hg w7 ?hW ?_; (case hg => exact Has.new _ _ _); (case hW => exact hw7); clear hw7)
        | fail)
      go_ret
      exact ⟨by rw [hM.out]; rfl, hb⟩
    · have j0 : (D.kind == 0) = false := by rw [beq_eq_false_iff_ne]; exact q0
      rw [decide_eq_false q0, Bool.false_or] at hM
      clear q0
      by_cases q1 : D.kind = 1
      · have j1 : (D.kind == 1) = true := by rw [q1]; rfl
        rw [decide_eq_true q1, Bool.true_and] at hM
        clear q1
        by_cases q2 : D.fr = n
        · have e1 : ((D.fr : Int) == (n : Int)) = true := by rw [q2]; simp
          have e2 : (D.fr == n) = true := by rw [q2]; simp
          rw [decide_eq_true q2] at hM
          clear q2
          go_wp2_with (first
            | (refine wpList_alloc_has (by rfl) 61 rfl (diffC diff0 none 0 none 0) diff_zero ?_)
            | (refine wpList_store_to (by rfl) 61 _ _ rfl w6.heap.size rfl (diffC D lo lc wo wc) rfl 61 (diffC diff0 none 0 none 0) (diff_size _ _ _ _ _) (diff_same _ _ _ _ _ _ _ _ _ _) (diff_one _ _ _ _ _) ?hg w7 ?hW ?_; (case hg => exact Has.new _ _ _); (case hW => exact hw7); clear hw7)
            | fail)
          go_ret
          exact ⟨by rw [hM.out]; rfl, hb⟩
        · have e1 : ((D.fr : Int) == (n : Int)) = false := by rw [beq_eq_false_iff_ne]; omega
          have e2 : (D.fr == n) = false := by rw [beq_eq_false_iff_ne]; omega
          rw [decide_eq_false q2] at hM
          clear q2
          go_wp2_with (first
            | (refine wpList_alloc_has (by rfl) 61 rfl (diffC diff0 none 0 none 0) diff_zero ?_)
            | (refine wpList_store_to (by rfl) 61 _ _ rfl w6.heap.size rfl (diffC D lo lc wo wc) rfl 61 (diffC diff0 none 0 none 0) (diff_size _ _ _ _ _) (diff_same _ _ _ _ _ _ _ _ _ _) (diff_one _ _ _ _ _) ?hg w7 ?hW ?_; (case hg => exact Has.new _ _ _); (case hW => exact hw7); clear hw7)
            | fail)
          go_ret
          exact ⟨by rw [hM.out]; rfl, hb⟩
      · have j1 : (D.kind == 1) = false := by rw [beq_eq_false_iff_ne]; exact q1
        rw [decide_eq_false q1, Bool.false_and] at hM
        clear q1
        go_wp2_with (first
          | (refine wpList_alloc_has (by rfl) 61 rfl (diffC diff0 none 0 none 0) diff_zero ?_)
          | (refine wpList_store_to (by rfl) 61 _ _ rfl w6.heap.size rfl (diffC D lo lc wo wc) rfl 61 (diffC diff0 none 0 none 0) (diff_size _ _ _ _ _) (diff_same _ _ _ _ _ _ _ _ _ _) (diff_one _ _ _ _ _) ?hg w7 ?hW ?_; (case hg => exact Has.new _ _ _); (case hW => exact hw7); clear hw7)
          | fail)
        go_ret
        exact ⟨by rw [hM.out]; rfl, hb⟩
  · have i1 : (m : Int) < (n : Int) := by omega
    rw [decide_eq_false hnm, Bool.false_and] at hM
    clear hnm
    go_wp2
    go_ret
    exact ⟨by rw [hM.out]; rfl, hb⟩

theorem theres_le (b : BaseV) (n : Nat) : theres b n ≤ n := by
  induction n with
  | zero => exact Nat.le_refl _
  | succ n ih =>
    show theres b n + _ ≤ _
    split
    · split <;> omega
    · omega
theorem theres_step {b : BaseV} {n : Nat} (h : n < 6) : theres b (n + 1) = if (b.obj ⟨n, h⟩).there = true then theres b n + 1 else theres b n := by
  show theres b n + (if h : n < 6 then (if (b.obj ⟨n, h⟩).there = true then 1 else 0) else 0) = _
  rw [dif_pos h]
  split <;> omega

set_option maxHeartbeats 4000000 in
theorem bytes_any (d : DiffV) (lo wo : Option Addr) (lc wc : Nat) (w : World) (hd : DiffOk d) :
    Calls Try.prog 38 #[.agg (diffC d lo lc wo wc)] w fun en w' => en = .returned (.int .i64 (bytesM d : Int)) ∧ Below w.heap.size w w' := by
  obtain ⟨w1, hw1, hD, hb⟩ := one_var w 61 (diffC d lo lc wo wc)
  have l2 := hD.d_log
  have l51 := hD.d_wlog
  have ho := hD.d_objs
  have hM : Hid (bytesM d = d.log.length + d.whole.log.length + theres d.whole.base 6) := rfl
  have b1 := hd.len
  have b2 := hd.whole.len
  generalize d.log.length = p at *
  generalize d.whole.log.length = q at *
  obtain ⟨s, hs⟩ : ∃ s, p + q = s := ⟨_, rfl⟩
  have hs2 : s ≤ 2000 := by omega
  have hsI : (p : Int) + (q : Int) = (s : Int) := by omega
  rw [hs] at hM
  replace hs : Hid _ := hs
  go_enter Try.func38, Try.ntmps38
  go_wp2_with (first
    | (refine wpList_load_mid' (by rfl) 26 _ rfl w.heap.size 4 rfl (objsL d.whole.base.obj) _ ?hg Try.underlying26 rfl (objs_size _) ?_; (case hg => exact ho)))
  clear l2 l51 ho hw1 hsI
  generalize d.whole.base = B at *
  go_loopw [3, 18] (fun v i wr => ∃ n : Nat, n ≤ 6 ∧ i = .int .i64 n ∧ v = .int .i64 ((s + theres B n : Nat) : Int) ∧ Below w.heap.size w wr) (fun _ i _ => 6 - (intOf i).toNat)
  case atStart => exact ⟨0, by decide, rfl, by first | rfl | (show _ = Value.int .i64 ((s + 0 : Nat) : Int); rw [Nat.add_zero]), hb⟩
  case round =>
    clear hD hb
    obtain ⟨n, hn, rfl, rfl, hb⟩ := hrel
    by_cases hlt : n < 6
    · have hltI : (n : Int) < 6 := by omega
      have hext : Hid _ := objs_at_n B.obj ⟨n, hlt⟩
      have hnext : Hid _ := theres_step (b := B) hlt
      have hle := theres_le B n
      generalize B.obj ⟨n, hlt⟩ = y at *
      generalize theres B n = u at *
      obtain ⟨w3, hw3, hY, hq⟩ := new_var wr 25 (objC obj0) (objC y)
      replace hb := hb.trans (hq.mono hb.size)
      clear hq
      have t0 : w3.cell? ⟨wr.heap.size, 0, none⟩ = some (.bool y.there) := (hY.cell 0).trans rfl
      cases hth : y.there with
      | false =>
        rw [hth] at t0 hnext
        rw [if_neg (by simp)] at hnext
        go_wp2_with (first
          | (refine wpList_index_row (by rfl) 26 _ _ rfl n (objsL B.obj).toArray rfl rfl 25 6 5 _ Try.underlying26 ?hn Try.underlying25 rfl obj_size5 ?_; (case hn => exact hlt); rw [hext.out])
          | (refine wpList_alloc_has (by rfl) 25 rfl (objC obj0) obj_zero ?_)
          | (refine wpList_store_to (by rfl) 25 _ _ rfl wr.heap.size rfl (objC y) rfl 25 (objC obj0) (obj_size _) rfl (obj_one _) ?hg w3 ?hW ?_; (case hg => exact Has.new _ _ _); (case hW => exact hw3); clear hw3))
        go_roundw
        case rel => exact ⟨n + 1, by omega, by go_num, by rw [hnext.out]; first | rfl | go_num, hb⟩
        case measure => simp [intOf]; omega
      | true =>
        rw [hth] at t0 hnext
        rw [if_pos rfl] at hnext
        go_wp2_with (first
          | (refine wpList_index_row (by rfl) 26 _ _ rfl n (objsL B.obj).toArray rfl rfl 25 6 5 _ Try.underlying26 ?hn Try.underlying25 rfl obj_size5 ?_; (case hn => exact hlt); rw [hext.out])
          | (refine wpList_alloc_has (by rfl) 25 rfl (objC obj0) obj_zero ?_)
          | (refine wpList_store_to (by rfl) 25 _ _ rfl wr.heap.size rfl (objC y) rfl 25 (objC obj0) (obj_size _) rfl (obj_one _) ?hg w3 ?hW ?_; (case hg => exact Has.new _ _ _); (case hW => exact hw3); clear hw3))
        go_roundw
        case rel => exact ⟨n + 1, by omega, by go_num, by rw [hnext.out]; go_num, hb⟩
        case measure => simp [intOf]; omega
    · have e5 : n = 6 := by omega
      subst e5
      go_wp2
      go_ret
      exact ⟨by rw [hM.out]; rfl, hb⟩
end Go.Proofs.Ytphlfepgaghhhaa
