/- The contracts of merge's turned and Apply. -/
import Derived.Test.YtphlfepgaghhhabMergeEnd
namespace Go.Proofs.Ytphlfepgaghhhab
set_option linter.unusedSimpArgs false
set_option linter.unusedVariables false
set_option maxRecDepth 100000
open Go.RowKit

set_option maxHeartbeats 4000000 in
theorem turned_any (s : StV) (d : DiffV) (ao lo wo : Option Addr) (c lc wc : Nat) (w : World) (hs : StOk s) (hd : DiffOk d) (h : Sl w ao c 8 (entR s.log)) (hl : Sl w lo lc 8 (entR d.log)) (hwl : Sl w wo wc 8 (entR d.whole.log)) :
    Calls Try.prog 16 #[.agg (stC s ao c), .agg (diffC d lo lc wo wc)] w fun en w' => ∃ ro rc, en = .returned (.tuple #[.agg (stC (turnedM s d).1 ro rc), .bool (turnedM s d).2]) ∧ Sl w' ro rc 8 (entR (turnedM s d).1.log) ∧ Below w.heap.size w w' := by
  obtain ⟨w1, hw1, hX, hD, hR, hb⟩ := three_vars w 42 48 42 (stC s ao c) (diffC d lo lc wo wc) (stC st0 none 0)
  have l2 := hD.d_log
  have l1 := hD.d_from
  by_cases h0 : d.log.length = 0
  · have j0 : ((d.log.length : Int) == 0) = true := by rw [h0]; rfl
    have j0N : (d.log.length == 0) = true := by rw [h0]; rfl
    by_cases h1 : d.fr = 0
    · have j1 : ((d.fr : Int) == 0) = true := by rw [h1]; rfl
      have j1N : (d.fr == 0) = true := by rw [h1]; rfl
      have hBr : Hid (bareM d = true) := by show _ = _; unfold bareM; rw [decide_eq_true h0, decide_eq_true h1]; rfl
      clear h0 h1
      go_enter Try.func16, Try.ntmps16
      have k0 := hD.d_kind
      have hwh := hD.d_whole
      by_cases q0 : d.kind = 0
      · have i0 : (d.kind == 0) = true := by rw [q0]; rfl
        have hM : Hid (turnedM s d = ((endedM s d.whole).1, (endedM s d.whole).2 && bareM d)) := by show _ = _; unfold turnedM; rw [if_pos q0]
        rw [hBr.out] at hM
        clear q0
        go_wp2_with (first
          | (refine wpList_alloc_has (by rfl) 42 rfl (stC st0 none 0) st_zero ?_; rw [hw1])
          | (refine wpList_load_has (by rfl) 42 _ rfl (w.heap.size) rfl 42 (stC s ao c) _ Try.underlying42 rfl (st_size _ _ _) ?hg ?_; (case hg => exact hX))
          | (refine wpList_load_mid' (by rfl) 42 _ rfl (w.heap.size + 1) (3) rfl (stL d.whole wo wc) _ ?hg Try.underlying42 rfl (st_size _ _ _) ?_; (case hg => exact hwh))
          | fail)
        refine (ended_any s d.whole ao wo c wc _ hs hd.whole (h.later hb)).mono ?_
        rintro en w2 ⟨ro, rc, rfl, hG⟩
        have hS2 := hG.sl
        have hlt0 := hR.lt
        have hnew : ∀ d, ro = some d → w.heap.size + 1 + 1 < d.block := fun d hd => by have := hG.new d hd; omega
        replace hR := hR.later hG.below
        replace hb := hb.trans (hG.below.mono hb.size)
        clear hG hX hD k0 hwh
        generalize (endedM s d.whole).1 = T at *
        generalize (endedM s d.whole).2 = b at *
        obtain ⟨w3, hw3, hT, hq⟩ := new_var w2 42 (stC st0 none 0) (stC T ro rc)
        replace hR := hR.later hq
        replace hS2 := hS2.later hq
        replace hb := hb.trans (hq.mono hb.size)
        clear hq
        have hz := hR.row (stC T ro rc)
        have hsl := hS2.row_other (k := w.heap.size + 1 + 1) (fun d hd => by have := hnew d hd; omega) (stC T ro rc)
        have hbz := below_setRow hb (show w.heap.size ≤ w.heap.size + 1 + 1 by omega) (stC T ro rc)
        cases b with
        | false =>
          go_wp2_with (first
            | (refine wpList_alloc_has (by rfl) 42 rfl (stC st0 none 0) st_zero ?_)
            | (refine wpList_store_to (by rfl) 42 _ _ rfl w2.heap.size rfl (stC T ro rc) rfl 42 (stC st0 none 0) (st_size _ _ _) (st_same _ _ _ _ _ _) (st_one _ _ _) ?hg w3 ?hW ?_; (case hg => exact Has.new _ _ _); (case hW => exact hw3); clear hw3)
            | (refine wpList_load_has (by rfl) 42 _ rfl (w2.heap.size) rfl 42 (stC T ro rc) _ Try.underlying42 rfl (st_size _ _ _) ?hg ?_; (case hg => exact hT))
            | (refine wpList_store_has (by rfl) 42 _ _ rfl (w.heap.size + 1 + 1) rfl (stC T ro rc) rfl 42 (stC st0 none 0) (st_size _ _ _) (st_same _ _ _ _ _ _) (st_one _ _ _) ?hg ?_; (case hg => exact hR))
            | fail)
          refine ret_has_tmp rfl (w.heap.size + 1 + 1) rfl 42 (stC (T) ro rc) _ Try.underlying42 rfl (st_size _ _ _) hz rfl ⟨_, _, by rw [hM.out]; rfl, ?_⟩
          rw [hM.out]
          exact ⟨hsl, hbz⟩
        | true =>
          go_wp2_with (first
            | (refine wpList_alloc_has (by rfl) 42 rfl (stC st0 none 0) st_zero ?_)
            | (refine wpList_store_to (by rfl) 42 _ _ rfl w2.heap.size rfl (stC T ro rc) rfl 42 (stC st0 none 0) (st_size _ _ _) (st_same _ _ _ _ _ _) (st_one _ _ _) ?hg w3 ?hW ?_; (case hg => exact Has.new _ _ _); (case hW => exact hw3); clear hw3)
            | (refine wpList_load_has (by rfl) 42 _ rfl (w2.heap.size) rfl 42 (stC T ro rc) _ Try.underlying42 rfl (st_size _ _ _) ?hg ?_; (case hg => exact hT))
            | (refine wpList_store_has (by rfl) 42 _ _ rfl (w.heap.size + 1 + 1) rfl (stC T ro rc) rfl 42 (stC st0 none 0) (st_size _ _ _) (st_same _ _ _ _ _ _) (st_one _ _ _) ?hg ?_; (case hg => exact hR))
            | fail)
          refine ret_has_tmp rfl (w.heap.size + 1 + 1) rfl 42 (stC (T) ro rc) _ Try.underlying42 rfl (st_size _ _ _) hz rfl ⟨_, _, by rw [hM.out]; rfl, ?_⟩
          rw [hM.out]
          exact ⟨hsl, hbz⟩
      · have i0 : (d.kind == 0) = false := by rw [beq_eq_false_iff_ne]; exact q0
        by_cases q1 : d.kind = 1
        · have i1 : (d.kind == 1) = true := by rw [q1]; rfl
          have hM : Hid (turnedM s d = if (rewM s d.fr d.log).2 = 0 then endedM (rewM s d.fr d.log).1 d.whole else (st0, false)) := by show _ = _; unfold turnedM; rw [if_neg q0, if_pos q1]
          have k1 := hD.d_from
          have k2 := hD.d_log
          clear q0 q1
          go_wp2_with (first
            | (refine wpList_alloc_has (by rfl) 42 rfl (stC st0 none 0) st_zero ?_; rw [hw1])
            | (refine wpList_load_has (by rfl) 42 _ rfl (w.heap.size) rfl 42 (stC s ao c) _ Try.underlying42 rfl (st_size _ _ _) ?hg ?_; (case hg => exact hX))
            | fail)
          refine (rewritten_any s ao lo c lc d.fr d.log _ hs (h.later hb) hd.fr (hl.later hb) hd.log hd.len).mono ?_
          rintro en w2 ⟨ro, rc, rfl, hG⟩
          have hS2 := hG.sl
          have hPo := rew_fit hs d.fr hd.log
          replace hR := hR.later hG.below
          replace hD := hD.later hG.below
          replace hb := hb.trans (hG.below.mono hb.size)
          clear hG hX k0 k1 k2 hwh
          generalize rewM s d.fr d.log = P at *
          obtain ⟨w3, hw3, hT, hq⟩ := new_var w2 42 (stC st0 none 0) (stC P.1 ro rc)
          replace hR := hR.later hq
          replace hD := hD.later hq
          replace hS2 := hS2.later hq
          replace hb := hb.trans (hq.mono hb.size)
          clear hq
          have hwh := hD.d_whole
          by_cases hp : P.2 = 0
          · rw [decide_eq_true hp]
            rw [if_pos hp] at hM
            clear hp
            go_wp2_with (first
              | (refine wpList_alloc_has (by rfl) 42 rfl (stC st0 none 0) st_zero ?_)
              | (refine wpList_store_to (by rfl) 42 _ _ rfl w2.heap.size rfl (stC P.1 ro rc) rfl 42 (stC st0 none 0) (st_size _ _ _) (st_same _ _ _ _ _ _) (st_one _ _ _) ?hg w3 ?hW ?_; (case hg => exact Has.new _ _ _); (case hW => exact hw3); clear hw3)
              | (refine wpList_load_has (by rfl) 42 _ rfl (w2.heap.size) rfl 42 (stC P.1 ro rc) _ Try.underlying42 rfl (st_size _ _ _) ?hg ?_; (case hg => exact hT))
              | (refine wpList_load_mid' (by rfl) 42 _ rfl (w.heap.size + 1) (3) rfl (stL d.whole wo wc) _ ?hg Try.underlying42 rfl (st_size _ _ _) ?_; (case hg => exact hwh))
              | fail)
            refine (ended_any P.1 d.whole ro wo rc wc _ hPo hd.whole hS2).mono ?_
            rintro en w4 ⟨so, sc, rfl, hG⟩
            have hS4 := hG.sl
            have hlt0 := hR.lt
            have hnew : ∀ d, so = some d → w.heap.size + 1 + 1 < d.block := fun d hd => by have := hG.new d hd; omega
            replace hR := hR.later hG.below
            replace hb := hb.trans (hG.below.mono hb.size)
            clear hG hT hD hwh hS2
            generalize (endedM P.1 d.whole) = T at *
            have hz := hR.row (stC T.1 so sc)
            have hsl := hS4.row_other (k := w.heap.size + 1 + 1) (fun d hd => by have := hnew d hd; omega) (stC T.1 so sc)
            have hbz := below_setRow hb (show w.heap.size ≤ w.heap.size + 1 + 1 by omega) (stC T.1 so sc)
            go_wp2_with (first
              | (refine wpList_store_has (by rfl) 42 _ _ rfl (w.heap.size + 1 + 1) rfl (stC T.1 so sc) rfl 42 (stC st0 none 0) (st_size _ _ _) (st_same _ _ _ _ _ _) (st_one _ _ _) ?hg ?_; (case hg => exact hR))
              | fail)
            refine ret_has_tmp rfl (w.heap.size + 1 + 1) rfl 42 (stC (T.1) so sc) _ Try.underlying42 rfl (st_size _ _ _) hz rfl ⟨_, _, by rw [hM.out]; rfl, ?_⟩
            rw [hM.out]
            exact ⟨hsl, hbz⟩
          · rw [decide_eq_false hp]
            rw [if_neg hp] at hM
            clear hp
            have hz := hR.row (stC st0 none 0)
            have hbz := below_setRow hb (show w.heap.size ≤ w.heap.size + 1 + 1 by omega) (stC st0 none 0)
            go_wp2_with (first
              | (refine wpList_alloc_has (by rfl) 42 rfl (stC st0 none 0) st_zero ?_)
              | (refine wpList_store_to (by rfl) 42 _ _ rfl w2.heap.size rfl (stC P.1 ro rc) rfl 42 (stC st0 none 0) (st_size _ _ _) (st_same _ _ _ _ _ _) (st_one _ _ _) ?hg w3 ?hW ?_; (case hg => exact Has.new _ _ _); (case hW => exact hw3); clear hw3)
              | (refine wpList_build_has (by rfl) 42 #[] rfl (stC st0 none 0) (by simpa using st_built0) ?_)
              | (refine wpList_store_has (by rfl) 42 _ _ rfl (w.heap.size + 1 + 1) rfl (stC st0 none 0) rfl 42 (stC st0 none 0) (st_size _ _ _) (st_same _ _ _ _ _ _) (st_one _ _ _) ?hg ?_; (case hg => exact hR))
              | fail)
            refine ret_has_tmp rfl (w.heap.size + 1 + 1) rfl 42 (stC (st0) none 0) _ Try.underlying42 rfl (st_size _ _ _) hz rfl ⟨_, _, by rw [hM.out]; rfl, ?_⟩
            rw [hM.out]
            exact ⟨Sl.nothing _ _, hbz⟩
        · have i1 : (d.kind == 1) = false := by rw [beq_eq_false_iff_ne]; exact q1
          by_cases q2 : d.kind = 2
          · have i2 : (d.kind == 2) = true := by rw [q2]; rfl
            have hM : Hid (turnedM s d = (d.whole, bareM d)) := by show _ = _; unfold turnedM; rw [if_neg q0, if_neg q1, if_pos q2]
            rw [hBr.out] at hM
            clear q0 q1 q2
            have hz := hR.row (stC d.whole wo wc)
            have hbz := below_setRow hb (show w.heap.size ≤ w.heap.size + 1 + 1 by omega) (stC d.whole wo wc)
            go_wp2_with (first
              | (refine wpList_alloc_has (by rfl) 42 rfl (stC st0 none 0) st_zero ?_; rw [hw1])
              | (refine wpList_load_mid' (by rfl) 42 _ rfl (w.heap.size + 1) (3) rfl (stL d.whole wo wc) _ ?hg Try.underlying42 rfl (st_size _ _ _) ?_; (case hg => exact hwh))
              | (refine wpList_store_has (by rfl) 42 _ _ rfl (w.heap.size + 1 + 1) rfl (stC d.whole wo wc) rfl 42 (stC st0 none 0) (st_size _ _ _) (st_same _ _ _ _ _ _) (st_one _ _ _) ?hg ?_; (case hg => exact hR))
              | fail)
            refine ret_has_tmp rfl (w.heap.size + 1 + 1) rfl 42 (stC (d.whole) wo wc) _ Try.underlying42 rfl (st_size _ _ _) hz rfl ⟨_, _, by rw [hM.out]; rfl, ?_⟩
            rw [hM.out]
            exact ⟨hwl.later hbz, hbz⟩
          · have i2 : (d.kind == 2) = false := by rw [beq_eq_false_iff_ne]; exact q2
            have hM : Hid (turnedM s d = (st0, false)) := by show _ = _; unfold turnedM; rw [if_neg q0, if_neg q1, if_neg q2]
            clear q0 q1 q2
            have hz := hR.row (stC st0 none 0)
            have hbz := below_setRow hb (show w.heap.size ≤ w.heap.size + 1 + 1 by omega) (stC st0 none 0)
            go_wp2_with (first
              | (refine wpList_alloc_has (by rfl) 42 rfl (stC st0 none 0) st_zero ?_; rw [hw1])
              | (refine wpList_build_has (by rfl) 42 #[] rfl (stC st0 none 0) (by simpa using st_built0) ?_)
              | (refine wpList_store_has (by rfl) 42 _ _ rfl (w.heap.size + 1 + 1) rfl (stC st0 none 0) rfl 42 (stC st0 none 0) (st_size _ _ _) (st_same _ _ _ _ _ _) (st_one _ _ _) ?hg ?_; (case hg => exact hR))
              | fail)
            refine ret_has_tmp rfl (w.heap.size + 1 + 1) rfl 42 (stC (st0) none 0) _ Try.underlying42 rfl (st_size _ _ _) hz rfl ⟨_, _, by rw [hM.out]; rfl, ?_⟩
            rw [hM.out]
            exact ⟨Sl.nothing _ _, hbz⟩
    · have j1 : ((d.fr : Int) == 0) = false := by rw [beq_eq_false_iff_ne]; omega
      have j1N : (d.fr == 0) = false := by rw [beq_eq_false_iff_ne]; omega
      have hBr : Hid (bareM d = false) := by show _ = _; unfold bareM; rw [decide_eq_true h0, decide_eq_false h1]; rfl
      clear h0 h1
      go_enter Try.func16, Try.ntmps16
      have k0 := hD.d_kind
      have hwh := hD.d_whole
      by_cases q0 : d.kind = 0
      · have i0 : (d.kind == 0) = true := by rw [q0]; rfl
        have hM : Hid (turnedM s d = ((endedM s d.whole).1, (endedM s d.whole).2 && bareM d)) := by show _ = _; unfold turnedM; rw [if_pos q0]
        rw [hBr.out] at hM
        clear q0
        go_wp2_with (first
          | (refine wpList_alloc_has (by rfl) 42 rfl (stC st0 none 0) st_zero ?_; rw [hw1])
          | (refine wpList_load_has (by rfl) 42 _ rfl (w.heap.size) rfl 42 (stC s ao c) _ Try.underlying42 rfl (st_size _ _ _) ?hg ?_; (case hg => exact hX))
          | (refine wpList_load_mid' (by rfl) 42 _ rfl (w.heap.size + 1) (3) rfl (stL d.whole wo wc) _ ?hg Try.underlying42 rfl (st_size _ _ _) ?_; (case hg => exact hwh))
          | fail)
        refine (ended_any s d.whole ao wo c wc _ hs hd.whole (h.later hb)).mono ?_
        rintro en w2 ⟨ro, rc, rfl, hG⟩
        have hS2 := hG.sl
        have hlt0 := hR.lt
        have hnew : ∀ d, ro = some d → w.heap.size + 1 + 1 < d.block := fun d hd => by have := hG.new d hd; omega
        replace hR := hR.later hG.below
        replace hb := hb.trans (hG.below.mono hb.size)
        clear hG hX hD k0 hwh
        generalize (endedM s d.whole).1 = T at *
        generalize (endedM s d.whole).2 = b at *
        obtain ⟨w3, hw3, hT, hq⟩ := new_var w2 42 (stC st0 none 0) (stC T ro rc)
        replace hR := hR.later hq
        replace hS2 := hS2.later hq
        replace hb := hb.trans (hq.mono hb.size)
        clear hq
        have hz := hR.row (stC T ro rc)
        have hsl := hS2.row_other (k := w.heap.size + 1 + 1) (fun d hd => by have := hnew d hd; omega) (stC T ro rc)
        have hbz := below_setRow hb (show w.heap.size ≤ w.heap.size + 1 + 1 by omega) (stC T ro rc)
        cases b with
        | false =>
          go_wp2_with (first
            | (refine wpList_alloc_has (by rfl) 42 rfl (stC st0 none 0) st_zero ?_)
            | (refine wpList_store_to (by rfl) 42 _ _ rfl w2.heap.size rfl (stC T ro rc) rfl 42 (stC st0 none 0) (st_size _ _ _) (st_same _ _ _ _ _ _) (st_one _ _ _) ?hg w3 ?hW ?_; (case hg => exact Has.new _ _ _); (case hW => exact hw3); clear hw3)
            | (refine wpList_load_has (by rfl) 42 _ rfl (w2.heap.size) rfl 42 (stC T ro rc) _ Try.underlying42 rfl (st_size _ _ _) ?hg ?_; (case hg => exact hT))
            | (refine wpList_store_has (by rfl) 42 _ _ rfl (w.heap.size + 1 + 1) rfl (stC T ro rc) rfl 42 (stC st0 none 0) (st_size _ _ _) (st_same _ _ _ _ _ _) (st_one _ _ _) ?hg ?_; (case hg => exact hR))
            | fail)
          refine ret_has_tmp rfl (w.heap.size + 1 + 1) rfl 42 (stC (T) ro rc) _ Try.underlying42 rfl (st_size _ _ _) hz rfl ⟨_, _, by rw [hM.out]; rfl, ?_⟩
          rw [hM.out]
          exact ⟨hsl, hbz⟩
        | true =>
          go_wp2_with (first
            | (refine wpList_alloc_has (by rfl) 42 rfl (stC st0 none 0) st_zero ?_)
            | (refine wpList_store_to (by rfl) 42 _ _ rfl w2.heap.size rfl (stC T ro rc) rfl 42 (stC st0 none 0) (st_size _ _ _) (st_same _ _ _ _ _ _) (st_one _ _ _) ?hg w3 ?hW ?_; (case hg => exact Has.new _ _ _); (case hW => exact hw3); clear hw3)
            | (refine wpList_load_has (by rfl) 42 _ rfl (w2.heap.size) rfl 42 (stC T ro rc) _ Try.underlying42 rfl (st_size _ _ _) ?hg ?_; (case hg => exact hT))
            | (refine wpList_store_has (by rfl) 42 _ _ rfl (w.heap.size + 1 + 1) rfl (stC T ro rc) rfl 42 (stC st0 none 0) (st_size _ _ _) (st_same _ _ _ _ _ _) (st_one _ _ _) ?hg ?_; (case hg => exact hR))
            | fail)
          refine ret_has_tmp rfl (w.heap.size + 1 + 1) rfl 42 (stC (T) ro rc) _ Try.underlying42 rfl (st_size _ _ _) hz rfl ⟨_, _, by rw [hM.out]; rfl, ?_⟩
          rw [hM.out]
          exact ⟨hsl, hbz⟩
      · have i0 : (d.kind == 0) = false := by rw [beq_eq_false_iff_ne]; exact q0
        by_cases q1 : d.kind = 1
        · have i1 : (d.kind == 1) = true := by rw [q1]; rfl
          have hM : Hid (turnedM s d = if (rewM s d.fr d.log).2 = 0 then endedM (rewM s d.fr d.log).1 d.whole else (st0, false)) := by show _ = _; unfold turnedM; rw [if_neg q0, if_pos q1]
          have k1 := hD.d_from
          have k2 := hD.d_log
          clear q0 q1
          go_wp2_with (first
            | (refine wpList_alloc_has (by rfl) 42 rfl (stC st0 none 0) st_zero ?_; rw [hw1])
            | (refine wpList_load_has (by rfl) 42 _ rfl (w.heap.size) rfl 42 (stC s ao c) _ Try.underlying42 rfl (st_size _ _ _) ?hg ?_; (case hg => exact hX))
            | fail)
          refine (rewritten_any s ao lo c lc d.fr d.log _ hs (h.later hb) hd.fr (hl.later hb) hd.log hd.len).mono ?_
          rintro en w2 ⟨ro, rc, rfl, hG⟩
          have hS2 := hG.sl
          have hPo := rew_fit hs d.fr hd.log
          replace hR := hR.later hG.below
          replace hD := hD.later hG.below
          replace hb := hb.trans (hG.below.mono hb.size)
          clear hG hX k0 k1 k2 hwh
          generalize rewM s d.fr d.log = P at *
          obtain ⟨w3, hw3, hT, hq⟩ := new_var w2 42 (stC st0 none 0) (stC P.1 ro rc)
          replace hR := hR.later hq
          replace hD := hD.later hq
          replace hS2 := hS2.later hq
          replace hb := hb.trans (hq.mono hb.size)
          clear hq
          have hwh := hD.d_whole
          by_cases hp : P.2 = 0
          · rw [decide_eq_true hp]
            rw [if_pos hp] at hM
            clear hp
            go_wp2_with (first
              | (refine wpList_alloc_has (by rfl) 42 rfl (stC st0 none 0) st_zero ?_)
              | (refine wpList_store_to (by rfl) 42 _ _ rfl w2.heap.size rfl (stC P.1 ro rc) rfl 42 (stC st0 none 0) (st_size _ _ _) (st_same _ _ _ _ _ _) (st_one _ _ _) ?hg w3 ?hW ?_; (case hg => exact Has.new _ _ _); (case hW => exact hw3); clear hw3)
              | (refine wpList_load_has (by rfl) 42 _ rfl (w2.heap.size) rfl 42 (stC P.1 ro rc) _ Try.underlying42 rfl (st_size _ _ _) ?hg ?_; (case hg => exact hT))
              | (refine wpList_load_mid' (by rfl) 42 _ rfl (w.heap.size + 1) (3) rfl (stL d.whole wo wc) _ ?hg Try.underlying42 rfl (st_size _ _ _) ?_; (case hg => exact hwh))
              | fail)
            refine (ended_any P.1 d.whole ro wo rc wc _ hPo hd.whole hS2).mono ?_
            rintro en w4 ⟨so, sc, rfl, hG⟩
            have hS4 := hG.sl
            have hlt0 := hR.lt
            have hnew : ∀ d, so = some d → w.heap.size + 1 + 1 < d.block := fun d hd => by have := hG.new d hd; omega
            replace hR := hR.later hG.below
            replace hb := hb.trans (hG.below.mono hb.size)
            clear hG hT hD hwh hS2
            generalize (endedM P.1 d.whole) = T at *
            have hz := hR.row (stC T.1 so sc)
            have hsl := hS4.row_other (k := w.heap.size + 1 + 1) (fun d hd => by have := hnew d hd; omega) (stC T.1 so sc)
            have hbz := below_setRow hb (show w.heap.size ≤ w.heap.size + 1 + 1 by omega) (stC T.1 so sc)
            go_wp2_with (first
              | (refine wpList_store_has (by rfl) 42 _ _ rfl (w.heap.size + 1 + 1) rfl (stC T.1 so sc) rfl 42 (stC st0 none 0) (st_size _ _ _) (st_same _ _ _ _ _ _) (st_one _ _ _) ?hg ?_; (case hg => exact hR))
              | fail)
            refine ret_has_tmp rfl (w.heap.size + 1 + 1) rfl 42 (stC (T.1) so sc) _ Try.underlying42 rfl (st_size _ _ _) hz rfl ⟨_, _, by rw [hM.out]; rfl, ?_⟩
            rw [hM.out]
            exact ⟨hsl, hbz⟩
          · rw [decide_eq_false hp]
            rw [if_neg hp] at hM
            clear hp
            have hz := hR.row (stC st0 none 0)
            have hbz := below_setRow hb (show w.heap.size ≤ w.heap.size + 1 + 1 by omega) (stC st0 none 0)
            go_wp2_with (first
              | (refine wpList_alloc_has (by rfl) 42 rfl (stC st0 none 0) st_zero ?_)
              | (refine wpList_store_to (by rfl) 42 _ _ rfl w2.heap.size rfl (stC P.1 ro rc) rfl 42 (stC st0 none 0) (st_size _ _ _) (st_same _ _ _ _ _ _) (st_one _ _ _) ?hg w3 ?hW ?_; (case hg => exact Has.new _ _ _); (case hW => exact hw3); clear hw3)
              | (refine wpList_build_has (by rfl) 42 #[] rfl (stC st0 none 0) (by simpa using st_built0) ?_)
              | (refine wpList_store_has (by rfl) 42 _ _ rfl (w.heap.size + 1 + 1) rfl (stC st0 none 0) rfl 42 (stC st0 none 0) (st_size _ _ _) (st_same _ _ _ _ _ _) (st_one _ _ _) ?hg ?_; (case hg => exact hR))
              | fail)
            refine ret_has_tmp rfl (w.heap.size + 1 + 1) rfl 42 (stC (st0) none 0) _ Try.underlying42 rfl (st_size _ _ _) hz rfl ⟨_, _, by rw [hM.out]; rfl, ?_⟩
            rw [hM.out]
            exact ⟨Sl.nothing _ _, hbz⟩
        · have i1 : (d.kind == 1) = false := by rw [beq_eq_false_iff_ne]; exact q1
          by_cases q2 : d.kind = 2
          · have i2 : (d.kind == 2) = true := by rw [q2]; rfl
            have hM : Hid (turnedM s d = (d.whole, bareM d)) := by show _ = _; unfold turnedM; rw [if_neg q0, if_neg q1, if_pos q2]
            rw [hBr.out] at hM
            clear q0 q1 q2
            have hz := hR.row (stC d.whole wo wc)
            have hbz := below_setRow hb (show w.heap.size ≤ w.heap.size + 1 + 1 by omega) (stC d.whole wo wc)
            go_wp2_with (first
              | (refine wpList_alloc_has (by rfl) 42 rfl (stC st0 none 0) st_zero ?_; rw [hw1])
              | (refine wpList_load_mid' (by rfl) 42 _ rfl (w.heap.size + 1) (3) rfl (stL d.whole wo wc) _ ?hg Try.underlying42 rfl (st_size _ _ _) ?_; (case hg => exact hwh))
              | (refine wpList_store_has (by rfl) 42 _ _ rfl (w.heap.size + 1 + 1) rfl (stC d.whole wo wc) rfl 42 (stC st0 none 0) (st_size _ _ _) (st_same _ _ _ _ _ _) (st_one _ _ _) ?hg ?_; (case hg => exact hR))
              | fail)
            refine ret_has_tmp rfl (w.heap.size + 1 + 1) rfl 42 (stC (d.whole) wo wc) _ Try.underlying42 rfl (st_size _ _ _) hz rfl ⟨_, _, by rw [hM.out]; rfl, ?_⟩
            rw [hM.out]
            exact ⟨hwl.later hbz, hbz⟩
          · have i2 : (d.kind == 2) = false := by rw [beq_eq_false_iff_ne]; exact q2
            have hM : Hid (turnedM s d = (st0, false)) := by show _ = _; unfold turnedM; rw [if_neg q0, if_neg q1, if_neg q2]
            clear q0 q1 q2
            have hz := hR.row (stC st0 none 0)
            have hbz := below_setRow hb (show w.heap.size ≤ w.heap.size + 1 + 1 by omega) (stC st0 none 0)
            go_wp2_with (first
              | (refine wpList_alloc_has (by rfl) 42 rfl (stC st0 none 0) st_zero ?_; rw [hw1])
              | (refine wpList_build_has (by rfl) 42 #[] rfl (stC st0 none 0) (by simpa using st_built0) ?_)
              | (refine wpList_store_has (by rfl) 42 _ _ rfl (w.heap.size + 1 + 1) rfl (stC st0 none 0) rfl 42 (stC st0 none 0) (st_size _ _ _) (st_same _ _ _ _ _ _) (st_one _ _ _) ?hg ?_; (case hg => exact hR))
              | fail)
            refine ret_has_tmp rfl (w.heap.size + 1 + 1) rfl 42 (stC (st0) none 0) _ Try.underlying42 rfl (st_size _ _ _) hz rfl ⟨_, _, by rw [hM.out]; rfl, ?_⟩
            rw [hM.out]
            exact ⟨Sl.nothing _ _, hbz⟩
  · have j0 : ((d.log.length : Int) == 0) = false := by rw [beq_eq_false_iff_ne]; omega
    have j0N : (d.log.length == 0) = false := by rw [beq_eq_false_iff_ne]; omega
    have hBr : Hid (bareM d = false) := by show _ = _; unfold bareM; rw [decide_eq_false h0]; rfl
    clear h0
    go_enter Try.func16, Try.ntmps16
    have k0 := hD.d_kind
    have hwh := hD.d_whole
    by_cases q0 : d.kind = 0
    · have i0 : (d.kind == 0) = true := by rw [q0]; rfl
      have hM : Hid (turnedM s d = ((endedM s d.whole).1, (endedM s d.whole).2 && bareM d)) := by show _ = _; unfold turnedM; rw [if_pos q0]
      rw [hBr.out] at hM
      clear q0
      go_wp2_with (first
        | (refine wpList_alloc_has (by rfl) 42 rfl (stC st0 none 0) st_zero ?_; rw [hw1])
        | (refine wpList_load_has (by rfl) 42 _ rfl (w.heap.size) rfl 42 (stC s ao c) _ Try.underlying42 rfl (st_size _ _ _) ?hg ?_; (case hg => exact hX))
        | (refine wpList_load_mid' (by rfl) 42 _ rfl (w.heap.size + 1) (3) rfl (stL d.whole wo wc) _ ?hg Try.underlying42 rfl (st_size _ _ _) ?_; (case hg => exact hwh))
        | fail)
      refine (ended_any s d.whole ao wo c wc _ hs hd.whole (h.later hb)).mono ?_
      rintro en w2 ⟨ro, rc, rfl, hG⟩
      have hS2 := hG.sl
      have hlt0 := hR.lt
      have hnew : ∀ d, ro = some d → w.heap.size + 1 + 1 < d.block := fun d hd => by have := hG.new d hd; omega
      replace hR := hR.later hG.below
      replace hb := hb.trans (hG.below.mono hb.size)
      clear hG hX hD k0 hwh
      generalize (endedM s d.whole).1 = T at *
      generalize (endedM s d.whole).2 = b at *
      obtain ⟨w3, hw3, hT, hq⟩ := new_var w2 42 (stC st0 none 0) (stC T ro rc)
      replace hR := hR.later hq
      replace hS2 := hS2.later hq
      replace hb := hb.trans (hq.mono hb.size)
      clear hq
      have hz := hR.row (stC T ro rc)
      have hsl := hS2.row_other (k := w.heap.size + 1 + 1) (fun d hd => by have := hnew d hd; omega) (stC T ro rc)
      have hbz := below_setRow hb (show w.heap.size ≤ w.heap.size + 1 + 1 by omega) (stC T ro rc)
      cases b with
      | false =>
        go_wp2_with (first
          | (refine wpList_alloc_has (by rfl) 42 rfl (stC st0 none 0) st_zero ?_)
          | (refine wpList_store_to (by rfl) 42 _ _ rfl w2.heap.size rfl (stC T ro rc) rfl 42 (stC st0 none 0) (st_size _ _ _) (st_same _ _ _ _ _ _) (st_one _ _ _) ?hg w3 ?hW ?_; (case hg => exact Has.new _ _ _); (case hW => exact hw3); clear hw3)
          | (refine wpList_load_has (by rfl) 42 _ rfl (w2.heap.size) rfl 42 (stC T ro rc) _ Try.underlying42 rfl (st_size _ _ _) ?hg ?_; (case hg => exact hT))
          | (refine wpList_store_has (by rfl) 42 _ _ rfl (w.heap.size + 1 + 1) rfl (stC T ro rc) rfl 42 (stC st0 none 0) (st_size _ _ _) (st_same _ _ _ _ _ _) (st_one _ _ _) ?hg ?_; (case hg => exact hR))
          | fail)
        refine ret_has_tmp rfl (w.heap.size + 1 + 1) rfl 42 (stC (T) ro rc) _ Try.underlying42 rfl (st_size _ _ _) hz rfl ⟨_, _, by rw [hM.out]; rfl, ?_⟩
        rw [hM.out]
        exact ⟨hsl, hbz⟩
      | true =>
        go_wp2_with (first
          | (refine wpList_alloc_has (by rfl) 42 rfl (stC st0 none 0) st_zero ?_)
          | (refine wpList_store_to (by rfl) 42 _ _ rfl w2.heap.size rfl (stC T ro rc) rfl 42 (stC st0 none 0) (st_size _ _ _) (st_same _ _ _ _ _ _) (st_one _ _ _) ?hg w3 ?hW ?_; (case hg => exact Has.new _ _ _); (case hW => exact hw3); clear hw3)
          | (refine wpList_load_has (by rfl) 42 _ rfl (w2.heap.size) rfl 42 (stC T ro rc) _ Try.underlying42 rfl (st_size _ _ _) ?hg ?_; (case hg => exact hT))
          | (refine wpList_store_has (by rfl) 42 _ _ rfl (w.heap.size + 1 + 1) rfl (stC T ro rc) rfl 42 (stC st0 none 0) (st_size _ _ _) (st_same _ _ _ _ _ _) (st_one _ _ _) ?hg ?_; (case hg => exact hR))
          | fail)
        refine ret_has_tmp rfl (w.heap.size + 1 + 1) rfl 42 (stC (T) ro rc) _ Try.underlying42 rfl (st_size _ _ _) hz rfl ⟨_, _, by rw [hM.out]; rfl, ?_⟩
        rw [hM.out]
        exact ⟨hsl, hbz⟩
    · have i0 : (d.kind == 0) = false := by rw [beq_eq_false_iff_ne]; exact q0
      by_cases q1 : d.kind = 1
      · have i1 : (d.kind == 1) = true := by rw [q1]; rfl
        have hM : Hid (turnedM s d = if (rewM s d.fr d.log).2 = 0 then endedM (rewM s d.fr d.log).1 d.whole else (st0, false)) := by show _ = _; unfold turnedM; rw [if_neg q0, if_pos q1]
        have k1 := hD.d_from
        have k2 := hD.d_log
        clear q0 q1
        go_wp2_with (first
          | (refine wpList_alloc_has (by rfl) 42 rfl (stC st0 none 0) st_zero ?_; rw [hw1])
          | (refine wpList_load_has (by rfl) 42 _ rfl (w.heap.size) rfl 42 (stC s ao c) _ Try.underlying42 rfl (st_size _ _ _) ?hg ?_; (case hg => exact hX))
          | fail)
        refine (rewritten_any s ao lo c lc d.fr d.log _ hs (h.later hb) hd.fr (hl.later hb) hd.log hd.len).mono ?_
        rintro en w2 ⟨ro, rc, rfl, hG⟩
        have hS2 := hG.sl
        have hPo := rew_fit hs d.fr hd.log
        replace hR := hR.later hG.below
        replace hD := hD.later hG.below
        replace hb := hb.trans (hG.below.mono hb.size)
        clear hG hX k0 k1 k2 hwh
        generalize rewM s d.fr d.log = P at *
        obtain ⟨w3, hw3, hT, hq⟩ := new_var w2 42 (stC st0 none 0) (stC P.1 ro rc)
        replace hR := hR.later hq
        replace hD := hD.later hq
        replace hS2 := hS2.later hq
        replace hb := hb.trans (hq.mono hb.size)
        clear hq
        have hwh := hD.d_whole
        by_cases hp : P.2 = 0
        · rw [decide_eq_true hp]
          rw [if_pos hp] at hM
          clear hp
          go_wp2_with (first
            | (refine wpList_alloc_has (by rfl) 42 rfl (stC st0 none 0) st_zero ?_)
            | (refine wpList_store_to (by rfl) 42 _ _ rfl w2.heap.size rfl (stC P.1 ro rc) rfl 42 (stC st0 none 0) (st_size _ _ _) (st_same _ _ _ _ _ _) (st_one _ _ _) ?hg w3 ?hW ?_; (case hg => exact Has.new _ _ _); (case hW => exact hw3); clear hw3)
            | (refine wpList_load_has (by rfl) 42 _ rfl (w2.heap.size) rfl 42 (stC P.1 ro rc) _ Try.underlying42 rfl (st_size _ _ _) ?hg ?_; (case hg => exact hT))
            | (refine wpList_load_mid' (by rfl) 42 _ rfl (w.heap.size + 1) (3) rfl (stL d.whole wo wc) _ ?hg Try.underlying42 rfl (st_size _ _ _) ?_; (case hg => exact hwh))
            | fail)
          refine (ended_any P.1 d.whole ro wo rc wc _ hPo hd.whole hS2).mono ?_
          rintro en w4 ⟨so, sc, rfl, hG⟩
          have hS4 := hG.sl
          have hlt0 := hR.lt
          have hnew : ∀ d, so = some d → w.heap.size + 1 + 1 < d.block := fun d hd => by have := hG.new d hd; omega
          replace hR := hR.later hG.below
          replace hb := hb.trans (hG.below.mono hb.size)
          clear hG hT hD hwh hS2
          generalize (endedM P.1 d.whole) = T at *
          have hz := hR.row (stC T.1 so sc)
          have hsl := hS4.row_other (k := w.heap.size + 1 + 1) (fun d hd => by have := hnew d hd; omega) (stC T.1 so sc)
          have hbz := below_setRow hb (show w.heap.size ≤ w.heap.size + 1 + 1 by omega) (stC T.1 so sc)
          go_wp2_with (first
            | (refine wpList_store_has (by rfl) 42 _ _ rfl (w.heap.size + 1 + 1) rfl (stC T.1 so sc) rfl 42 (stC st0 none 0) (st_size _ _ _) (st_same _ _ _ _ _ _) (st_one _ _ _) ?hg ?_; (case hg => exact hR))
            | fail)
          refine ret_has_tmp rfl (w.heap.size + 1 + 1) rfl 42 (stC (T.1) so sc) _ Try.underlying42 rfl (st_size _ _ _) hz rfl ⟨_, _, by rw [hM.out]; rfl, ?_⟩
          rw [hM.out]
          exact ⟨hsl, hbz⟩
        · rw [decide_eq_false hp]
          rw [if_neg hp] at hM
          clear hp
          have hz := hR.row (stC st0 none 0)
          have hbz := below_setRow hb (show w.heap.size ≤ w.heap.size + 1 + 1 by omega) (stC st0 none 0)
          go_wp2_with (first
            | (refine wpList_alloc_has (by rfl) 42 rfl (stC st0 none 0) st_zero ?_)
            | (refine wpList_store_to (by rfl) 42 _ _ rfl w2.heap.size rfl (stC P.1 ro rc) rfl 42 (stC st0 none 0) (st_size _ _ _) (st_same _ _ _ _ _ _) (st_one _ _ _) ?hg w3 ?hW ?_; (case hg => exact Has.new _ _ _); (case hW => exact hw3); clear hw3)
            | (refine wpList_build_has (by rfl) 42 #[] rfl (stC st0 none 0) (by simpa using st_built0) ?_)
            | (refine wpList_store_has (by rfl) 42 _ _ rfl (w.heap.size + 1 + 1) rfl (stC st0 none 0) rfl 42 (stC st0 none 0) (st_size _ _ _) (st_same _ _ _ _ _ _) (st_one _ _ _) ?hg ?_; (case hg => exact hR))
            | fail)
          refine ret_has_tmp rfl (w.heap.size + 1 + 1) rfl 42 (stC (st0) none 0) _ Try.underlying42 rfl (st_size _ _ _) hz rfl ⟨_, _, by rw [hM.out]; rfl, ?_⟩
          rw [hM.out]
          exact ⟨Sl.nothing _ _, hbz⟩
      · have i1 : (d.kind == 1) = false := by rw [beq_eq_false_iff_ne]; exact q1
        by_cases q2 : d.kind = 2
        · have i2 : (d.kind == 2) = true := by rw [q2]; rfl
          have hM : Hid (turnedM s d = (d.whole, bareM d)) := by show _ = _; unfold turnedM; rw [if_neg q0, if_neg q1, if_pos q2]
          rw [hBr.out] at hM
          clear q0 q1 q2
          have hz := hR.row (stC d.whole wo wc)
          have hbz := below_setRow hb (show w.heap.size ≤ w.heap.size + 1 + 1 by omega) (stC d.whole wo wc)
          go_wp2_with (first
            | (refine wpList_alloc_has (by rfl) 42 rfl (stC st0 none 0) st_zero ?_; rw [hw1])
            | (refine wpList_load_mid' (by rfl) 42 _ rfl (w.heap.size + 1) (3) rfl (stL d.whole wo wc) _ ?hg Try.underlying42 rfl (st_size _ _ _) ?_; (case hg => exact hwh))
            | (refine wpList_store_has (by rfl) 42 _ _ rfl (w.heap.size + 1 + 1) rfl (stC d.whole wo wc) rfl 42 (stC st0 none 0) (st_size _ _ _) (st_same _ _ _ _ _ _) (st_one _ _ _) ?hg ?_; (case hg => exact hR))
            | fail)
          refine ret_has_tmp rfl (w.heap.size + 1 + 1) rfl 42 (stC (d.whole) wo wc) _ Try.underlying42 rfl (st_size _ _ _) hz rfl ⟨_, _, by rw [hM.out]; rfl, ?_⟩
          rw [hM.out]
          exact ⟨hwl.later hbz, hbz⟩
        · have i2 : (d.kind == 2) = false := by rw [beq_eq_false_iff_ne]; exact q2
          have hM : Hid (turnedM s d = (st0, false)) := by show _ = _; unfold turnedM; rw [if_neg q0, if_neg q1, if_neg q2]
          clear q0 q1 q2
          have hz := hR.row (stC st0 none 0)
          have hbz := below_setRow hb (show w.heap.size ≤ w.heap.size + 1 + 1 by omega) (stC st0 none 0)
          go_wp2_with (first
            | (refine wpList_alloc_has (by rfl) 42 rfl (stC st0 none 0) st_zero ?_; rw [hw1])
            | (refine wpList_build_has (by rfl) 42 #[] rfl (stC st0 none 0) (by simpa using st_built0) ?_)
            | (refine wpList_store_has (by rfl) 42 _ _ rfl (w.heap.size + 1 + 1) rfl (stC st0 none 0) rfl 42 (stC st0 none 0) (st_size _ _ _) (st_same _ _ _ _ _ _) (st_one _ _ _) ?hg ?_; (case hg => exact hR))
            | fail)
          refine ret_has_tmp rfl (w.heap.size + 1 + 1) rfl 42 (stC (st0) none 0) _ Try.underlying42 rfl (st_size _ _ _) hz rfl ⟨_, _, by rw [hM.out]; rfl, ?_⟩
          rw [hM.out]
          exact ⟨Sl.nothing _ _, hbz⟩

theorem apply_no {s : StV} {d : DiffV} (h : isM s = false ∨ (turnedM s d).2 = false ∨ isM (turnedM s d).1 = false) : applyM s d = (st0, 80) := by
  unfold applyM
  rw [if_neg]
  rintro ⟨h1, h2, h3⟩
  rcases h with h | h | h
  · rw [h1] at h; cases h
  · rw [h2] at h; cases h
  · rw [h3] at h; cases h
theorem apply_yes {s : StV} {d : DiffV} (h1 : isM s = true) (h2 : (turnedM s d).2 = true) (h3 : isM (turnedM s d).1 = true) : applyM s d = ((turnedM s d).1, 0) := by
  unfold applyM
  rw [if_pos ⟨h1, h2, h3⟩]

set_option maxHeartbeats 4000000 in
theorem apply_any (s : StV) (d : DiffV) (ao lo wo : Option Addr) (c lc wc : Nat) (w : World) (hs : StOk s) (hd : DiffOk d) (h : Sl w ao c 8 (entR s.log)) (hl : Sl w lo lc 8 (entR d.log)) (hwl : Sl w wo wc 8 (entR d.whole.log)) :
    Calls Try.prog 7 #[.agg (stC s ao c), .agg (diffC d lo lc wo wc)] w fun en w' => ∃ ro rc, en = .returned (.tuple #[.agg (stC (applyM s d).1 ro rc), .int .i64 ((applyM s d).2 : Int)]) ∧ Gives w w' (applyM s d).1 ro rc := by
  obtain ⟨w1, hw1, hX, hD, hR, hb⟩ := three_vars w 42 48 42 (stC s ao c) (diffC d lo lc wo wc) (stC st0 none 0)
  go_enter Try.func7, Try.ntmps7
  go_wp2_with (first
    | (refine wpList_alloc_has (by rfl) 42 rfl (stC st0 none 0) st_zero ?_; rw [hw1])
    | (refine wpList_load_has (by rfl) 42 _ rfl (w.heap.size) rfl 42 (stC s ao c) _ Try.underlying42 rfl (st_size _ _ _) ?hg ?_; (case hg => exact hX))
    | fail)
  refine (is_any s ao c _ hs (h.later hb)).mono ?_
  rintro en w2 ⟨rfl, hq⟩
  replace hX := hX.later hq
  replace hD := hD.later hq
  replace hR := hR.later hq
  replace hb := hb.trans (hq.mono hb.size)
  clear hq hw1
  cases hi : isM s with
  | false =>
    have hM : Hid _ := apply_no (d := d) (.inl hi)
    have hz := hR.row (stC st0 none 0)
    have hbz := below_setRow hb (show w.heap.size ≤ w.heap.size + 1 + 1 by omega) (stC st0 none 0)
    go_wp2_with (first
      | (refine wpList_build_has (by rfl) 42 #[] rfl (stC st0 none 0) (by simpa using st_built0) ?_)
      | (refine wpList_store_has (by rfl) 42 _ _ rfl (w.heap.size + 1 + 1) rfl (stC st0 none 0) rfl 42 (stC st0 none 0) (st_size _ _ _) (st_same _ _ _ _ _ _) (st_one _ _ _) ?hg ?_; (case hg => exact hR))
      | fail)
    refine ret_has_tmp rfl (w.heap.size + 1 + 1) rfl 42 (stC (st0) none 0) _ Try.underlying42 rfl (st_size _ _ _) hz rfl ⟨_, _, by rw [hM.out]; rfl, ?_⟩
    rw [hM.out]
    exact Gives.zero hbz
  | true =>
    have hno : Hid _ := fun h => apply_no (s := s) (d := d) (.inr h)
    have hyes : Hid _ := apply_yes (s := s) (d := d) hi
    go_wp2_with (first
      | (refine wpList_load_has (by rfl) 42 _ rfl (w.heap.size) rfl 42 (stC s ao c) _ Try.underlying42 rfl (st_size _ _ _) ?hg ?_; (case hg => exact hX))
      | (refine wpList_load_has (by rfl) 48 _ rfl (w.heap.size + 1) rfl 48 (diffC d lo lc wo wc) _ Try.underlying48 rfl (diff_size _ _ _ _ _) ?hg ?_; (case hg => exact hD))
      | fail)
    refine (turned_any s d ao lo wo c lc wc _ hs hd (h.later hb) (hl.later hb) (hwl.later hb)).mono ?_
    rintro en w3 ⟨ro, rc, rfl, hS3, hq⟩
    have hTo := turned_fit hs hd
    replace hR := hR.later hq
    replace hb := hb.trans (hq.mono hb.size)
    clear hq hX hD
    generalize (turnedM s d).1 = T at *
    generalize (turnedM s d).2 = b at *
    obtain ⟨w4, hw4, hT, hq⟩ := new_var w3 42 (stC st0 none 0) (stC T ro rc)
    replace hR := hR.later hq
    replace hS3 := hS3.later hq
    replace hb := hb.trans (hq.mono hb.size)
    clear hq
    cases b with
    | false =>
      have hM : Hid _ := hno.out (.inl rfl)
      have hz := hR.row (stC st0 none 0)
      have hbz := below_setRow hb (show w.heap.size ≤ w.heap.size + 1 + 1 by omega) (stC st0 none 0)
      go_wp2_with (first
        | (refine wpList_alloc_has (by rfl) 42 rfl (stC st0 none 0) st_zero ?_)
        | (refine wpList_store_to (by rfl) 42 _ _ rfl w3.heap.size rfl (stC T ro rc) rfl 42 (stC st0 none 0) (st_size _ _ _) (st_same _ _ _ _ _ _) (st_one _ _ _) ?hg w4 ?hW ?_; (case hg => exact Has.new _ _ _); (case hW => exact hw4); clear hw4)
        | (refine wpList_build_has (by rfl) 42 #[] rfl (stC st0 none 0) (by simpa using st_built0) ?_)
        | (refine wpList_store_has (by rfl) 42 _ _ rfl (w.heap.size + 1 + 1) rfl (stC st0 none 0) rfl 42 (stC st0 none 0) (st_size _ _ _) (st_same _ _ _ _ _ _) (st_one _ _ _) ?hg ?_; (case hg => exact hR))
        | fail)
      refine ret_has_tmp rfl (w.heap.size + 1 + 1) rfl 42 (stC (st0) none 0) _ Try.underlying42 rfl (st_size _ _ _) hz rfl ⟨_, _, by rw [hM.out]; rfl, ?_⟩
      rw [hM.out]
      exact Gives.zero hbz
    | true =>
      go_wp2_with (first
        | (refine wpList_alloc_has (by rfl) 42 rfl (stC st0 none 0) st_zero ?_)
        | (refine wpList_store_to (by rfl) 42 _ _ rfl w3.heap.size rfl (stC T ro rc) rfl 42 (stC st0 none 0) (st_size _ _ _) (st_same _ _ _ _ _ _) (st_one _ _ _) ?hg w4 ?hW ?_; (case hg => exact Has.new _ _ _); (case hW => exact hw4); clear hw4)
        | (refine wpList_load_has (by rfl) 42 _ rfl (w3.heap.size) rfl 42 (stC T ro rc) _ Try.underlying42 rfl (st_size _ _ _) ?hg ?_; (case hg => exact hT))
        | fail)
      refine (is_any T ro rc _ hTo hS3).mono ?_
      rintro en w5 ⟨rfl, hq⟩
      replace hR := hR.later hq
      replace hT := hT.later hq
      replace hS3 := hS3.later hq
      replace hb := hb.trans (hq.mono hb.size)
      clear hq
      cases hti : isM T with
      | false =>
        have hM : Hid _ := hno.out (.inr hti)
        have hz := hR.row (stC st0 none 0)
        have hbz := below_setRow hb (show w.heap.size ≤ w.heap.size + 1 + 1 by omega) (stC st0 none 0)
        go_wp2_with (first
          | (refine wpList_build_has (by rfl) 42 #[] rfl (stC st0 none 0) (by simpa using st_built0) ?_)
          | (refine wpList_store_has (by rfl) 42 _ _ rfl (w.heap.size + 1 + 1) rfl (stC st0 none 0) rfl 42 (stC st0 none 0) (st_size _ _ _) (st_same _ _ _ _ _ _) (st_one _ _ _) ?hg ?_; (case hg => exact hR))
          | fail)
        refine ret_has_tmp rfl (w.heap.size + 1 + 1) rfl 42 (stC (st0) none 0) _ Try.underlying42 rfl (st_size _ _ _) hz rfl ⟨_, _, by rw [hM.out]; rfl, ?_⟩
        rw [hM.out]
        exact Gives.zero hbz
      | true =>
        have hM : Hid _ := hyes.out (by first | trivial | rfl) hti
        go_wp2_with (first
          | (refine wpList_load_has (by rfl) 42 _ rfl (w3.heap.size) rfl 42 (stC T ro rc) _ Try.underlying42 rfl (st_size _ _ _) ?hg ?_; (case hg => exact hT))
          | fail)
        refine (twin_any T ro rc _ hTo hS3).mono ?_
        rintro en w6 ⟨so, sc, rfl, hG⟩
        have hS4 := hG.sl
        have hlt0 := hR.lt
        have hnew : ∀ d, so = some d → w.heap.size + 1 + 1 < d.block := fun d hd => by have := hG.new d hd; omega
        have hgn : ∀ d, so = some d → w.heap.size ≤ d.block := fun d hd => by have := hnew d hd; omega
        replace hR := hR.later hG.below
        replace hb := hb.trans (hG.below.mono hb.size)
        clear hG hT hS3
        have hz := hR.row (stC T so sc)
        have hsl := hS4.row_other (k := w.heap.size + 1 + 1) (fun d hd => by have := hnew d hd; omega) (stC T so sc)
        have hbz := below_setRow hb (show w.heap.size ≤ w.heap.size + 1 + 1 by omega) (stC T so sc)
        go_wp2_with (first
          | (refine wpList_store_has (by rfl) 42 _ _ rfl (w.heap.size + 1 + 1) rfl (stC T so sc) rfl 42 (stC st0 none 0) (st_size _ _ _) (st_same _ _ _ _ _ _) (st_one _ _ _) ?hg ?_; (case hg => exact hR))
          | fail)
        refine ret_has_tmp rfl (w.heap.size + 1 + 1) rfl 42 (stC (T) so sc) _ Try.underlying42 rfl (st_size _ _ _) hz rfl ⟨_, _, by rw [hM.out]; rfl, ?_⟩
        rw [hM.out]
        exact ⟨hsl, hgn, hbz⟩
end Go.Proofs.Ytphlfepgaghhhab
