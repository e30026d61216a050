/- The contract of the document's Fold. -/
import Derived.Test.YtphlfepgaghhhaaRefUpto
namespace Go.Proofs.Ytphlfepgaghhhaa
set_option linter.unusedSimpArgs false
set_option linter.unusedVariables false
set_option maxRecDepth 100000
open Go.RowKit

theorem head_lt {s : StV} (hs : StOk s) : (headM s).2 < 4294967296 := by
  cases hi : isM s with
  | false => rw [head_no hi]; decide
  | true => rw [head_yes hi]; exact (lastE_ok hs.tail hs.log).n
theorem upto_head (s : StV) : (uptoM s (headM s).2).1 = foldM s := by
  cases hi : isM s with
  | false => rw [fold_no hi, upto_no (by rw [reach_form hi]; decide)]
  | true =>
    have hcn : (headE s).n = s.tail.n + s.log.length := chain_n _ _ ((is_is s).1 hi).2.2.2.2
    have hre : reachM s (headM s).2 = (s.log.length, 0) := by
      rw [head_yes hi, reach_in hi (by simp only; omega) (by simp only; omega), hcn, Nat.add_sub_cancel_left]
    rw [fold_yes hi, upto_yes (by rw [hre]), hre, List.take_length]

set_option maxHeartbeats 4000000 in
theorem reffold_any (s : StV) (ao : Option Addr) (c : Nat) (w : World) (hs : StOk s) (h : Sl w ao c 8 (entR s.log)) :
    Calls Try.prog 19 #[.agg (stC s ao c)] w fun en w' => en = .returned (.agg (baseC (foldM s))) ∧ Below w.heap.size w w' := by
  obtain ⟨w1, hw1, hX, hR, hb⟩ := two_vars w 40 33 (stC s ao c) (baseC base0)
  have hlt := head_lt hs
  have hM := upto_head s
  go_enter Try.func19, Try.ntmps19
  go_wp2_with (first
    | (refine wpList_alloc_has (by rfl) 33 rfl (baseC base0) base_zero ?_; rw [hw1])
    | (refine wpList_load_has (by rfl) 40 _ rfl w.heap.size rfl 40 (stC s ao c) _ Try.underlying40 rfl (st_size _ _ _) ?hg ?_; (case hg => exact hX)))
  refine (refhead_any s ao c _ hs (h.later hb)).mono ?_
  rintro en w2 ⟨rfl, hq⟩
  replace hX := hX.later hq
  replace hR := hR.later hq
  replace hb := hb.trans (hq.mono hb.size)
  clear hq hw1
  generalize (headM s).1 = q1 at *
  generalize (headM s).2 = q at *
  go_wp2_with (first
    | (refine wpList_load_has (by rfl) 40 _ rfl w.heap.size rfl 40 (stC s ao c) _ Try.underlying40 rfl (st_size _ _ _) ?hg ?_; (case hg => exact hX)))
  refine (refupto_any s ao c q _ hs (h.later hb) hlt).mono ?_
  rintro en w3 ⟨rfl, hq⟩
  replace hR := hR.later hq
  replace hb := hb.trans (hq.mono hb.size)
  clear hq hX
  rw [hM]
  clear hM
  obtain ⟨B, hBF⟩ : ∃ B, foldM s = B := ⟨_, rfl⟩
  rw [hBF]
  replace hBF : Hid _ := hBF
  generalize (uptoM s q).2 = t at *
  obtain ⟨w4, hw4, hB, hq⟩ := new_var w3 33 (baseC base0) (baseC B)
  replace hR := hR.later hq
  replace hb := hb.trans (hq.mono hb.size)
  clear hq
  have hz := hR.row (baseC B)
  have hbz := below_setRow hb (show w.heap.size ≤ w.heap.size + 1 by omega) (baseC B)
  go_wp2_with (first
    | (refine wpList_alloc_has (by rfl) 33 rfl (baseC base0) base_zero ?_)
    | (refine wpList_store_to (by rfl) 33 _ _ rfl w3.heap.size rfl (baseC B) rfl 33 (baseC base0) (base_size _) rfl (base_one _) ?hg w4 ?hW ?_; (case hg => exact Has.new _ _ _); (case hW => exact hw4); clear hw4; generalize w3.heap.size = gb at *)
    | (refine wpList_load_has (by rfl) 33 _ rfl gb rfl 33 (baseC B) _ Try.underlying33 rfl (base_size _) ?hg ?_; (case hg => exact hB))
    | (refine wpList_store_has (by rfl) 33 _ _ rfl (w.heap.size + 1) rfl (baseC B) rfl 33 (baseC base0) (base_size _) rfl (base_one _) ?hg ?_; (case hg => exact hR)))
  exact ret_has rfl (w.heap.size + 1) rfl 33 (baseC B) _ Try.underlying33 rfl (base_size _) hz rfl ⟨by rw [hBF.out], hbz⟩
end Go.Proofs.Ytphlfepgaghhhaa
