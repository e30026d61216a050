/- The contracts of merge's copied, twin, ends, sameButStarted, hasPosition. -/
import Derived.Test.YtphlfepgaghhhabMergeMem
namespace Go.Proofs.Ytphlfepgaghhhab
set_option linter.unusedSimpArgs false
set_option linter.unusedVariables false
set_option maxRecDepth 100000
open Go.RowKit

theorem splice_all (l : List EntV) : splice (entF (List.replicate l.length ent0)) 0 (entF l) = entF l := by
  have := splice_first l []
  rw [List.length_nil, Nat.add_zero, List.replicate_zero, List.append_nil] at this
  exact this

set_option maxHeartbeats 4000000 in
theorem copied_any (ao : Option Addr) (c : Nat) (l : List EntV) (w : World) (h : Sl w ao c 8 (entR l)) (hn : l.length ≤ 2000) :
    Calls Try.prog 22 #[.slice ao l.length c] w fun en w' => ∃ g, w.heap.size ≤ g ∧ en = .returned (.slice (some ⟨g, 0, none⟩) l.length l.length) ∧ Has w' g 39 (entF l).toArray ∧ Below w.heap.size w w' := by
  obtain ⟨i0, hi, hz0, hz1, hz2⟩ := ent_info
  have hle := h.ent_le
  have hcap := h.cap
  have hb2 : i0.bytes * l.length ≤ 281474976710656 := Nat.le_trans (Nat.mul_le_mul hz2 hn) (by decide)
  go_enter Try.func22, Try.ntmps22
  go_wp2_with (first
    | (refine wpList_make_full _ rfl _ _ 40 rfl w.heap.size 39 i0 (.agg (entC ent0)) 8 Try.underlying40 hi hz0 hz1 _ _ _ _ l.length rfl rfl rfl rfl hb2 (by unfold maxLen; omega) (Nat.le_refl _) ?_))
  intro w1 hown hgrow
  have hb1 : Below w.heap.size w w1 := (Below.refl w.heap.size w).grown hgrow (Nat.le_refl _) (fun k hk => by cases hk)
  have hR0 := ents_has hown
  have hR1 := hR0.row (splice (entF (List.replicate l.length ent0)) 0 (entF l)).toArray
  have hf1 : 0 + l.length * 8 ≤ (entF (List.replicate l.length ent0)).length := by rw [entF_len, List.length_replicate]; omega
  obtain ⟨w2, hw2⟩ : ∃ W, w1.setRow w.heap.size (splice (entF (List.replicate l.length ent0)) 0 (entF l)).toArray = W := ⟨_, rfl⟩
  have hb2' : Below w.heap.size w w2 := hw2 ▸ below_setRow hb1 (Nat.le_refl _) _
  rw [hw2] at hR1
  rw [splice_all l] at hR1
  have hS1 := h.later hb1
  clear hown hgrow
  go_wp2_with (first
    | (refine wpList_copy_ents rfl _ _ rfl w.heap.size 0 (some ⟨w.heap.size, 0, none⟩) l.length l.length ao c (entF (List.replicate l.length ent0)) l rfl rfl ?h1 ?h2 ?h3 ?h4 ?h5 w2 ?h6 ?_; (case h1 => exact hS1); (case h2 => exact hR0); (case h3 => exact fun _ => rfl); (case h4 => omega); (case h5 => exact hf1); (case h6 => exact hw2); clear hw2))
  go_ret
  exact ⟨w.heap.size, Nat.le_refl _, rfl, hR1, hb2'⟩

set_option maxHeartbeats 4000000 in
theorem twin_any (s : StV) (ao : Option Addr) (c : Nat) (w : World) (hs : StOk s) (h : Sl w ao c 8 (entR s.log)) :
    Calls Try.prog 17 #[.agg (stC s ao c)] w fun en w' => ∃ ro rc, en = .returned (.agg (stC s ro rc)) ∧ Gives w w' s ro rc := by
  obtain ⟨w1, hw1, hX, hR, hb⟩ := two_vars w 42 42 (stC s ao c) (stC st0 none 0)
  have hlen := hs.len
  have hl := hX.st_log
  go_enter Try.func17, Try.ntmps17
  go_wp2_with (first
    | (refine wpList_alloc_has (by rfl) 42 rfl (stC st0 none 0) st_zero ?_; rw [hw1]))
  refine (copied_any ao c s.log _ (h.later hb) (by omega)).mono ?_
  rintro en w7 ⟨g, hg1, rfl, hG, hq⟩
  have hgs : w.heap.size + 1 < g := by have := hR.lt; omega
  replace hX := hX.later hq
  replace hR := hR.later hq
  replace hb := hb.trans (hq.mono hb.size)
  clear hq hl
  have c48 := hX.st_log
  have f48 := hX.free 48
  have hX7 := hX.setLog s.log (some ⟨g, 0, none⟩) s.log.length
  have hR7 := hR.set_other (a := ⟨w.heap.size, 48, none⟩) (show w.heap.size + 1 ≠ w.heap.size by omega) (.slice (some ⟨g, 0, none⟩) s.log.length s.log.length)
  have hG7 := hG.set_other (a := ⟨w.heap.size, 48, none⟩) (show g ≠ w.heap.size by omega) (.slice (some ⟨g, 0, none⟩) s.log.length s.log.length)
  have hb7 := hb.setCell (show w.heap.size ≤ (⟨w.heap.size, 48, none⟩ : Addr).block from Nat.le_refl _) (.slice (some ⟨g, 0, none⟩) s.log.length s.log.length)
  obtain ⟨w8, hw8⟩ : ∃ W, w7.setCell ⟨w.heap.size, 48, none⟩ (.slice (some ⟨g, 0, none⟩) s.log.length s.log.length) = W := ⟨_, rfl⟩
  rw [hw8] at hX7 hR7 hG7 hb7
  have hX8 : Has w8 w.heap.size 42 (stC s (some ⟨g, 0, none⟩) s.log.length) := hX7
  have hR8 := hR7.row (stC s (some ⟨g, 0, none⟩) s.log.length)
  have hG8 := hG7.row_other (k := w.heap.size + 1) (by omega) (stC s (some ⟨g, 0, none⟩) s.log.length)
  have hb8 := below_setRow hb7 (show w.heap.size ≤ w.heap.size + 1 by omega) (stC s (some ⟨g, 0, none⟩) s.log.length)
  have hSl := hG8.ents (by omega)
  have hgg : w.heap.size ≤ g := by omega
  clear hX hR hb hG hX7
  go_wp2_with (first
    | (refine wpList_load_has (by rfl) 42 _ rfl (w.heap.size) rfl 42 (stC s (some ⟨g, 0, none⟩) s.log.length) _ Try.underlying42 rfl (st_size _ _ _) ?hg ?_; (case hg => exact hX8))
    | (refine wpList_store_has (by rfl) 42 _ _ rfl (w.heap.size + 1) rfl (stC s (some ⟨g, 0, none⟩) s.log.length) rfl 42 (stC st0 none 0) (st_size _ _ _) (st_same _ _ _ _ _ _) (st_one _ _ _) ?hg ?_; (case hg => exact hR7))
    | fail)
  refine ret_has rfl (w.heap.size + 1) rfl 42 (stC s (some ⟨g, 0, none⟩) s.log.length) _ Try.underlying42 rfl (st_size _ _ _) hR8 rfl ⟨some ⟨g, 0, none⟩, s.log.length, rfl, ?_⟩
  exact ⟨hSl, fun d hd => by obtain rfl := Option.some.inj hd; exact hgg, hb8⟩

set_option maxHeartbeats 4000000 in
theorem ends_any (s : StV) (ao : Option Addr) (c : Nat) (w : World) : Calls Try.prog 19 #[.agg (stC s ao c)] w fun en w' => en = .returned (.agg (stC (endsM s) none 0)) ∧ Below w.heap.size w w' := by
  obtain ⟨w1, hw1, hX, hR, hb⟩ := two_vars w 42 42 (stC s ao c) (stC st0 none 0)
  have c0 := hX.st_started
  have ct := hX.st_tail
  have hz := hR.row (stC (endsM s) none 0)
  have hbz := below_setRow hb (show w.heap.size ≤ w.heap.size + 1 by omega) (stC (endsM s) none 0)
  go_enter Try.func19, Try.ntmps19
  go_wp2_with (first
    | (refine wpList_alloc_has (by rfl) 42 rfl (stC st0 none 0) st_zero ?_; rw [hw1])
    | (refine wpList_load_mid' (by rfl) 39 _ rfl (w.heap.size) (40) rfl (entL s.tail) _ ?hg Try.underlying39 rfl (ent_size _) ?_; (case hg => exact ct))
    | (refine wpList_build_two (by rfl) 42 0 2 _ _ rfl (.int .u32 (s.started : Int)) (.agg (entC s.tail)) rfl rfl (stC (endsM s) none 0) (st_built_ends s.started s.tail) ?_)
    | (refine wpList_store_has (by rfl) 42 _ _ rfl (w.heap.size + 1) rfl (stC (endsM s) none 0) rfl 42 (stC st0 none 0) (st_size _ _ _) (st_same _ _ _ _ _ _) (st_one _ _ _) ?hg ?_; (case hg => exact hR))
    | fail)
  exact ret_has rfl (w.heap.size + 1) rfl 42 (stC (endsM s) none 0) _ Try.underlying42 rfl (st_size _ _ _) hz rfl ⟨rfl, hbz⟩

set_option maxHeartbeats 4000000 in
theorem sbs_any (s t : StV) (ao bo : Option Addr) (c d : Nat) (w : World) (hs : StOk s) (ht : StOk t) (h : Sl w ao c 8 (entR s.log)) (h' : Sl w bo d 8 (entR t.log)) :
    Calls Try.prog 18 #[.agg (stC s ao c), .agg (stC t bo d)] w fun en w' => en = .returned (.bool (same tSt (startAt s t.started) t)) ∧ Below w.heap.size w w' := by
  obtain ⟨w1, hw1, hX, hY, hb⟩ := two_vars w 42 42 (stC s ao c) (stC t bo d)
  have y0 := hY.st_started
  have x0 := hX.st_started
  have f0 := hX.free 0
  have hX2 := hX.setStart t.started
  have hY2 := hY.set_other (a := ⟨w.heap.size, 0, none⟩) (show w.heap.size + 1 ≠ w.heap.size by omega) (.int .u32 (t.started : Int))
  have hb2 := hb.setCell (show w.heap.size ≤ (⟨w.heap.size, 0, none⟩ : Addr).block from Nat.le_refl _) (.int .u32 (t.started : Int))
  obtain ⟨w2, hw2⟩ : ∃ W, w1.setCell ⟨w.heap.size, 0, none⟩ (.int .u32 (t.started : Int)) = W := ⟨_, rfl⟩
  rw [hw2] at hX2 hY2 hb2
  have hS := h.later hb2
  have hT := h'.later hb2
  clear hX hY hb
  go_enter Try.func18, Try.ntmps18
  go_wp2_with (first
    | (refine wpList_load_has (by rfl) 42 _ rfl (w.heap.size) rfl 42 (stC (startAt s t.started) ao c) _ Try.underlying42 rfl (st_size _ _ _) ?hg ?_; (case hg => exact hX2))
    | (refine wpList_load_has (by rfl) 42 _ rfl (w.heap.size + 1) rfl 42 (stC t bo d) _ Try.underlying42 rfl (st_size _ _ _) ?hg ?_; (case hg => exact hY2))
    | fail)
  refine (same_any (startAt s t.started) t ao bo c d _ (startAt_ok hs ht.started) ht hS hT).mono ?_
  rintro en w3 ⟨rfl, hq⟩
  replace hb2 := hb2.trans (hq.mono hb2.size)
  clear hq
  go_wp2
  go_ret
  exact ⟨rfl, hb2⟩

theorem hasPos_parts (s : StV) (p : EntV) : hasPosM s p = ((findM s p.n).2 && same tEnt p (posE (findM s p.n).1)) := rfl

set_option maxHeartbeats 4000000 in
theorem hasPos_any (s : StV) (p : EntV) (ao : Option Addr) (c : Nat) (w : World) (hs : StOk s) (hp : EntOk p) (h : Sl w ao c 8 (entR s.log)) :
    Calls Try.prog 34 #[.agg (stC s ao c), .agg (entC p)] w fun en w' => en = .returned (.bool (hasPosM s p)) ∧ Below w.heap.size w w' := by
  obtain ⟨w1, hw1, hX, hP, hb⟩ := two_vars w 42 39 (stC s ao c) (entC p)
  have p1 := hP.ent_n
  have hM : Hid _ := hasPos_parts s p
  go_enter Try.func34, Try.ntmps34
  go_wp2_with (first
    | (refine wpList_load_has (by rfl) 42 _ rfl (w.heap.size) rfl 42 (stC s ao c) _ Try.underlying42 rfl (st_size _ _ _) ?hg ?_; (case hg => exact hX))
    | fail)
  refine (find_any s ao c p.n _ hs (h.later hb) hp.n).mono ?_
  rintro en w2 ⟨rfl, hq⟩
  have hfo := find_fit hs p.n
  replace hP := hP.later hq
  replace hb := hb.trans (hq.mono hb.size)
  clear hq hX p1
  generalize (findM s p.n).1 = e at *
  generalize (findM s p.n).2 = b at *
  obtain ⟨w3, hw3, hE, hq⟩ := new_var w2 39 (entC ent0) (entC e)
  replace hP := hP.later hq
  replace hb := hb.trans (hq.mono hb.size)
  clear hq
  have hpo : EntOk (posE e) := ⟨hfo.since, hfo.n, op0_ok⟩
  have heq := fun W => eqv_ent p (posE e) hp hpo W
  have e0 := hE.ent_since
  have e1 := hE.ent_n
  cases b with
  | false =>
    go_wp2_with (first
      | (refine wpList_alloc_has (by rfl) 39 rfl (entC ent0) ent_zero ?_)
      | (refine wpList_store_to (by rfl) 39 _ _ rfl w2.heap.size rfl (entC (e)) rfl 39 (entC ent0) (ent_size _) rfl (ent_one _) ?hg w3 ?hW ?_; (case hg => exact Has.new _ _ _); (case hW => exact hw3); clear hw3)
      | fail)
    go_ret
    exact ⟨by rw [hM.out]; rfl, hb⟩
  | true =>
    go_wp2_with (first
      | (refine wpList_alloc_has (by rfl) 39 rfl (entC ent0) ent_zero ?_)
      | (refine wpList_store_to (by rfl) 39 _ _ rfl w2.heap.size rfl (entC (e)) rfl 39 (entC ent0) (ent_size _) rfl (ent_one _) ?hg w3 ?hW ?_; (case hg => exact Has.new _ _ _); (case hW => exact hw3); clear hw3)
      | (refine wpList_load_has (by rfl) 39 _ rfl (w.heap.size + 1) rfl 39 (entC (p)) _ Try.underlying39 rfl (ent_size _) ?hg ?_; (case hg => exact hP))
      | (refine wpList_build_two (by rfl) 39 0 1 _ _ rfl (.int .u32 (e.since : Int)) (.int .u32 (e.n : Int)) rfl rfl (entC (posE e)) (pos_built e.since e.n) ?_)
      | (refine wpList_bin_agg (by rfl) .eql 39 _ _ _ rfl (entC p) (entC (posE e)) rfl rfl (.bool (same tEnt p (posE e))) guard_ent ?hg ?_; (case hg => exact heq _)))
    go_ret
    exact ⟨by rw [hM.out]; rfl, hb⟩
end Go.Proofs.Ytphlfepgaghhhab
