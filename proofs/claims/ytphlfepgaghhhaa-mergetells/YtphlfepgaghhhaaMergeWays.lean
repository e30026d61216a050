/- MergeSmall, MergeWay, MergeEnd, joined. -/
import Derived.Test.YtphlfepgaghhhaaMergeMem
namespace Go.Proofs.Ytphlfepgaghhhaa
set_option linter.unusedSimpArgs false
set_option linter.unusedVariables false
set_option maxRecDepth 100000
open Go.RowKit

theorem splice_all (l : List EntV) : splice (entF (List.replicate l.length ent0)) 0 (entF l) = entF l := by
  have := splice_first l []
  rw [List.length_nil, Nat.add_zero, List.replicate_zero, List.append_nil] at this
  exact this

set_option maxHeartbeats 4000000 in
theorem copied_any (ao : Option Addr) (c : Nat) (l : List EntV) (w : World) (h : Sl w ao c 8 (entR l)) (hn : l.length ≤ 2000) :
    Calls Try.prog 60 #[.slice ao l.length c] w fun en w' => ∃ g, w.heap.size ≤ g ∧ en = .returned (.slice (some ⟨g, 0, none⟩) l.length l.length) ∧ Has w' g 37 (entF l).toArray ∧ Below w.heap.size w w' := by
  obtain ⟨i0, hi, hz0, hz1, hz2⟩ := ent_info
  have hle := h.ent_le
  have hcap := h.cap
  have hb2 : i0.bytes * l.length ≤ 281474976710656 := Nat.le_trans (Nat.mul_le_mul hz2 hn) (by decide)
  go_enter Try.func60, Try.ntmps60
  go_wp2_with (first
    | (refine wpList_make_full _ rfl _ _ 38 rfl w.heap.size 37 i0 (.agg (entC ent0)) 8 Try.underlying38 hi hz0 hz1 _ _ _ _ l.length rfl rfl rfl rfl hb2 (by unfold maxLen; omega) (Nat.le_refl _) ?_))
  intro w1 hown hgrow
  have hb1 : Below w.heap.size w w1 := (Below.refl w.heap.size w).grown hgrow (Nat.le_refl _) (fun k hk => by cases hk)
  have hR0 := ents_has hown
  have hR1 := hR0.row (splice (entF (List.replicate l.length ent0)) 0 (entF l)).toArray
  have hf1 : 0 + l.length * 8 ≤ (entF (List.replicate l.length ent0)).length := by rw [entF_len, List.length_replicate]; omega
  obtain ⟨w2, hw2⟩ : ∃ W, w1.setRow w.heap.size (splice (entF (List.replicate l.length ent0)) 0 (entF l)).toArray = W := ⟨_, rfl⟩
  have hb2' : Below w.heap.size w w2 := hw2 ▸ below_setRow hb1 (Nat.le_refl _) _
  rw [hw2] at hR1
  rw [splice_all l] at hR1
  have hS1 := h.later hb1
  clear hown hgrow
  go_wp2_with (first
    | (refine wpList_copy_ents rfl _ _ rfl w.heap.size 0 (some ⟨w.heap.size, 0, none⟩) l.length l.length ao c (entF (List.replicate l.length ent0)) l rfl rfl ?h1 ?h2 ?h3 ?h4 ?h5 w2 ?h6 ?_; (case h1 => exact hS1); (case h2 => exact hR0); (case h3 => exact fun _ => rfl); (case h4 => omega); (case h5 => exact hf1); (case h6 => exact hw2); clear hw2))
  go_ret
  exact ⟨w.heap.size, Nat.le_refl _, rfl, hR1, hb2'⟩

set_option maxHeartbeats 4000000 in
theorem twin_any (s : StV) (ao : Option Addr) (c : Nat) (w : World) (hs : StOk s) (h : Sl w ao c 8 (entR s.log)) :
    Calls Try.prog 61 #[.agg (stC s ao c)] w fun en w' => ∃ ro rc, en = .returned (.agg (stC s ro rc)) ∧ Gives w w' s ro rc := by
  obtain ⟨w1, hw1, hX, hR, hb⟩ := two_vars w 40 40 (stC s ao c) (stC st0 none 0)
  have hlen := hs.len
  have hl := hX.st_log
  go_enter Try.func61, Try.ntmps61
  go_wp2_with (first
    | (refine wpList_alloc_has (by rfl) 40 rfl (stC st0 none 0) st_zero ?_; rw [hw1]))
  refine (copied_any ao c s.log _ (h.later hb) (by omega)).mono ?_
  rintro en w7 ⟨g, hg1, rfl, hG, hq⟩
  have hgs : w.heap.size + 1 < g := by have := hR.lt; omega
  replace hX := hX.later hq
  replace hR := hR.later hq
  replace hb := hb.trans (hq.mono hb.size)
  clear hq hl
  have c48 := hX.st_log
  have f48 := hX.free 48
  have hX7 := hX.setLog s.log (some ⟨g, 0, none⟩) s.log.length
  have hR7 := hR.set_other (a := ⟨w.heap.size, 48, none⟩) (show w.heap.size + 1 ≠ w.heap.size by omega) (.slice (some ⟨g, 0, none⟩) s.log.length s.log.length)
  have hG7 := hG.set_other (a := ⟨w.heap.size, 48, none⟩) (show g ≠ w.heap.size by omega) (.slice (some ⟨g, 0, none⟩) s.log.length s.log.length)
  have hb7 := hb.setCell (show w.heap.size ≤ (⟨w.heap.size, 48, none⟩ : Addr).block from Nat.le_refl _) (.slice (some ⟨g, 0, none⟩) s.log.length s.log.length)
  obtain ⟨w8, hw8⟩ : ∃ W, w7.setCell ⟨w.heap.size, 48, none⟩ (.slice (some ⟨g, 0, none⟩) s.log.length s.log.length) = W := ⟨_, rfl⟩
  rw [hw8] at hX7 hR7 hG7 hb7
  have hX8 : Has w8 w.heap.size 40 (stC s (some ⟨g, 0, none⟩) s.log.length) := hX7
  have hR8 := hR7.row (stC s (some ⟨g, 0, none⟩) s.log.length)
  have hG8 := hG7.row_other (k := w.heap.size + 1) (by omega) (stC s (some ⟨g, 0, none⟩) s.log.length)
  have hb8 := below_setRow hb7 (show w.heap.size ≤ w.heap.size + 1 by omega) (stC s (some ⟨g, 0, none⟩) s.log.length)
  have hSl := hG8.ents (by omega)
  have hgg : w.heap.size ≤ g := by omega
  clear hX hR hb hG hX7
  go_wp2_with (first
    | (refine wpList_load_has (by rfl) 40 _ rfl (w.heap.size) rfl 40 (stC s (some ⟨g, 0, none⟩) s.log.length) _ Try.underlying40 rfl (st_size _ _ _) ?hg ?_; (case hg => exact hX8))
    | (refine wpList_store_has (by rfl) 40 _ _ rfl (w.heap.size + 1) rfl (stC s (some ⟨g, 0, none⟩) s.log.length) rfl 40 (stC st0 none 0) (st_size _ _ _) (st_same _ _ _ _ _ _) (st_one _ _ _) ?hg ?_; (case hg => exact hR7))
    | fail)
  refine ret_has rfl (w.heap.size + 1) rfl 40 (stC s (some ⟨g, 0, none⟩) s.log.length) _ Try.underlying40 rfl (st_size _ _ _) hR8 rfl ⟨some ⟨g, 0, none⟩, s.log.length, rfl, ?_⟩
  exact ⟨hSl, fun d hd => by obtain rfl := Option.some.inj hd; exact hgg, hb8⟩

set_option maxHeartbeats 4000000 in
theorem ends_any (s : StV) (ao : Option Addr) (c : Nat) (w : World) : Calls Try.prog 57 #[.agg (stC s ao c)] w fun en w' => en = .returned (.agg (stC (endsM s) none 0)) ∧ Below w.heap.size w w' := by
  obtain ⟨w1, hw1, hX, hR, hb⟩ := two_vars w 40 40 (stC s ao c) (stC st0 none 0)
  have c0 := hX.st_started
  have ct := hX.st_tail
  have hz := hR.row (stC (endsM s) none 0)
  have hbz := below_setRow hb (show w.heap.size ≤ w.heap.size + 1 by omega) (stC (endsM s) none 0)
  go_enter Try.func57, Try.ntmps57
  go_wp2_with (first
    | (refine wpList_alloc_has (by rfl) 40 rfl (stC st0 none 0) st_zero ?_; rw [hw1])
    | (refine wpList_load_mid' (by rfl) 37 _ rfl (w.heap.size) (40) rfl (entL s.tail) _ ?hg Try.underlying37 rfl (ent_size _) ?_; (case hg => exact ct))
    | (refine wpList_build_two (by rfl) 40 0 2 _ _ rfl (.int .u32 (s.started : Int)) (.agg (entC s.tail)) rfl rfl (stC (endsM s) none 0) (st_built_ends s.started s.tail) ?_)
    | (refine wpList_store_has (by rfl) 40 _ _ rfl (w.heap.size + 1) rfl (stC (endsM s) none 0) rfl 40 (stC st0 none 0) (st_size _ _ _) (st_same _ _ _ _ _ _) (st_one _ _ _) ?hg ?_; (case hg => exact hR))
    | fail)
  exact ret_has rfl (w.heap.size + 1) rfl 40 (stC (endsM s) none 0) _ Try.underlying40 rfl (st_size _ _ _) hz rfl ⟨rfl, hbz⟩

set_option maxHeartbeats 4000000 in
theorem sbs_any (s t : StV) (ao bo : Option Addr) (c d : Nat) (w : World) (hs : StOk s) (ht : StOk t) (h : Sl w ao c 8 (entR s.log)) (h' : Sl w bo d 8 (entR t.log)) :
    Calls Try.prog 56 #[.agg (stC s ao c), .agg (stC t bo d)] w fun en w' => en = .returned (.bool (same tSt (startAt s t.started) t)) ∧ Below w.heap.size w w' := by
  obtain ⟨w1, hw1, hX, hY, hb⟩ := two_vars w 40 40 (stC s ao c) (stC t bo d)
  have y0 := hY.st_started
  have x0 := hX.st_started
  have f0 := hX.free 0
  have hX2 := hX.setStart t.started
  have hY2 := hY.set_other (a := ⟨w.heap.size, 0, none⟩) (show w.heap.size + 1 ≠ w.heap.size by omega) (.int .u32 (t.started : Int))
  have hb2 := hb.setCell (show w.heap.size ≤ (⟨w.heap.size, 0, none⟩ : Addr).block from Nat.le_refl _) (.int .u32 (t.started : Int))
  obtain ⟨w2, hw2⟩ : ∃ W, w1.setCell ⟨w.heap.size, 0, none⟩ (.int .u32 (t.started : Int)) = W := ⟨_, rfl⟩
  rw [hw2] at hX2 hY2 hb2
  have hS := h.later hb2
  have hT := h'.later hb2
  clear hX hY hb
  go_enter Try.func56, Try.ntmps56
  go_wp2_with (first
    | (refine wpList_load_has (by rfl) 40 _ rfl (w.heap.size) rfl 40 (stC (startAt s t.started) ao c) _ Try.underlying40 rfl (st_size _ _ _) ?hg ?_; (case hg => exact hX2))
    | (refine wpList_load_has (by rfl) 40 _ rfl (w.heap.size + 1) rfl 40 (stC t bo d) _ Try.underlying40 rfl (st_size _ _ _) ?hg ?_; (case hg => exact hY2))
    | fail)
  refine (same_any (startAt s t.started) t ao bo c d _ (startAt_ok hs ht.started) ht hS hT).mono ?_
  rintro en w3 ⟨rfl, hq⟩
  replace hb2 := hb2.trans (hq.mono hb2.size)
  clear hq
  go_wp2
  go_ret
  exact ⟨rfl, hb2⟩

theorem hasPos_parts (s : StV) (p : EntV) : hasPosM s p = ((findM s p.n).2 && same tEnt p (posE (findM s p.n).1)) := rfl

set_option maxHeartbeats 4000000 in
theorem hasPos_any (s : StV) (p : EntV) (ao : Option Addr) (c : Nat) (w : World) (hs : StOk s) (hp : EntOk p) (h : Sl w ao c 8 (entR s.log)) :
    Calls Try.prog 72 #[.agg (stC s ao c), .agg (entC p)] w fun en w' => en = .returned (.bool (hasPosM s p)) ∧ Below w.heap.size w w' := by
  obtain ⟨w1, hw1, hX, hP, hb⟩ := two_vars w 40 37 (stC s ao c) (entC p)
  have p1 := hP.ent_n
  have hM : Hid _ := hasPos_parts s p
  go_enter Try.func72, Try.ntmps72
  go_wp2_with (first
    | (refine wpList_load_has (by rfl) 40 _ rfl (w.heap.size) rfl 40 (stC s ao c) _ Try.underlying40 rfl (st_size _ _ _) ?hg ?_; (case hg => exact hX))
    | fail)
  refine (find_any s ao c p.n _ hs (h.later hb) hp.n).mono ?_
  rintro en w2 ⟨rfl, hq⟩
  have hfo := find_fit hs p.n
  replace hP := hP.later hq
  replace hb := hb.trans (hq.mono hb.size)
  clear hq hX p1
  generalize (findM s p.n).1 = e at *
  generalize (findM s p.n).2 = b at *
  obtain ⟨w3, hw3, hE, hq⟩ := new_var w2 37 (entC ent0) (entC e)
  replace hP := hP.later hq
  replace hb := hb.trans (hq.mono hb.size)
  clear hq
  have hpo : EntOk (posE e) := ⟨hfo.since, hfo.n, op0_ok⟩
  have heq := fun W => eqv_ent p (posE e) hp hpo W
  have e0 := hE.ent_since
  have e1 := hE.ent_n
  cases b with
  | false =>
    go_wp2_with (first
      | (refine wpList_alloc_has (by rfl) 37 rfl (entC ent0) ent_zero ?_)
      | (refine wpList_store_to (by rfl) 37 _ _ rfl w2.heap.size rfl (entC (e)) rfl 37 (entC ent0) (ent_size _) rfl (ent_one _) ?hg w3 ?hW ?_; (case hg => exact Has.new _ _ _); (case hW => exact hw3); clear hw3)
      | fail)
    go_ret
    exact ⟨by rw [hM.out]; rfl, hb⟩
  | true =>
    go_wp2_with (first
      | (refine wpList_alloc_has (by rfl) 37 rfl (entC ent0) ent_zero ?_)
      | (refine wpList_store_to (by rfl) 37 _ _ rfl w2.heap.size rfl (entC (e)) rfl 37 (entC ent0) (ent_size _) rfl (ent_one _) ?hg w3 ?hW ?_; (case hg => exact Has.new _ _ _); (case hW => exact hw3); clear hw3)
      | (refine wpList_load_has (by rfl) 37 _ rfl (w.heap.size + 1) rfl 37 (entC (p)) _ Try.underlying37 rfl (ent_size _) ?hg ?_; (case hg => exact hP))
      | (refine wpList_build_two (by rfl) 37 0 1 _ _ rfl (.int .u32 (e.since : Int)) (.int .u32 (e.n : Int)) rfl rfl (entC (posE e)) (pos_built e.since e.n) ?_)
      | (refine wpList_bin_agg (by rfl) .eql 37 _ _ _ rfl (entC p) (entC (posE e)) rfl rfl (.bool (same tEnt p (posE e))) guard_ent ?hg ?_; (case hg => exact heq _)))
    go_ret
    exact ⟨by rw [hM.out]; rfl, hb⟩


theorem through_parts (s t : StV) : throughM s t = ((same tEnt t.tail s.tail || hasPosM s t.tail) && ((uptoM s t.tail.n).2 && same tBase (uptoM s t.tail.n).1 t.base)) := rfl

set_option maxHeartbeats 4000000 in
theorem through_any (s t : StV) (ao bo : Option Addr) (c d : Nat) (w : World) (hs : StOk s) (ht : StOk t) (h : Sl w ao c 8 (entR s.log)) :
    Calls Try.prog 58 #[.agg (stC s ao c), .agg (stC t bo d)] w fun en w' => en = .returned (.bool (throughM s t)) ∧ Below w.heap.size w w' := by
  obtain ⟨w1, hw1, hX, hY, hb⟩ := two_vars w 40 40 (stC s ao c) (stC t bo d)
  have hM : Hid _ := through_parts s t
  have xt := hX.st_tail
  have yt := hY.st_tail
  have heq := fun W => neqv_ent t.tail s.tail ht.tail hs.tail W
  cases hq0 : same tEnt t.tail s.tail with
  | true =>
    rw [hq0] at hM heq
    have y1 := hY.st_tail_n
    go_enter Try.func58, Try.ntmps58
    go_wp2_with (first
      | (refine wpList_load_mid' (by rfl) 37 _ rfl (w.heap.size + 1) (40) rfl (entL t.tail) _ ?hg Try.underlying37 rfl (ent_size _) ?_; (case hg => exact yt))
      | (refine wpList_load_mid' (by rfl) 37 _ rfl (w.heap.size) (40) rfl (entL s.tail) _ ?hg Try.underlying37 rfl (ent_size _) ?_; (case hg => exact xt))
      | (refine wpList_bin_agg (by rfl) .neq 37 _ _ _ rfl (entC t.tail) (entC s.tail) rfl rfl (.bool (!true)) guard_ent ?hg ?_; (case hg => exact heq _))
      | (refine wpList_load_has (by rfl) 40 _ rfl (w.heap.size) rfl 40 (stC s ao c) _ Try.underlying40 rfl (st_size _ _ _) ?hg ?_; (case hg => exact hX))
      | fail)
    clear heq xt yt hq0
    refine (upto_any s ao c t.tail.n _ hs (h.later hb) ht.tail.n).mono ?_
    rintro en wu ⟨rfl, hq⟩
    have hbo := (upto_fit hs t.tail.n).in'
    replace hY := hY.later hq
    replace hb := hb.trans (hq.mono hb.size)
    clear hq hX y1
    generalize (uptoM s t.tail.n).1 = B at *
    generalize (uptoM s t.tail.n).2 = k at *
    obtain ⟨wv, hwv, hB, hq⟩ := new_var wu 33 (baseC base0) (baseC B)
    replace hY := hY.later hq
    replace hb := hb.trans (hq.mono hb.size)
    clear hq
    have yb := hY.st_base
    have heq2 := fun W => eqv_base B t.base hbo ht.base W
    cases k with
    | false =>
      go_wp2_with (first
        | (refine wpList_alloc_has (by rfl) 33 rfl (baseC base0) base_zero ?_)
        | (refine wpList_store_to (by rfl) 33 _ _ rfl wu.heap.size rfl (baseC B) rfl 33 (baseC base0) (base_size _) rfl (base_one _) ?hg wv ?hW ?_; (case hg => exact Has.new _ _ _); (case hW => exact hwv); clear hwv)
        | fail)
      go_ret
      exact ⟨by rw [hM.out]; rfl, hb⟩
    | true =>
      go_wp2_with (first
        | (refine wpList_alloc_has (by rfl) 33 rfl (baseC base0) base_zero ?_)
        | (refine wpList_store_to (by rfl) 33 _ _ rfl wu.heap.size rfl (baseC B) rfl 33 (baseC base0) (base_size _) rfl (base_one _) ?hg wv ?hW ?_; (case hg => exact Has.new _ _ _); (case hW => exact hwv); clear hwv)
        | (refine wpList_load_has (by rfl) 33 _ rfl (wu.heap.size) rfl 33 (baseC (B)) _ Try.underlying33 rfl (base_size _) ?hg ?_; (case hg => exact hB))
        | (refine wpList_load_mid' (by rfl) 33 _ rfl (w.heap.size + 1) (1) rfl (baseL t.base) _ ?hg Try.underlying33 rfl (base_size _) ?_; (case hg => exact yb))
        | (refine wpList_bin_agg (by rfl) .eql 33 _ _ _ rfl (baseC B) (baseC t.base) rfl rfl (.bool (same tBase B t.base)) guard_base ?hg ?_; (case hg => exact heq2 _)))
      go_ret
      exact ⟨by rw [hM.out]; rfl, hb⟩
  | false =>
    rw [hq0] at hM heq
    go_enter Try.func58, Try.ntmps58
    go_wp2_with (first
      | (refine wpList_load_mid' (by rfl) 37 _ rfl (w.heap.size + 1) (40) rfl (entL t.tail) _ ?hg Try.underlying37 rfl (ent_size _) ?_; (case hg => exact yt))
      | (refine wpList_load_mid' (by rfl) 37 _ rfl (w.heap.size) (40) rfl (entL s.tail) _ ?hg Try.underlying37 rfl (ent_size _) ?_; (case hg => exact xt))
      | (refine wpList_bin_agg (by rfl) .neq 37 _ _ _ rfl (entC t.tail) (entC s.tail) rfl rfl (.bool (!false)) guard_ent ?hg ?_; (case hg => exact heq _))
      | (refine wpList_load_has (by rfl) 40 _ rfl (w.heap.size) rfl 40 (stC s ao c) _ Try.underlying40 rfl (st_size _ _ _) ?hg ?_; (case hg => exact hX))
      | fail)
    refine (hasPos_any s t.tail ao c _ hs ht.tail (h.later hb)).mono ?_
    rintro en w2 ⟨rfl, hq⟩
    replace hX := hX.later hq
    replace hY := hY.later hq
    replace hb := hb.trans (hq.mono hb.size)
    clear hq heq xt yt hq0 hw1
    generalize hasPosM s t.tail = p at *
    cases p with
    | false =>
      go_wp2
      go_ret
      exact ⟨by rw [hM.out]; rfl, hb⟩
    | true =>
      have y1 := hY.st_tail_n
      go_wp2_with (first
        | (refine wpList_load_has (by rfl) 40 _ rfl (w.heap.size) rfl 40 (stC s ao c) _ Try.underlying40 rfl (st_size _ _ _) ?hg ?_; (case hg => exact hX))
        | fail)
      refine (upto_any s ao c t.tail.n _ hs (h.later hb) ht.tail.n).mono ?_
      rintro en wu ⟨rfl, hq⟩
      have hbo := (upto_fit hs t.tail.n).in'
      replace hY := hY.later hq
      replace hb := hb.trans (hq.mono hb.size)
      clear hq hX y1
      generalize (uptoM s t.tail.n).1 = B at *
      generalize (uptoM s t.tail.n).2 = k at *
      obtain ⟨wv, hwv, hB, hq⟩ := new_var wu 33 (baseC base0) (baseC B)
      replace hY := hY.later hq
      replace hb := hb.trans (hq.mono hb.size)
      clear hq
      have yb := hY.st_base
      have heq2 := fun W => eqv_base B t.base hbo ht.base W
      cases k with
      | false =>
        go_wp2_with (first
          | (refine wpList_alloc_has (by rfl) 33 rfl (baseC base0) base_zero ?_)
          | (refine wpList_store_to (by rfl) 33 _ _ rfl wu.heap.size rfl (baseC B) rfl 33 (baseC base0) (base_size _) rfl (base_one _) ?hg wv ?hW ?_; (case hg => exact Has.new _ _ _); (case hW => exact hwv); clear hwv)
          | fail)
        go_ret
        exact ⟨by rw [hM.out]; rfl, hb⟩
      | true =>
        go_wp2_with (first
          | (refine wpList_alloc_has (by rfl) 33 rfl (baseC base0) base_zero ?_)
          | (refine wpList_store_to (by rfl) 33 _ _ rfl wu.heap.size rfl (baseC B) rfl 33 (baseC base0) (base_size _) rfl (base_one _) ?hg wv ?hW ?_; (case hg => exact Has.new _ _ _); (case hW => exact hwv); clear hwv)
          | (refine wpList_load_has (by rfl) 33 _ rfl (wu.heap.size) rfl 33 (baseC (B)) _ Try.underlying33 rfl (base_size _) ?hg ?_; (case hg => exact hB))
          | (refine wpList_load_mid' (by rfl) 33 _ rfl (w.heap.size + 1) (1) rfl (baseL t.base) _ ?hg Try.underlying33 rfl (base_size _) ?_; (case hg => exact yb))
          | (refine wpList_bin_agg (by rfl) .eql 33 _ _ _ rfl (baseC B) (baseC t.base) rfl rfl (.bool (same tBase B t.base)) guard_base ?hg ?_; (case hg => exact heq2 _)))
        go_ret
        exact ⟨by rw [hM.out]; rfl, hb⟩

theorem shared_step {a : StV} {l : List EntV} {n : Nat} (h : n < l.length) (hn : sharedN a l = n + sharedN a (l.drop n)) : sharedN a l = if hasEnt a l[n] = true then n + 1 + sharedN a (l.drop (n + 1)) else n := by
  rw [List.drop_eq_getElem_cons h] at hn
  rw [hn]
  show n + (if hasEnt a l[n] = true then _ else _) = _
  split <;> omega

set_option maxHeartbeats 4000000 in
theorem shared_any (s t : StV) (ao bo : Option Addr) (c d : Nat) (w : World) (hs : StOk s) (ht : StOk t) (h : Sl w ao c 8 (entR s.log)) (h' : Sl w bo d 8 (entR t.log)) :
    Calls Try.prog 59 #[.agg (stC s ao c), .agg (stC t bo d)] w fun en w' => en = .returned (.int .i64 (sharedN s t.log : Int)) ∧ Below w.heap.size w w' := by
  obtain ⟨w1, hw1, hX, hY, hb⟩ := two_vars w 40 40 (stC s ao c) (stC t bo d)
  have yl := hY.st_log
  have hle := h'.ent_le
  have hcap := h'.cap
  have hlen := ht.len
  go_enter Try.func59, Try.ntmps59
  go_wp2
  clear yl hw1
  go_loopw [12] (fun i wr => ∃ n : Nat, n ≤ t.log.length ∧ i = .int .i64 n ∧ Has wr w.heap.size 40 (stC s ao c) ∧ Has wr (w.heap.size + 1) 40 (stC t bo d) ∧ Below w.heap.size w wr ∧ sharedN s t.log = n + sharedN s (t.log.drop n)) (fun i _ => t.log.length - (intOf i).toNat)
  case atStart => exact ⟨0, Nat.zero_le _, rfl, hX, hY, hb, by rw [List.drop_zero, Nat.zero_add]⟩
  case round =>
    clear hX hY hb
    obtain ⟨n, hn, rfl, hX, hY, hb, hc⟩ := hrel
    by_cases hlt : n < t.log.length
    · cases bo with
      | none => have := h'.nil rfl; omega
      | some bd =>
        have hx := ent_at (h'.later hb) n hlt
        have hxo := ht.log t.log[n] (List.getElem_mem hlt)
        have hnext : Hid _ := shared_step hlt hc
        clear hc
        have hltI : (n : Int) < (t.log.length : Int) := by omega
        generalize t.log[n] = x at *
        obtain ⟨w3, hw3, hE, hq⟩ := new_var wr 37 (entC ent0) (entC x)
        replace hX := hX.later hq
        replace hY := hY.later hq
        replace hb := hb.trans (hq.mono hb.size)
        clear hq
        have e1 := hE.ent_n
        go_wp2_with (first
          | (refine wpList_load_any (by rfl) 37 _ rfl _ rfl (entL x) _ ?hg Try.underlying37 rfl (ent_size x) ?_; (case hg => exact hx))
          | (refine wpList_alloc_has (by rfl) 37 rfl (entC ent0) ent_zero ?_)
          | (refine wpList_store_to (by rfl) 37 _ _ rfl wr.heap.size rfl (entC (x)) rfl 37 (entC ent0) (ent_size _) rfl (ent_one _) ?hg w3 ?hW ?_; (case hg => exact Has.new _ _ _); (case hW => exact hw3); clear hw3)
          | (refine wpList_load_has (by rfl) 40 _ rfl (w.heap.size) rfl 40 (stC s ao c) _ Try.underlying40 rfl (st_size _ _ _) ?hg ?_; (case hg => exact hX))
          | fail)
        refine (find_any s ao c x.n _ hs (h.later hb) hxo.n).mono ?_
        rintro en w4 ⟨rfl, hq⟩
        replace hX := hX.later hq
        replace hY := hY.later hq
        replace hE := hE.later hq
        replace hb := hb.trans (hq.mono hb.size)
        have hfo := find_fit hs x.n
        have hH : Hid (hasEnt s x = ((findM s x.n).2 && same tEnt (findM s x.n).1 x)) := rfl
        rw [hH.out] at hnext
        clear hq e1 hx hH
        generalize (findM s x.n).1 = y at *
        generalize (findM s x.n).2 = b at *
        obtain ⟨w5, hw5, hF, hq⟩ := new_var w4 37 (entC ent0) (entC y)
        replace hX := hX.later hq
        replace hY := hY.later hq
        replace hE := hE.later hq
        replace hb := hb.trans (hq.mono hb.size)
        clear hq
        have heq := fun W => neqv_ent y x hfo hxo W
        cases b with
        | false =>
          rw [Bool.false_and, if_neg (by simp)] at hnext
          go_wp2_with (first
            | (refine wpList_alloc_has (by rfl) 37 rfl (entC ent0) ent_zero ?_)
            | (refine wpList_store_to (by rfl) 37 _ _ rfl w4.heap.size rfl (entC (y)) rfl 37 (entC ent0) (ent_size _) rfl (ent_one _) ?hg w5 ?hW ?_; (case hg => exact Has.new _ _ _); (case hW => exact hw5); clear hw5)
            | fail)
          go_ret
          exact ⟨by rw [hnext.out]; rfl, hb⟩
        | true =>
          rw [Bool.true_and] at hnext
          cases hsm : same tEnt y x with
          | false =>
            rw [hsm] at hnext heq
            rw [if_neg (by simp)] at hnext
            go_wp2_with (first
              | (refine wpList_alloc_has (by rfl) 37 rfl (entC ent0) ent_zero ?_)
              | (refine wpList_store_to (by rfl) 37 _ _ rfl w4.heap.size rfl (entC (y)) rfl 37 (entC ent0) (ent_size _) rfl (ent_one _) ?hg w5 ?hW ?_; (case hg => exact Has.new _ _ _); (case hW => exact hw5); clear hw5)
              | (refine wpList_load_has (by rfl) 37 _ rfl (w4.heap.size) rfl 37 (entC (y)) _ Try.underlying37 rfl (ent_size _) ?hg ?_; (case hg => exact hF))
              | (refine wpList_load_has (by rfl) 37 _ rfl (wr.heap.size) rfl 37 (entC (x)) _ Try.underlying37 rfl (ent_size _) ?hg ?_; (case hg => exact hE))
              | (refine wpList_bin_agg (by rfl) .neq 37 _ _ _ rfl (entC y) (entC x) rfl rfl (.bool (!false)) guard_ent ?hg ?_; (case hg => exact heq _)))
            go_ret
            exact ⟨by rw [hnext.out]; rfl, hb⟩
          | true =>
            rw [hsm] at hnext heq
            rw [if_pos rfl] at hnext
            go_wp2_with (first
              | (refine wpList_alloc_has (by rfl) 37 rfl (entC ent0) ent_zero ?_)
              | (refine wpList_store_to (by rfl) 37 _ _ rfl w4.heap.size rfl (entC (y)) rfl 37 (entC ent0) (ent_size _) rfl (ent_one _) ?hg w5 ?hW ?_; (case hg => exact Has.new _ _ _); (case hW => exact hw5); clear hw5)
              | (refine wpList_load_has (by rfl) 37 _ rfl (w4.heap.size) rfl 37 (entC (y)) _ Try.underlying37 rfl (ent_size _) ?hg ?_; (case hg => exact hF))
              | (refine wpList_load_has (by rfl) 37 _ rfl (wr.heap.size) rfl 37 (entC (x)) _ Try.underlying37 rfl (ent_size _) ?hg ?_; (case hg => exact hE))
              | (refine wpList_bin_agg (by rfl) .neq 37 _ _ _ rfl (entC y) (entC x) rfl rfl (.bool (!true)) guard_ent ?hg ?_; (case hg => exact heq _)))
            go_roundw
            case rel => exact ⟨n + 1, by omega, by go_num, hX, hY, hb, hnext.out⟩
            case measure => simp [intOf]; omega
    · have e5 : n = t.log.length := by omega
      subst e5
      rw [List.drop_length] at hc
      replace hc : Hid (sharedN s t.log = t.log.length + 0) := hc
      have yl := hY.st_log
      go_wp2
      go_ret
      exact ⟨by rw [hc.out]; rfl, hb⟩

theorem rew_step (s : StV) (fr : Nat) (l : List EntV) (n : Nat) (h : n < l.length) : rewM s fr (l.take (n + 1)) = addTo (rewM s fr (l.take n)) l[n] := by
  unfold rewM
  rw [List.take_succ_eq_append_getElem h, List.foldl_append]
  rfl
theorem addTo_stop (l : List EntV) (p : StV × Nat) (h : p.2 ≠ 0) : l.foldl addTo p = p := by
  induction l with
  | nil => rfl
  | cons x l ih =>
    show l.foldl addTo (addTo p x) = p
    have : addTo p x = p := by unfold addTo; rw [if_neg h]
    rw [this, ih]
theorem rew_stop (s : StV) (fr : Nat) (l : List EntV) (n : Nat) (h : (rewM s fr (l.take n)).2 ≠ 0) : rewM s fr l = rewM s fr (l.take n) := by
  have e : rewM s fr l = (l.drop n).foldl addTo (rewM s fr (l.take n)) := by
    unfold rewM
    rw [← List.foldl_append, List.take_append_drop]
  rw [e, addTo_stop _ _ h]

set_option maxHeartbeats 4000000 in
theorem rewritten_any (s : StV) (ao bo : Option Addr) (c d fr : Nat) (l : List EntV) (w : World) (hs : StOk s) (h : Sl w ao c 8 (entR s.log)) (hfr : fr < 4294967296) (h' : Sl w bo d 8 (entR l)) (hl : ∀ e ∈ l, EntOk e) (hn : l.length ≤ 1000) :
    Calls Try.prog 74 #[.agg (stC s ao c), .int .u32 (fr : Int), .slice bo l.length d] w fun en w' => ∃ ro rc, en = .returned (.tuple #[.agg (stC (rewM s fr l).1 ro rc), .bool (decide ((rewM s fr l).2 = 0))]) ∧ Gives w w' (rewM s fr l).1 ro rc := by
  obtain ⟨w1, hw1, hX, hR, hb⟩ := two_vars w 40 40 (stC s ao c) (stC st0 none 0)
  have hle := h'.ent_le
  have hcap := h'.cap
  go_enter Try.func74, Try.ntmps74
  go_wp2_with (first
    | (refine wpList_alloc_has (by rfl) 40 rfl (stC st0 none 0) st_zero ?_; rw [hw1])
    | (refine wpList_load_has (by rfl) 40 _ rfl (w.heap.size) rfl 40 (stC s ao c) _ Try.underlying40 rfl (st_size _ _ _) ?hg ?_; (case hg => exact hX))
    | fail)
  refine (cut_any s ao c fr _ hs (h.later hb) hfr).mono ?_
  rintro en w2 ⟨ro, rc, rfl, hG⟩
  have hlt0 := hR.lt
  have h0 : Hid (rewM s fr (l.take 0) = cutM s fr) := by show _ = _; rw [List.take_zero]; rfl
  have hS0 := hG.sl
  have hnew : ∀ d, ro = some d → w.heap.size + 1 < d.block := fun d hd => by have := hG.new d hd; omega
  replace hX := hX.later hG.below
  replace hR := hR.later hG.below
  replace hb := hb.trans (hG.below.mono hb.size)
  have hX3 := hX.row (stC (cutM s fr).1 ro rc)
  have hR3 := hR.row_other (k := w.heap.size) (by omega) (stC (cutM s fr).1 ro rc)
  have hS3 := hS0.row_other (k := w.heap.size) (fun d hd => by have := hnew d hd; omega) (stC (cutM s fr).1 ro rc)
  have hb3 := below_setRow hb (Nat.le_refl _) (stC (cutM s fr).1 ro rc)
  rw [← h0.out] at hX3 hS3 hR3 hb3
  rw [← h0.out]
  clear hG hS0 hR hb h0
  go_wp2_with (first
    | (refine wpList_store_has (by rfl) 40 _ _ rfl (w.heap.size) rfl (stC (rewM s fr (l.take 0)).1 ro rc) rfl 40 (stC s ao c) (st_size _ _ _) (st_same _ _ _ _ _ _) (st_one _ _ _) ?hg ?_; (case hg => exact hX))
    | fail)
  clear hX
  go_loopw [8, 19] (fun e i wr => ∃ (n : Nat) (ro : Option Addr) (rc : Nat), n ≤ l.length ∧ i = .int .i64 n ∧ e = .int .i64 ((rewM s fr (l.take n)).2 : Int) ∧ Has wr w.heap.size 40 (stC (rewM s fr (l.take n)).1 ro rc) ∧ Has wr (w.heap.size + 1) 40 (stC st0 none 0) ∧ Sl wr ro rc 8 (entR (rewM s fr (l.take n)).1.log) ∧ (∀ d, ro = some d → w.heap.size + 1 < d.block) ∧ Below w.heap.size w wr) (fun _ i _ => l.length - (intOf i).toNat)
  case atStart => exact ⟨0, ro, rc, Nat.zero_le _, rfl, rfl, hX3, hR3, hS3, hnew, hb3⟩
  case round =>
    clear hX3 hR3 hS3 hnew hb3
    obtain ⟨n, ro, rc, hn, rfl, rfl, hX, hR, hS8, hap, hb⟩ := hrel
    by_cases hlt : n < l.length
    · cases bo with
      | none => have := h'.nil rfl; omega
      | some bd =>
        have hx := ent_at (h'.later hb) n hlt
        have hxo := hl l[n] (List.getElem_mem hlt)
        have hnext : Hid _ := rew_step s fr l n hlt
        have hstop : Hid _ := rew_stop s fr l n
        have hPo := rew_fit hs fr (l := l.take n) (fun e he => hl e (List.mem_of_mem_take he))
        have hltI : (n : Int) < (l.length : Int) := by omega
        generalize l[n] = x at *
        generalize rewM s fr (l.take n) = P at *
        obtain ⟨w3, hw3, hE, hq⟩ := new_var wr 37 (entC ent0) (entC x)
        replace hX := hX.later hq
        replace hR := hR.later hq
        replace hS8 := hS8.later hq
        replace hb := hb.trans (hq.mono hb.size)
        clear hq
        by_cases hp : P.2 = 0
        · have hpI : ((P.2 : Int) != 0) = false := by rw [hp]; rfl
          have hadd : Hid (addTo P x = addM P.1 x) := by show _ = _; unfold addTo; rw [if_pos hp]
          rw [hadd.out] at hnext
          replace hp : Hid _ := hp
          clear hstop hadd
          go_wp2_with (first
            | (refine wpList_load_any (by rfl) 37 _ rfl _ rfl (entL x) _ ?hg Try.underlying37 rfl (ent_size x) ?_; (case hg => exact hx))
            | (refine wpList_alloc_has (by rfl) 37 rfl (entC ent0) ent_zero ?_)
            | (refine wpList_store_to (by rfl) 37 _ _ rfl wr.heap.size rfl (entC (x)) rfl 37 (entC ent0) (ent_size _) rfl (ent_one _) ?hg w3 ?hW ?_; (case hg => exact Has.new _ _ _); (case hW => exact hw3); clear hw3)
            | (refine wpList_load_has (by rfl) 40 _ rfl (w.heap.size) rfl 40 (stC P.1 ro rc) _ Try.underlying40 rfl (st_size _ _ _) ?hg ?_; (case hg => exact hX))
            | (refine wpList_load_has (by rfl) 37 _ rfl (wr.heap.size) rfl 37 (entC (x)) _ Try.underlying37 rfl (ent_size _) ?hg ?_; (case hg => exact hE))
            | fail)
          refine (add_any P.1 ro rc x _ hPo hxo hS8).mono ?_
          rintro en w4 ⟨so, sc, rfl, hG⟩
          have hlt0 := hR.lt
          have hS4 := hG.sl
          have hnew : ∀ d, so = some d → w.heap.size + 1 < d.block := fun d hd => by have := hG.new d hd; omega
          replace hX := hX.later hG.below
          replace hR := hR.later hG.below
          replace hb := hb.trans (hG.below.mono hb.size)
          rw [← hnext.out] at hS4
          rw [← hnext.out]
          clear hG hS8 hap hx hE hnext
          have hX5 := hX.row (stC (rewM s fr (l.take (n + 1))).1 so sc)
          have hR5 := hR.row_other (k := w.heap.size) (by omega) (stC (rewM s fr (l.take (n + 1))).1 so sc)
          have hS5 := hS4.row_other (k := w.heap.size) (fun d hd => by have := hnew d hd; omega) (stC (rewM s fr (l.take (n + 1))).1 so sc)
          have hb5 := below_setRow hb (Nat.le_refl _) (stC (rewM s fr (l.take (n + 1))).1 so sc)
          go_wp2_with (first
            | (refine wpList_store_has (by rfl) 40 _ _ rfl (w.heap.size) rfl (stC (rewM s fr (l.take (n + 1))).1 so sc) rfl 40 (stC P.1 ro rc) (st_size _ _ _) (st_same _ _ _ _ _ _) (st_one _ _ _) ?hg ?_; (case hg => exact hX))
            | fail)
          go_roundw
          case rel => exact ⟨n + 1, so, sc, by omega, by go_num, rfl, hX5, hR5, hS5, hnew, hb5⟩
          case measure => simp [intOf]; omega
        · have hpI : ((P.2 : Int) != 0) = true := by rw [bne_iff_ne]; omega
          have hpD : ((P.2 : Int) == 0) = false := by rw [beq_eq_false_iff_ne]; omega
          have hpN : (P.2 == 0) = false := by rw [beq_eq_false_iff_ne]; omega
          have hF : Hid _ := hstop.out hp
          have hdec : Hid (decide (P.2 = 0) = false) := decide_eq_false hp
          clear hp hstop hnext
          have hz := hR.row (stC P.1 ro rc)
          have hlt := hR.lt
          have hsl := hS8.row_other (k := w.heap.size + 1) (fun d hd => by have := hap d hd; omega) (stC P.1 ro rc)
          have hbz := below_setRow hb (show w.heap.size ≤ w.heap.size + 1 by omega) (stC P.1 ro rc)
          have hgn : ∀ d, ro = some d → w.heap.size ≤ d.block := fun d hd => by have := hap d hd; omega
          go_wp2_with (first
            | (refine wpList_load_any (by rfl) 37 _ rfl _ rfl (entL x) _ ?hg Try.underlying37 rfl (ent_size x) ?_; (case hg => exact hx))
            | (refine wpList_alloc_has (by rfl) 37 rfl (entC ent0) ent_zero ?_)
            | (refine wpList_store_to (by rfl) 37 _ _ rfl wr.heap.size rfl (entC (x)) rfl 37 (entC ent0) (ent_size _) rfl (ent_one _) ?hg w3 ?hW ?_; (case hg => exact Has.new _ _ _); (case hW => exact hw3); clear hw3)
            | (refine wpList_load_has (by rfl) 40 _ rfl (w.heap.size) rfl 40 (stC P.1 ro rc) _ Try.underlying40 rfl (st_size _ _ _) ?hg ?_; (case hg => exact hX))
            | (refine wpList_store_has (by rfl) 40 _ _ rfl (w.heap.size + 1) rfl (stC P.1 ro rc) rfl 40 (stC st0 none 0) (st_size _ _ _) (st_same _ _ _ _ _ _) (st_one _ _ _) ?hg ?_; (case hg => exact hR))
            | fail)
          refine ret_has_tmp rfl (w.heap.size + 1) rfl 40 (stC P.1 ro rc) _ Try.underlying40 rfl (st_size _ _ _) hz rfl ⟨ro, rc, ?_, ?_⟩
          · rw [hF.out, hdec.out]; rfl
          · rw [hF.out]; exact ⟨hsl, hgn, hbz⟩
    · have e5 : n = l.length := by omega
      subst e5
      rw [List.take_length] at hX hS8
      rw [List.take_length]
      obtain ⟨P, hP⟩ : ∃ P, rewM s fr l = P := ⟨_, rfl⟩
      rw [hP] at hX hS8
      rw [hP]
      replace hP : Hid _ := hP
      by_cases hp : P.2 = 0
      · have hpI : ((P.2 : Int) == 0) = true := by rw [hp]; rfl
        have hpN : (P.2 == 0) = true := by rw [hp]; rfl
        have hdec : Hid (decide (P.2 = 0) = true) := decide_eq_true hp
        clear hp
        have hz := hR.row (stC P.1 ro rc)
        have hlt := hR.lt
        have hsl := hS8.row_other (k := w.heap.size + 1) (fun d hd => by have := hap d hd; omega) (stC P.1 ro rc)
        have hbz := below_setRow hb (show w.heap.size ≤ w.heap.size + 1 by omega) (stC P.1 ro rc)
        have hgn : ∀ d, ro = some d → w.heap.size ≤ d.block := fun d hd => by have := hap d hd; omega
        go_wp2_with (first
          | fail
          | (refine wpList_load_has (by rfl) 40 _ rfl (w.heap.size) rfl 40 (stC P.1 ro rc) _ Try.underlying40 rfl (st_size _ _ _) ?hg ?_; (case hg => exact hX))
          | (refine wpList_store_has (by rfl) 40 _ _ rfl (w.heap.size + 1) rfl (stC P.1 ro rc) rfl 40 (stC st0 none 0) (st_size _ _ _) (st_same _ _ _ _ _ _) (st_one _ _ _) ?hg ?_; (case hg => exact hR))
          | fail)
        refine ret_has_tmp rfl (w.heap.size + 1) rfl 40 (stC P.1 ro rc) _ Try.underlying40 rfl (st_size _ _ _) hz rfl ⟨ro, rc, ?_, ?_⟩
        · rw [hP.out, hdec.out]; rfl
        · rw [hP.out]; exact ⟨hsl, hgn, hbz⟩
      · have hpI : ((P.2 : Int) == 0) = false := by rw [beq_eq_false_iff_ne]; omega
        have hpN : (P.2 == 0) = false := by rw [beq_eq_false_iff_ne]; omega
        have hdec : Hid (decide (P.2 = 0) = false) := decide_eq_false hp
        clear hp
        have hz := hR.row (stC P.1 ro rc)
        have hlt := hR.lt
        have hsl := hS8.row_other (k := w.heap.size + 1) (fun d hd => by have := hap d hd; omega) (stC P.1 ro rc)
        have hbz := below_setRow hb (show w.heap.size ≤ w.heap.size + 1 by omega) (stC P.1 ro rc)
        have hgn : ∀ d, ro = some d → w.heap.size ≤ d.block := fun d hd => by have := hap d hd; omega
        go_wp2_with (first
          | fail
          | (refine wpList_load_has (by rfl) 40 _ rfl (w.heap.size) rfl 40 (stC P.1 ro rc) _ Try.underlying40 rfl (st_size _ _ _) ?hg ?_; (case hg => exact hX))
          | (refine wpList_store_has (by rfl) 40 _ _ rfl (w.heap.size + 1) rfl (stC P.1 ro rc) rfl 40 (stC st0 none 0) (st_size _ _ _) (st_same _ _ _ _ _ _) (st_one _ _ _) ?hg ?_; (case hg => exact hR))
          | fail)
        refine ret_has_tmp rfl (w.heap.size + 1) rfl 40 (stC P.1 ro rc) _ Try.underlying40 rfl (st_size _ _ _) hz rfl ⟨ro, rc, ?_, ?_⟩
        · rw [hP.out, hdec.out]; rfl
        · rw [hP.out]; exact ⟨hsl, hgn, hbz⟩


theorem ended_parts (s t : StV) : endedM s t = (startAt (tailM s t.tail.n).1 t.started, decide ((tailM s t.tail.n).2 = 0) && decide ((startAt (tailM s t.tail.n).1 t.started).tail.since = t.tail.since)) := rfl

set_option maxHeartbeats 4000000 in
theorem ended_any (s t : StV) (ao bo : Option Addr) (c d : Nat) (w : World) (hs : StOk s) (ht : StOk t) (h : Sl w ao c 8 (entR s.log)) :
    Calls Try.prog 73 #[.agg (stC s ao c), .agg (stC t bo d)] w fun en w' => ∃ ro rc, en = .returned (.tuple #[.agg (stC (endedM s t).1 ro rc), .bool (endedM s t).2]) ∧ Gives w w' (endedM s t).1 ro rc := by
  obtain ⟨w1, hw1, hX, hY, hR, hb⟩ := three_vars w 40 40 40 (stC s ao c) (stC t bo d) (stC st0 none 0)
  have hM : Hid _ := ended_parts s t
  have y1 := hY.st_tail_n
  go_enter Try.func73, Try.ntmps73
  go_wp2_with (first
    | (refine wpList_alloc_has (by rfl) 40 rfl (stC st0 none 0) st_zero ?_; rw [hw1])
    | (refine wpList_load_has (by rfl) 40 _ rfl (w.heap.size) rfl 40 (stC s ao c) _ Try.underlying40 rfl (st_size _ _ _) ?hg ?_; (case hg => exact hX))
    | fail)
  refine (tail_any s ao c t.tail.n _ hs (h.later hb) ht.tail.n).mono ?_
  rintro en w2 ⟨ro, rc, rfl, hG⟩
  have hlt0 := hR.lt
  have hS2 := hG.sl
  have hnew : ∀ d, ro = some d → w.heap.size + 1 + 1 < d.block := fun d hd => by have := hG.new d hd; omega
  replace hX := hX.later hG.below
  replace hY := hY.later hG.below
  replace hR := hR.later hG.below
  replace hb := hb.trans (hG.below.mono hb.size)
  clear hG y1 hw1
  generalize (tailM s t.tail.n).1 = T at *
  generalize (tailM s t.tail.n).2 = E at *
  have hX3 := hX.row (stC T ro rc)
  have hY3 := hY.row_other (k := w.heap.size) (by omega) (stC T ro rc)
  have hR3 := hR.row_other (k := w.heap.size) (by omega) (stC T ro rc)
  have hS3 := hS2.row_other (k := w.heap.size) (fun d hd => by have := hnew d hd; omega) (stC T ro rc)
  have hb3 := below_setRow hb (Nat.le_refl _) (stC T ro rc)
  obtain ⟨w3, hw3⟩ : ∃ W, w2.setRow w.heap.size (stC T ro rc) = W := ⟨_, rfl⟩
  rw [hw3] at hX3 hY3 hR3 hS3 hb3
  have y0 := hY3.st_started
  have x0 := hX3.st_started
  have f0 := hX3.free 0
  have hX4 := hX3.setStart t.started
  have hY4 := hY3.set_other (a := ⟨w.heap.size, 0, none⟩) (show w.heap.size + 1 ≠ w.heap.size by omega) (.int .u32 (t.started : Int))
  have hR4 := hR3.set_other (a := ⟨w.heap.size, 0, none⟩) (show w.heap.size + 1 + 1 ≠ w.heap.size by omega) (.int .u32 (t.started : Int))
  have hS4 := hS3.cell_other (a := ⟨w.heap.size, 0, none⟩) (fun d hd => by have := hnew d hd; show d.block ≠ w.heap.size; omega) (.int .u32 (t.started : Int))
  have hb4 := hb3.setCell (show w.heap.size ≤ (⟨w.heap.size, 0, none⟩ : Addr).block from Nat.le_refl _) (.int .u32 (t.started : Int))
  obtain ⟨w4, hw4⟩ : ∃ W, w3.setCell ⟨w.heap.size, 0, none⟩ (.int .u32 (t.started : Int)) = W := ⟨_, rfl⟩
  rw [hw4] at hX4 hY4 hR4 hS4 hb4
  have hS4 : Sl w4 ro rc 8 (entR (startAt T t.started).log) := hS4
  clear hY hR hb hS2 hX3 hY3 hR3 hS3 hb3
  go_wp2_with (first
    | (refine wpList_store_to (by rfl) 40 _ _ rfl (w.heap.size) rfl (stC T ro rc) rfl 40 (stC s ao c) (st_size _ _ _) (st_same _ _ _ _ _ _) (st_one _ _ _) ?hg w3 ?hW ?_; (case hg => exact hX); (case hW => exact hw3))
    | fail)
  clear hX x0 y0 f0 hw3 hw4
  generalize startAt T t.started = U at *
  have hXA := hX4.drew
  have hYA := hY4.drew
  have hRA := hR4.drew
  have hz := hRA.row (stC U ro rc)
  have hsl := (hS4.later ((Below.refl w4.heap.size w4).drew)).row_other (k := w.heap.size + 1 + 1) (fun d hd => by have := hnew d hd; omega) (stC U ro rc)
  have hbz := below_setRow hb4.drew (show w.heap.size ≤ w.heap.size + 1 + 1 by omega) (stC U ro rc)
  have hgn : ∀ d, ro = some d → w.heap.size ≤ d.block := fun d hd => by have := hnew d hd; omega
  have hXz := hXA.row_other (k := w.heap.size + 1 + 1) (by omega) (stC U ro rc)
  have hYz := hYA.row_other (k := w.heap.size + 1 + 1) (by omega) (stC U ro rc)
  refine wp_region_plan (fun W => Has W w.heap.size 40 (stC U ro rc) ∧ Has W (w.heap.size + 1) 40 (stC t bo d)) (Plan.of [(0, true), (1, true), (2, true), (3, true), (4, true), (5, true), (6, true), (7, true), (8, true), (9, true), (10, true), (11, true), (12, false), (13, true)] .done) (by kernel_rfl) (by kernel_rfl) (by kernel_rfl) (by kernel_rfl) ⟨hXA, hYA⟩ ?_
  refine plan_take _ _ rfl (yields_load_has (by rfl) 40 _ rfl (w.heap.size) rfl 40 (stC U ro rc) _ Try.underlying40 rfl (st_size _ _ _) (fun W hW => hW.1)) ?_
  try simp only [Act.put, List.setIfInBounds_toArray, List.set_cons_zero, List.set_cons_succ]
  iterate 1
    first
      | (refine plan_pass _ rfl (by rfl) ?_)
      | (refine plan_take _ _ rfl (.inl ⟨by rfl, fun W hS => by clear hS; go_simp; try with_reducible rfl⟩) ?_)
    try simp only [Act.put, List.setIfInBounds_toArray, List.set_cons_zero, List.set_cons_succ]
  by_cases h0 : E = 0
  · have h0I : ((E : Int) == 0) = true := by rw [h0]; rfl
    have h0N : (E == 0) = true := by rw [h0]; rfl
    rw [decide_eq_true h0, Bool.true_and] at hM
    clear h0
    refine plan_take _ (.bool true) rfl (.inl ⟨by rfl, fun W hS => by clear hS; go_simp; try with_reducible rfl⟩) ?_
    try simp only [Act.put, List.setIfInBounds_toArray, List.set_cons_zero, List.set_cons_succ]
    iterate 1
      first
        | (refine plan_pass _ rfl (by rfl) ?_)
        | (refine plan_take _ _ rfl (.inl ⟨by rfl, fun W hS => by clear hS; go_simp; try with_reducible rfl⟩) ?_)
      try simp only [Act.put, List.setIfInBounds_toArray, List.set_cons_zero, List.set_cons_succ]
    iterate 3
      first
        | (refine plan_pass _ rfl (by rfl) ?_)
        | (refine plan_take _ _ rfl (.inl ⟨by rfl, fun W hS => by have z0 := hS.1.st_tail_since; go_simp; try with_reducible rfl⟩) ?_)
      try simp only [Act.put, List.setIfInBounds_toArray, List.set_cons_zero, List.set_cons_succ]
    iterate 3
      first
        | (refine plan_pass _ rfl (by rfl) ?_)
        | (refine plan_take _ _ rfl (.inl ⟨by rfl, fun W hS => by have z0 := hS.2.st_tail_since; go_simp; try with_reducible rfl⟩) ?_)
      try simp only [Act.put, List.setIfInBounds_toArray, List.set_cons_zero, List.set_cons_succ]
    by_cases h1 : U.tail.since = t.tail.since
    · have h1I : ((U.tail.since : Int) == (t.tail.since : Int)) = true := by rw [h1]; simp
      have h1N : (U.tail.since == t.tail.since) = true := by rw [h1]; simp
      rw [decide_eq_true h1] at hM
      clear h1
      refine plan_take _ (.bool true) rfl (.inl ⟨by rfl, fun W hS => by clear hS; go_simp; try with_reducible rfl⟩) ?_
      try simp only [Act.put, List.setIfInBounds_toArray, List.set_cons_zero, List.set_cons_succ]
      iterate 1
        first
          | (refine plan_pass _ rfl (by rfl) ?_)
          | (refine plan_take _ _ rfl (.inl ⟨by rfl, fun W hS => by clear hS; go_simp; try with_reducible rfl⟩) ?_)
        try simp only [Act.put, List.setIfInBounds_toArray, List.set_cons_zero, List.set_cons_succ]
      refine plan_store_has _ rfl (by rfl) 40 _ _ rfl (w.heap.size + 1 + 1) rfl (stC U ro rc) rfl 40 (stC st0 none 0) (st_size _ _ _) (st_same _ _ _ _ _ _) (st_one _ _ _) hRA ⟨hXz, hYz⟩ ?_
      try simp only [Act.put, List.setIfInBounds_toArray, List.set_cons_zero, List.set_cons_succ]
      iterate 1
        first
          | (refine plan_pass _ rfl (by rfl) ?_)
          | (refine plan_take _ _ rfl (.inl ⟨by rfl, fun W hS => by clear hS; go_simp; try with_reducible rfl⟩) ?_)
        try simp only [Act.put, List.setIfInBounds_toArray, List.set_cons_zero, List.set_cons_succ]
      refine plan_done ?_
      go_wp2
      refine ret_has_tmp rfl (w.heap.size + 1 + 1) rfl 40 (stC U ro rc) _ Try.underlying40 rfl (st_size _ _ _) hz rfl ⟨ro, rc, by rw [hM.out]; rfl, ?_⟩
      rw [hM.out]
      exact ⟨hsl, hgn, hbz⟩
    · have h1I : ((U.tail.since : Int) == (t.tail.since : Int)) = false := by rw [beq_eq_false_iff_ne]; omega
      have h1N : (U.tail.since == t.tail.since) = false := by rw [beq_eq_false_iff_ne]; omega
      rw [decide_eq_false h1] at hM
      clear h1
      refine plan_take _ (.bool false) rfl (.inl ⟨by rfl, fun W hS => by clear hS; go_simp; try with_reducible rfl⟩) ?_
      try simp only [Act.put, List.setIfInBounds_toArray, List.set_cons_zero, List.set_cons_succ]
      iterate 1
        first
          | (refine plan_pass _ rfl (by rfl) ?_)
          | (refine plan_take _ _ rfl (.inl ⟨by rfl, fun W hS => by clear hS; go_simp; try with_reducible rfl⟩) ?_)
        try simp only [Act.put, List.setIfInBounds_toArray, List.set_cons_zero, List.set_cons_succ]
      refine plan_store_has _ rfl (by rfl) 40 _ _ rfl (w.heap.size + 1 + 1) rfl (stC U ro rc) rfl 40 (stC st0 none 0) (st_size _ _ _) (st_same _ _ _ _ _ _) (st_one _ _ _) hRA ⟨hXz, hYz⟩ ?_
      try simp only [Act.put, List.setIfInBounds_toArray, List.set_cons_zero, List.set_cons_succ]
      iterate 1
        first
          | (refine plan_pass _ rfl (by rfl) ?_)
          | (refine plan_take _ _ rfl (.inl ⟨by rfl, fun W hS => by clear hS; go_simp; try with_reducible rfl⟩) ?_)
        try simp only [Act.put, List.setIfInBounds_toArray, List.set_cons_zero, List.set_cons_succ]
      refine plan_done ?_
      go_wp2
      refine ret_has_tmp rfl (w.heap.size + 1 + 1) rfl 40 (stC U ro rc) _ Try.underlying40 rfl (st_size _ _ _) hz rfl ⟨ro, rc, by rw [hM.out]; rfl, ?_⟩
      rw [hM.out]
      exact ⟨hsl, hgn, hbz⟩
  · have h0I : ((E : Int) == 0) = false := by rw [beq_eq_false_iff_ne]; omega
    have h0N : (E == 0) = false := by rw [beq_eq_false_iff_ne]; omega
    rw [decide_eq_false h0, Bool.false_and] at hM
    clear h0
    refine plan_take _ (.bool false) rfl (.inl ⟨by rfl, fun W hS => by clear hS; go_simp; try with_reducible rfl⟩) ?_
    try simp only [Act.put, List.setIfInBounds_toArray, List.set_cons_zero, List.set_cons_succ]
    iterate 9
      first
        | (refine plan_pass _ rfl (by rfl) ?_)
        | (refine plan_take _ _ rfl (.inl ⟨by rfl, fun W hS => by clear hS; go_simp; try with_reducible rfl⟩) ?_)
      try simp only [Act.put, List.setIfInBounds_toArray, List.set_cons_zero, List.set_cons_succ]
    refine plan_store_has _ rfl (by rfl) 40 _ _ rfl (w.heap.size + 1 + 1) rfl (stC U ro rc) rfl 40 (stC st0 none 0) (st_size _ _ _) (st_same _ _ _ _ _ _) (st_one _ _ _) hRA ⟨hXz, hYz⟩ ?_
    try simp only [Act.put, List.setIfInBounds_toArray, List.set_cons_zero, List.set_cons_succ]
    iterate 1
      first
        | (refine plan_pass _ rfl (by rfl) ?_)
        | (refine plan_take _ _ rfl (.inl ⟨by rfl, fun W hS => by clear hS; go_simp; try with_reducible rfl⟩) ?_)
      try simp only [Act.put, List.setIfInBounds_toArray, List.set_cons_zero, List.set_cons_succ]
    refine plan_done ?_
    go_wp2
    refine ret_has_tmp rfl (w.heap.size + 1 + 1) rfl 40 (stC U ro rc) _ Try.underlying40 rfl (st_size _ _ _) hz rfl ⟨ro, rc, by rw [hM.out]; rfl, ?_⟩
    rw [hM.out]
    exact ⟨hsl, hgn, hbz⟩
end Go.Proofs.Ytphlfepgaghhhaa
