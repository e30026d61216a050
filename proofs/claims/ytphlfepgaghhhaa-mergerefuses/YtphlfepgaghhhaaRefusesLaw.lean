/- MergeRefuses, walked. -/
import Derived.Test.YtphlfepgaghhhaaMergeKnown
import Derived.Test.YtphlfepgaghhhaaMergeState
import Derived.Test.YtphlfepgaghhhaaOpenObj
namespace Go.Proofs.Ytphlfepgaghhhaa
set_option linter.unusedSimpArgs false
set_option linter.unusedVariables false
set_option maxRecDepth 100000
open Go.RowKit

theorem reach_over {s : StV} {n : Nat} (hs : isM s = true) (h : n < s.tail.n ∨ s.tail.n + s.log.length < n) : (reachM s n).2 ≠ 0 := fun h0 => by
  have := reach_ins h0
  omega
theorem cut_over {s : StV} {n : Nat} (hs : isM s = true) (h : n < s.tail.n ∨ s.tail.n + s.log.length < n) : (cutM s n).2 ≠ 0 := by
  have h0 := reach_over hs h
  unfold cutM
  rw [if_neg h0]
  split
  · decide
  · exact h0
theorem tail_over {s : StV} {n : Nat} (hs : isM s = true) (h : n < s.tail.n ∨ s.tail.n + s.log.length < n) : (tailM s n).2 ≠ 0 := by
  have h0 := reach_over hs h
  unfold tailM
  rw [if_neg h0]
  exact h0

structure Refused (s : StV) (o : OpV) (fr n : Nat) (kind : Int) : Prop where
  e1 : (applyM s ⟨1, fr, [], ⟨0, base0, s.tail, []⟩⟩).2 = if s.tail.n ≤ fr ∧ fr ≤ n then 0 else 80
  e2 : (applyM s ⟨1, n, [⟨40, n + 2, o⟩], ⟨0, base0, s.tail, []⟩⟩).2 = 80
  e3 : (applyM s ⟨kind, n + 1, [], st0⟩).2 = 80
  e4 : (applyM s ⟨0, 0, [], ⟨0, base0, ⟨0, n + 1, op0⟩, []⟩⟩).2 = 80
theorem apply_80 {s : StV} {d : DiffV} (h : (turnedM s d).2 = false) : (applyM s d).2 = 80 := by rw [apply_no (.inr (.inl h))]
theorem refused {s : StV} (o : OpV) (fr : Nat) {n : Nat} (kind : Int) (hs : isM s = true) (hn : s.tail.n + s.log.length = n) : Refused s o fr n kind := by
  have hI := (is_is s).1 hs
  refine ⟨?_, ?_, ?_, ?_⟩
  · split
    · rename_i h
      have hc := cutM_ok hs h.1 (by omega)
      have hX : isM (withLog s (s.log.take (fr - s.tail.n))) = true := by
        refine withLog_is hs (by rw [List.length_take]; omega) ?_
        have : chainM s.tail (s.log.take (fr - s.tail.n) ++ s.log.drop (fr - s.tail.n)) = true := by rw [List.take_append_drop]; exact hI.2.2.2.2
        rw [chain_app, Bool.and_eq_true] at this
        exact this.1
      generalize hXe : withLog s (s.log.take (fr - s.tail.n)) = X at *
      have hXt : X.tail = s.tail := by rw [← hXe]; rfl
      have ht : tailM X s.tail.n = (X, 0) := by
        rw [tailM_ok hX (by rw [hXt]; omega) (by rw [hXt]; omega), hXt, Nat.sub_self]
        rfl
      have hT : turnedM s ⟨1, fr, [], ⟨0, base0, s.tail, []⟩⟩ = (startAt X 0, true) := by
        unfold turnedM
        rw [if_neg (by show ¬ (1 : Int) = 0; decide), if_pos rfl]
        show (if (cutM s fr).2 = 0 then endedM (cutM s fr).1 ⟨0, base0, s.tail, []⟩ else (st0, false)) = _
        rw [hc, if_pos rfl]
        unfold endedM
        show (startAt (tailM X s.tail.n).1 0, decide ((tailM X s.tail.n).2 = 0) && decide ((tailM X s.tail.n).1.tail.since = s.tail.since)) = _
        rw [ht]
        show (startAt X 0, decide (0 = 0) && decide (X.tail.since = s.tail.since)) = _
        rw [hXt]
        simp
      have hXI := (is_is X).1 hX
      rw [apply_yes hs (by rw [hT]) (by rw [hT, is_is]; exact ⟨by show 0 ≤ 60; decide, hXI.2.1, hXI.2.2.1, hXI.2.2.2.1, hXI.2.2.2.2⟩)]
    · rename_i h
      refine apply_80 ?_
      unfold turnedM
      rw [if_neg (by show ¬ (1 : Int) = 0; decide), if_pos rfl]
      show (if (cutM s fr).2 = 0 then endedM (cutM s fr).1 _ else (st0, false)).2 = false
      rw [if_neg (cut_over hs (by omega))]
  · refine apply_80 ?_
    unfold turnedM
    rw [if_neg (by show ¬ (1 : Int) = 0; decide), if_pos rfl]
    show (if (addTo (cutM s n) ⟨40, n + 2, o⟩).2 = 0 then endedM _ _ else (st0, false)).2 = false
    have hc := cutM_ok hs (n := n) (by omega) (by omega)
    have e : s.log.take (n - s.tail.n) = s.log := List.take_of_length_le (by omega)
    have e2 : addTo (cutM s n) ⟨40, n + 2, o⟩ = (st0, 10) := by
      rw [hc, e]
      show addM s ⟨40, n + 2, o⟩ = _
      refine add_no ?_
      cases hq : canM s ⟨40, n + 2, o⟩ with
      | false => rfl
      | true =>
        have h1 := (follows_is.1 (can_is.1 hq).2).2.1
        rw [head_num hs] at h1
        have h1 : n + 2 = s.tail.n + s.log.length + 1 := h1
        omega
    rw [e2, if_neg (by decide)]
  · refine apply_80 ?_
    unfold turnedM
    have hb : bareM ⟨kind, n + 1, [], st0⟩ = false := by
      unfold bareM
      show (true && decide (n + 1 = 0)) = false
      rw [decide_eq_false (by omega)]
      rfl
    split
    · show (_ && bareM _) = false
      rw [hb, Bool.and_false]
    · split
      · show (if (cutM s (n + 1)).2 = 0 then endedM (cutM s (n + 1)).1 _ else (st0, false)).2 = false
        rw [if_neg (cut_over hs (by omega))]
      · split
        · exact hb
        · rfl
  · refine apply_80 ?_
    unfold turnedM
    rw [if_pos rfl]
    unfold endedM
    show ((decide ((tailM s (n + 1)).2 = 0) && _) && _) = false
    rw [decide_eq_false (tail_over hs (by omega))]
    rfl

set_option maxHeartbeats 4000000 in
theorem refuses_walk (ao : Option Addr) (c fr : Nat) (kind : Int) (l : List OpV) (o : OpV) (w : World) (h : Sl w ao c 6 (opR l)) (hl : ∀ x ∈ l, OpOk x) (ho : OpOk o) (hfr : fr < 4294967296) (hk1 : -9223372036854775808 ≤ kind) (hk2 : kind ≤ 9223372036854775807) :
    Calls Try.prog 8 #[.slice ao l.length c, .agg (opC o), .int .u32 (fr : Int), .int .i64 kind] w fun e w' => e = .returned (.bool true) ∧ Below w.heap.size w w' := by
  obtain ⟨w0, hw0, hO, hb⟩ := one_var w 35 (opC o)
  have hle := h.op_len
  have hcap := h.cap
  go_enter Try.func8, Try.ntmps8
  go_wp2_with fail
  refine (known8_any _).mono ?_
  rintro e w1 ⟨rfl, hq⟩
  replace hO := hO.later hq
  replace hb := hb.trans (hq.mono hb.size)
  clear hq hw0
  by_cases h20 : 20 < l.length
  · have hI : (20 : Int) < (l.length : Int) := by omega
    go_wp2
    go_ret
    exact ⟨rfl, hb⟩
  · have hI : ¬ (20 : Int) < (l.length : Int) := by omega
    go_wp2_with fail
    have hst := state_any ao none c 0 0 0 1 l [] w1 (h.later hb) (Sl.nothing _ _) hl (fun x hx => by cases hx) (by omega) (by decide) (by decide) (by decide) (by decide)
    refine hst.mono ?_
    rintro e w2 ⟨ro, rc, rfl, hG⟩
    have hSo : StOk (stM l [] 0 0 1) := stM_ok hl (fun x hx => by cases hx) (by omega) (by decide)
    have hSi : isM (stM l [] 0 0 1) = true := stM_is hl (fun x hx => by cases hx) (by omega) (by decide)
    have hS8 := hG.sl
    replace hO := hO.later hG.below
    replace hb := hb.trans (hG.below.mono hb.size)
    clear hG hst
    have hnum := stM_num (since := 0) (fold := 0) (started := 1) hl (own := []) (fun x hx => by cases hx) (by omega) (by decide)
    have hnle := entA_le l [] (0 % 20 + 2)
    rw [← hnum] at hnle
    clear hnum
    generalize stM l [] 0 0 1 = S at *
    obtain ⟨n, hn⟩ : ∃ n, S.tail.n + S.log.length = n := ⟨_, rfl⟩
    rw [hn] at hnle
    have hn20 : n ≤ 20 := by have : ([] : List OpV).length = 0 := rfl; omega
    have hh : Hid (headM S = ((headE S).since, n)) := by show _ = _; rw [head_yes hSi, head_num hSi, hn]
    have hRf := refused o fr kind hSi hn
    have he1 : Hid _ := hRf.e1
    have he2 : Hid _ := hRf.e2
    have he3 : Hid _ := hRf.e3
    have he4 : Hid _ := hRf.e4
    have ht32 := hSo.tail.n
    have hto := hSo.tail
    clear hRf hn hnle hSi
    have hWo : StOk ⟨0, base0, S.tail, []⟩ := ⟨by show 0 < _; decide, base0_ok.in', hto, (fun e he => by cases he), by show 0 ≤ _; decide⟩
    have heo : EntOk ⟨40, n + 2, o⟩ := ⟨by show 40 < _; decide, by show n + 2 < _; omega, ho⟩
    have hd1 : DiffOk ⟨1, fr, [], ⟨0, base0, S.tail, []⟩⟩ := ⟨by show (_ : Int) ≤ 1; decide, by show (1 : Int) ≤ _; decide, hfr, (fun e he => by cases he), by show 0 ≤ _; decide, hWo⟩
    have hd2 : DiffOk ⟨1, n, [⟨40, n + 2, o⟩], ⟨0, base0, S.tail, []⟩⟩ := ⟨by show (_ : Int) ≤ 1; decide, by show (1 : Int) ≤ _; decide, by show n < _; omega, (fun e he => by rw [List.mem_singleton.1 he]; exact heo), by show 1 ≤ _; decide, hWo⟩
    have hd3 : DiffOk ⟨kind, n + 1, [], st0⟩ := ⟨hk1, hk2, by show n + 1 < _; omega, (fun e he => by cases he), by show 0 ≤ _; decide, st0_fit⟩
    have hd4 : DiffOk ⟨0, 0, [], ⟨0, base0, ⟨0, n + 1, op0⟩, []⟩⟩ := ⟨by show (_ : Int) ≤ 0; decide, by show (0 : Int) ≤ _; decide, by show 0 < _; decide, (fun e he => by cases he), by show 0 ≤ _; decide, ⟨by show 0 < _; decide, base0_ok.in', ⟨by show 0 < _; decide, by show n + 1 < _; omega, op0_ok⟩, (fun e he => by cases he), by show 0 ≤ _; decide⟩⟩
    obtain ⟨w3, hw3, hX, hq⟩ := new_var w2 40 (stC st0 none 0) (stC S ro rc)
    replace hO := hO.later hq
    replace hS8 := hS8.later hq
    replace hb := hb.trans (hq.mono hb.size)
    clear hq
    go_wp2_with (first
      | (refine wpList_alloc_has (by rfl) 40 rfl (stC st0 none 0) st_zero ?_)
      | (refine wpList_store_to (by rfl) 40 _ _ rfl w2.heap.size rfl (stC S ro rc) rfl 40 (stC st0 none 0) (st_size _ _ _) (st_same _ _ _ _ _ _) (st_one _ _ _) ?hg w3 ?hW ?_; (case hg => exact Has.new _ _ _); (case hW => exact hw3); clear hw3; generalize w2.heap.size = gs at *)
      | (refine wpList_load_has (by rfl) 40 _ rfl (gs) rfl 40 (stC S ro rc) _ Try.underlying40 rfl (st_size _ _ _) ?hg ?_; (case hg => exact hX))
      | fail)
    refine (head_any S ro rc _ hSo hS8).mono ?_
    rintro e w4 ⟨rfl, hq⟩
    rw [hh.out]
    replace hX := hX.later hq
    replace hO := hO.later hq
    replace hS8 := hS8.later hq
    replace hb := hb.trans (hq.mono hb.size)
    clear hq hh
    generalize (headE S).since = ps at *
    have xt := hX.st_tail
    go_wp2_with (first
      | (refine wpList_load_has (by rfl) 40 _ rfl (gs) rfl 40 (stC S ro rc) _ Try.underlying40 rfl (st_size _ _ _) ?hg ?_; (case hg => exact hX))
      | (refine wpList_load_mid' (by rfl) 37 _ rfl (gs) (40) rfl (entL S.tail) _ ?hg Try.underlying37 rfl (ent_size _) ?_; (case hg => exact xt))
      | (refine wpList_build_one (by rfl) 40 2 _ rfl (.agg (entC S.tail)) rfl (stC ⟨0, base0, S.tail, []⟩ none 0) (st_built_tail S.tail) ?_)
      | (refine wpList_build_three (by rfl) 61 0 1 3 _ _ _ rfl (.int .i64 1) (.int .u32 (fr : Int)) (.agg (stC ⟨0, base0, S.tail, []⟩ none 0)) rfl rfl rfl (diffC ⟨1, fr, [], ⟨0, base0, S.tail, []⟩⟩ none 0 none 0) (diff_built_kfw none 0 1 fr _) ?_)
      | fail)
    refine (apply_any S ⟨1, fr, [], ⟨0, base0, S.tail, []⟩⟩ ro none none rc 0 0 _ hSo hd1 hS8 (Sl.nothing _ _) (Sl.nothing _ _)).mono ?_
    rintro e w5 ⟨xo, xc, rfl, hG⟩
    replace hX := hX.later hG.below
    replace hO := hO.later hG.below
    replace hS8 := hS8.later hG.below
    replace hb := hb.trans (hG.below.mono hb.size)
    clear hG xt hd1
    generalize (applyM S ⟨1, fr, [], ⟨0, base0, S.tail, []⟩⟩).2 = E1 at *
    generalize (applyM S ⟨1, fr, [], ⟨0, base0, S.tail, []⟩⟩).1 = A at *
    obtain ⟨w6, hw6, hA, hq⟩ := new_var w5 40 (stC st0 none 0) (stC A xo xc)
    replace hX := hX.later hq
    replace hO := hO.later hq
    replace hS8 := hS8.later hq
    replace hb := hb.trans (hq.mono hb.size)
    clear hq
    have xt := hX.st_tail
    obtain ⟨z, hz⟩ : ∃ z, n + 2 = z := ⟨_, rfl⟩
    obtain ⟨w7, hw7, hS1, hq7⟩ := one_ent w6 ⟨40, z, o⟩
    have hz1 : z < 100 := by omega
    rw [hz] at hd2 he2
    replace hz : Hid _ := hz
    go_wp2_with (first
      | (refine wpList_alloc_has (by rfl) 40 rfl (stC st0 none 0) st_zero ?_)
      | (refine wpList_store_to (by rfl) 40 _ _ rfl w5.heap.size rfl (stC A xo xc) rfl 40 (stC st0 none 0) (st_size _ _ _) (st_same _ _ _ _ _ _) (st_one _ _ _) ?hg w6 ?hW ?_; (case hg => exact Has.new _ _ _); (case hW => exact hw6); clear hw6; generalize w5.heap.size = ga at *)
      | (refine wpList_load_has (by rfl) 40 _ rfl (gs) rfl 40 (stC S ro rc) _ Try.underlying40 rfl (st_size _ _ _) ?hg ?_; (case hg => exact hX))
      | (refine wpList_val (.int .u32 (z : Int)) (by rfl) (run_add_u32 _ _ _ _ rfl n 2 z rfl rfl hz.out (by omega)) ?_)
      | (refine wpList_load_has (by rfl) 35 _ rfl w.heap.size rfl 35 (opC o) _ Try.underlying35 rfl (op_size _) ?hg ?_; (case hg => exact hO))
      | (refine wpList_build_three (by rfl) 37 0 1 2 _ _ _ rfl (.int .u32 40) (.int .u32 (z : Int)) (.agg (opC o)) rfl rfl rfl (entC ⟨40, z, o⟩) (ent_built 40 z _) ?_)
      | (refine wpList_slice_one (by rfl) 38 _ rfl (.agg (entC ⟨40, z, o⟩)) rfl (.slice (some ⟨w6.heap.size, 0, none⟩) 1 1) w7 ?hr ?_; (case hr => exact hw7 ▸ slice_one_ent ⟨40, z, o⟩ _); replace hX := hX.later hq7; replace hO := hO.later hq7; replace hS8 := hS8.later hq7; replace hb := hb.trans (hq7.mono hb.size); replace xt := hX.st_tail)
      | (refine wpList_load_mid' (by rfl) 37 _ rfl (gs) (40) rfl (entL S.tail) _ ?hg Try.underlying37 rfl (ent_size _) ?_; (case hg => exact xt))
      | (refine wpList_build_one (by rfl) 40 2 _ rfl (.agg (entC S.tail)) rfl (stC ⟨0, base0, S.tail, []⟩ none 0) (st_built_tail S.tail) ?_)
      | (refine wpList_build_four8 (by rfl) 61 0 1 2 3 _ _ _ _ rfl (.int .i64 1) (.int .u32 (n : Int)) (.slice (some ⟨w6.heap.size, 0, none⟩) 1 1) (.agg (stC ⟨0, base0, S.tail, []⟩ none 0)) rfl rfl rfl rfl (diffC ⟨1, n, [⟨40, z, o⟩], ⟨0, base0, S.tail, []⟩⟩ (some ⟨w6.heap.size, 0, none⟩) 1 none 0) (diff_built4 (some ⟨w6.heap.size, 0, none⟩) none 1 0 1 n [⟨40, z, o⟩] _) ?_)
      | fail)
    refine (apply_any S ⟨1, n, [⟨40, z, o⟩], ⟨0, base0, S.tail, []⟩⟩ ro (some ⟨w6.heap.size, 0, none⟩) none rc 1 0 _ hSo hd2 hS8 hS1 (Sl.nothing _ _)).mono ?_
    rintro e w8 ⟨yo, yc, rfl, hG⟩
    rw [he2.out]
    replace hX := hX.later hG.below
    replace hO := hO.later hG.below
    replace hS8 := hS8.later hG.below
    replace hb := hb.trans (hG.below.mono hb.size)
    clear hG xt hd2 he2 hS1 hw7
    generalize (applyM S ⟨1, n, [⟨40, z, o⟩], ⟨0, base0, S.tail, []⟩⟩).1 = B at *
    obtain ⟨w9, hw9, hB, hq⟩ := new_var w8 40 (stC st0 none 0) (stC B yo yc)
    replace hX := hX.later hq
    replace hS8 := hS8.later hq
    replace hb := hb.trans (hq.mono hb.size)
    clear hq
    obtain ⟨y, hy⟩ : ∃ y, n + 1 = y := ⟨_, rfl⟩
    have hy1 : y < 100 := by omega
    rw [hy] at hd3 he3 hd4 he4
    replace hy : Hid _ := hy
    go_wp2_with (first
      | (refine wpList_alloc_has (by rfl) 40 rfl (stC st0 none 0) st_zero ?_)
      | (refine wpList_store_to (by rfl) 40 _ _ rfl w8.heap.size rfl (stC B yo yc) rfl 40 (stC st0 none 0) (st_size _ _ _) (st_same _ _ _ _ _ _) (st_one _ _ _) ?hg w9 ?hW ?_; (case hg => exact Has.new _ _ _); (case hW => exact hw9); clear hw9; generalize w8.heap.size = gb at *)
      | (refine wpList_load_has (by rfl) 40 _ rfl (gs) rfl 40 (stC S ro rc) _ Try.underlying40 rfl (st_size _ _ _) ?hg ?_; (case hg => exact hX))
      | (refine wpList_val (.int .u32 (y : Int)) (by rfl) (run_add_u32 _ _ _ _ rfl n 1 y rfl rfl hy.out (by omega)) ?_)
      | (refine wpList_build_two (by rfl) 61 0 1 _ _ rfl (.int .i64 kind) (.int .u32 (y : Int)) rfl rfl (diffC ⟨kind, y, [], st0⟩ none 0 none 0) (diff_built_kf kind y) ?_)
      | fail)
    refine (apply_any S ⟨kind, y, [], st0⟩ ro none none rc 0 0 _ hSo hd3 hS8 (Sl.nothing _ _) (Sl.nothing _ _)).mono ?_
    rintro e w10 ⟨zo, zc, rfl, hG⟩
    rw [he3.out]
    replace hX := hX.later hG.below
    replace hS8 := hS8.later hG.below
    replace hb := hb.trans (hG.below.mono hb.size)
    clear hG hd3 he3
    generalize (applyM S ⟨kind, y, [], st0⟩).1 = C at *
    obtain ⟨w11, hw11, hC, hq⟩ := new_var w10 40 (stC st0 none 0) (stC C zo zc)
    replace hX := hX.later hq
    replace hS8 := hS8.later hq
    replace hb := hb.trans (hq.mono hb.size)
    clear hq
    go_wp2_with (first
      | (refine wpList_alloc_has (by rfl) 40 rfl (stC st0 none 0) st_zero ?_)
      | (refine wpList_store_to (by rfl) 40 _ _ rfl w10.heap.size rfl (stC C zo zc) rfl 40 (stC st0 none 0) (st_size _ _ _) (st_same _ _ _ _ _ _) (st_one _ _ _) ?hg w11 ?hW ?_; (case hg => exact Has.new _ _ _); (case hW => exact hw11); clear hw11; generalize w10.heap.size = gc at *)
      | (refine wpList_load_has (by rfl) 40 _ rfl (gs) rfl 40 (stC S ro rc) _ Try.underlying40 rfl (st_size _ _ _) ?hg ?_; (case hg => exact hX))
      | (refine wpList_val (.int .u32 (y : Int)) (by rfl) (run_add_u32 _ _ _ _ rfl n 1 y rfl rfl hy.out (by omega)) ?_)
      | (refine wpList_build_one (by rfl) 37 1 _ rfl (.int .u32 (y : Int)) rfl (entC ⟨0, y, op0⟩) (ent_built_n y) ?_)
      | (refine wpList_build_one (by rfl) 40 2 _ rfl (.agg (entC ⟨0, y, op0⟩)) rfl (stC ⟨0, base0, ⟨0, y, op0⟩, []⟩ none 0) (st_built_tail ⟨0, y, op0⟩) ?_)
      | (refine wpList_build_two (by rfl) 61 0 3 _ _ rfl (.int .i64 0) (.agg (stC ⟨0, base0, ⟨0, y, op0⟩, []⟩ none 0)) rfl rfl (diffC ⟨0, 0, [], ⟨0, base0, ⟨0, y, op0⟩, []⟩⟩ none 0 none 0) (diff_built_kw none 0 0 _) ?_)
      | fail)
    refine (apply_any S ⟨0, 0, [], ⟨0, base0, ⟨0, y, op0⟩, []⟩⟩ ro none none rc 0 0 _ hSo hd4 hS8 (Sl.nothing _ _) (Sl.nothing _ _)).mono ?_
    rintro e w12 ⟨uo, uc, rfl, hG⟩
    rw [he4.out]
    replace hX := hX.later hG.below
    replace hS8 := hS8.later hG.below
    replace hb := hb.trans (hG.below.mono hb.size)
    clear hG hd4 he4
    generalize (applyM S ⟨0, 0, [], ⟨0, base0, ⟨0, y, op0⟩, []⟩⟩).1 = D at *
    obtain ⟨w13, hw13, hD, hq⟩ := new_var w12 40 (stC st0 none 0) (stC D uo uc)
    replace hX := hX.later hq
    replace hb := hb.trans (hq.mono hb.size)
    clear hq
    have c41 := hX.st_tail_n
    generalize S.tail.n = t at *
    clear hz hy
    by_cases j1 : t ≤ fr
    · have j1I : (t : Int) ≤ (fr : Int) := by omega
      by_cases j2 : fr ≤ n
      · have j2I : (fr : Int) ≤ (n : Int) := by omega
        have hE1 : E1 = 0 := by rw [he1.out, if_pos ⟨j1, j2⟩]
        clear he1
        subst hE1
        go_wp2_with (first
          | (refine wpList_alloc_has (by rfl) 40 rfl (stC st0 none 0) st_zero ?_)
          | (refine wpList_store_to (by rfl) 40 _ _ rfl w12.heap.size rfl (stC D uo uc) rfl 40 (stC st0 none 0) (st_size _ _ _) (st_same _ _ _ _ _ _) (st_one _ _ _) ?hg w13 ?hW ?_; (case hg => exact Has.new _ _ _); (case hW => exact hw13); clear hw13; generalize w12.heap.size = gd at *)
          | fail)
        go_ret
        exact ⟨rfl, hb⟩
      · have j2I : ¬ (fr : Int) ≤ (n : Int) := by omega
        have j2D : decide ((fr : Int) ≤ (n : Int)) = false := by rw [decide_eq_false_iff_not]; omega
        have hE1 : E1 = 80 := by rw [he1.out, if_neg (fun h => j2 h.2)]
        clear he1
        subst hE1
        go_wp2_with (first
          | (refine wpList_alloc_has (by rfl) 40 rfl (stC st0 none 0) st_zero ?_)
          | (refine wpList_store_to (by rfl) 40 _ _ rfl w12.heap.size rfl (stC D uo uc) rfl 40 (stC st0 none 0) (st_size _ _ _) (st_same _ _ _ _ _ _) (st_one _ _ _) ?hg w13 ?hW ?_; (case hg => exact Has.new _ _ _); (case hW => exact hw13); clear hw13; generalize w12.heap.size = gd at *)
          | fail)
        go_ret
        exact ⟨rfl, hb⟩
    · have j1I : ¬ (t : Int) ≤ (fr : Int) := by omega
      have j1D : decide ((t : Int) ≤ (fr : Int)) = false := by rw [decide_eq_false_iff_not]; omega
      have hE1 : E1 = 80 := by rw [he1.out, if_neg (fun h => j1 h.1)]
      clear he1
      subst hE1
      go_wp2_with (first
        | (refine wpList_alloc_has (by rfl) 40 rfl (stC st0 none 0) st_zero ?_)
        | (refine wpList_store_to (by rfl) 40 _ _ rfl w12.heap.size rfl (stC D uo uc) rfl 40 (stC st0 none 0) (st_size _ _ _) (st_same _ _ _ _ _ _) (st_one _ _ _) ?hg w13 ?hW ?_; (case hg => exact Has.new _ _ _); (case hW => exact hw13); clear hw13; generalize w12.heap.size = gd at *)
        | fail)
      go_ret
      exact ⟨rfl, hb⟩
end Go.Proofs.Ytphlfepgaghhhaa
