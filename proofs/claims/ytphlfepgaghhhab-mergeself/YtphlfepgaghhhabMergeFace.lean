/- The contracts of merge's Extends and Bytes. -/
import Derived.Test.YtphlfepgaghhhabMergeTurn
import Derived.Test.YtphlfepgaghhhabMergeMake
namespace Go.Proofs.Ytphlfepgaghhhab
set_option linter.unusedSimpArgs false
set_option linter.unusedVariables false
set_option maxRecDepth 100000
open Go.RowKit

theorem extends_no {a b : StV} (h : isM a = false ∨ isM b = false) : extendsM a b = false := by
  unfold extendsM
  rcases h with h | h <;> rw [h] <;> simp
theorem extends_yes {a b : StV} (ha : isM a = true) (hb : isM b = true) : extendsM a b = (decide ((headE a).n ≤ (headE b).n) && (decide ((makeM a b).kind = 0) || (decide ((makeM a b).kind = 1) && decide ((makeM a b).fr = (headE a).n)))) := by
  unfold extendsM
  rw [ha, hb]
  simp

set_option maxHeartbeats 4000000 in
theorem extends_any (s t : StV) (ao bo : Option Addr) (c d : Nat) (w : World) (hs : StOk s) (ht : StOk t) (h : Sl w ao c 8 (entR s.log)) (h' : Sl w bo d 8 (entR t.log)) :
    Calls Try.prog 12 #[.agg (stC s ao c), .agg (stC t bo d)] w fun en w' => en = .returned (.bool (extendsM s t)) ∧ Below w.heap.size w w' := by
  obtain ⟨w1, hw1, hX, hY, hb⟩ := two_vars w 42 42 (stC s ao c) (stC t bo d)
  go_enter Try.func12, Try.ntmps12
  go_wp2_with (first
    | (refine wpList_load_has (by rfl) 42 _ rfl (w.heap.size) rfl 42 (stC s ao c) _ Try.underlying42 rfl (st_size _ _ _) ?hg ?_; (case hg => exact hX))
    | fail)
  refine (is_any s ao c _ hs (h.later hb)).mono ?_
  rintro en w2 ⟨rfl, hq⟩
  replace hX := hX.later hq
  replace hY := hY.later hq
  replace hb := hb.trans (hq.mono hb.size)
  clear hq hw1
  cases hi : isM s with
  | false =>
    have hM : Hid _ := extends_no (a := s) (b := t) (.inl hi)
    go_wp2
    go_ret
    exact ⟨by rw [hM.out]; rfl, hb⟩
  | true =>
  go_wp2_with (first
    | (refine wpList_load_has (by rfl) 42 _ rfl (w.heap.size + 1) rfl 42 (stC t bo d) _ Try.underlying42 rfl (st_size _ _ _) ?hg ?_; (case hg => exact hY))
    | fail)
  refine (is_any t bo d _ ht (h'.later hb)).mono ?_
  rintro en w3 ⟨rfl, hq⟩
  replace hX := hX.later hq
  replace hY := hY.later hq
  replace hb := hb.trans (hq.mono hb.size)
  clear hq
  cases hj : isM t with
  | false =>
    have hM : Hid _ := extends_no (a := s) (b := t) (.inr hj)
    go_wp2
    go_ret
    exact ⟨by rw [hM.out]; rfl, hb⟩
  | true =>
  have hM : Hid _ := extends_yes hi hj
  have hh1 : Hid _ := head_yes hi
  have hh2 : Hid _ := head_yes hj
  clear hi hj
  go_wp2_with (first
    | (refine wpList_load_has (by rfl) 42 _ rfl (w.heap.size) rfl 42 (stC s ao c) _ Try.underlying42 rfl (st_size _ _ _) ?hg ?_; (case hg => exact hX))
    | fail)
  refine (head_any s ao c _ hs (h.later hb)).mono ?_
  rintro en w4 ⟨rfl, hq⟩
  rw [hh1.out]
  replace hX := hX.later hq
  replace hY := hY.later hq
  replace hb := hb.trans (hq.mono hb.size)
  clear hq hh1
  go_wp2_with (first
    | (refine wpList_load_has (by rfl) 42 _ rfl (w.heap.size + 1) rfl 42 (stC t bo d) _ Try.underlying42 rfl (st_size _ _ _) ?hg ?_; (case hg => exact hY))
    | fail)
  refine (head_any t bo d _ ht (h'.later hb)).mono ?_
  rintro en w5 ⟨rfl, hq⟩
  rw [hh2.out]
  replace hX := hX.later hq
  replace hY := hY.later hq
  replace hb := hb.trans (hq.mono hb.size)
  clear hq hh2
  generalize (headE s).n = n at *
  generalize (headE t).n = m at *
  by_cases hnm : n ≤ m
  · have i1 : ¬ (m : Int) < (n : Int) := by omega
    have i2 : decide ((m : Int) < (n : Int)) = false := by rw [decide_eq_false_iff_not]; omega
    rw [decide_eq_true hnm, Bool.true_and] at hM
    clear hnm
    go_wp2_with (first
      | (refine wpList_load_has (by rfl) 42 _ rfl (w.heap.size) rfl 42 (stC s ao c) _ Try.underlying42 rfl (st_size _ _ _) ?hg ?_; (case hg => exact hX))
      | (refine wpList_load_has (by rfl) 42 _ rfl (w.heap.size + 1) rfl 42 (stC t bo d) _ Try.underlying42 rfl (st_size _ _ _) ?hg ?_; (case hg => exact hY))
      | fail)
    refine (make_any s t ao bo c d _ hs ht (h.later hb) (h'.later hb)).mono ?_
    rintro en w6 ⟨lo, lc, wo, wc, rfl, hG⟩
    have hdo := make_fit hs ht
    replace hb := hb.trans (hG.below.mono hb.size)
    clear hG hX hY
    generalize makeM s t = D at *
    obtain ⟨w7, hw7, hD, hq⟩ := new_var w6 48 (diffC diff0 none 0 none 0) (diffC D lo lc wo wc)
    replace hb := hb.trans (hq.mono hb.size)
    clear hq
    have k0 := hD.d_kind
    have k1 := hD.d_from
    by_cases q0 : D.kind = 0
    · have j0 : (D.kind == 0) = true := by rw [q0]; rfl
      rw [decide_eq_true q0, Bool.true_or] at hM
      clear q0
      go_wp2_with (first
        | (refine wpList_alloc_has (by rfl) 48 rfl (diffC diff0 none 0 none 0) diff_zero ?_)
        | (refine wpList_store_to (by rfl) 48 _ _ rfl w6.heap.size rfl (diffC D lo lc wo wc) rfl 48 (diffC diff0 none 0 none 0) (diff_size _ _ _ _ _) (diff_same _ _ _ _ _ _ _ _ _ _) (diff_one _ _ _ _ _) ?hg w7 ?hW ?_; (case hg => exact Has.new _ _ _); (case hW => exact hw7); clear hw7)
        | fail)
      go_ret
      exact ⟨by rw [hM.out]; rfl, hb⟩
    · have j0 : (D.kind == 0) = false := by rw [beq_eq_false_iff_ne]; exact q0
      rw [decide_eq_false q0, Bool.false_or] at hM
      clear q0
      by_cases q1 : D.kind = 1
      · have j1 : (D.kind == 1) = true := by rw [q1]; rfl
        rw [decide_eq_true q1, Bool.true_and] at hM
        clear q1
        by_cases q2 : D.fr = n
        · have e1 : ((D.fr : Int) == (n : Int)) = true := by rw [q2]; simp
          have e2 : (D.fr == n) = true := by rw [q2]; simp
          rw [decide_eq_true q2] at hM
          clear q2
          go_wp2_with (first
            | (refine wpList_alloc_has (by rfl) 48 rfl (diffC diff0 none 0 none 0) diff_zero ?_)
            | (refine wpList_store_to (by rfl) 48 _ _ rfl w6.heap.size rfl (diffC D lo lc wo wc) rfl 48 (diffC diff0 none 0 none 0) (diff_size _ _ _ _ _) (diff_same _ _ _ _ _ _ _ _ _ _) (diff_one _ _ _ _ _) ?hg w7 ?hW ?_; (case hg => exact Has.new _ _ _); (case hW => exact hw7); clear hw7)
            | fail)
          go_ret
          exact ⟨by rw [hM.out]; rfl, hb⟩
        · have e1 : ((D.fr : Int) == (n : Int)) = false := by rw [beq_eq_false_iff_ne]; omega
          have e2 : (D.fr == n) = false := by rw [beq_eq_false_iff_ne]; omega
          rw [decide_eq_false q2] at hM
          clear q2
          go_wp2_with (first
            | (refine wpList_alloc_has (by rfl) 48 rfl (diffC diff0 none 0 none 0) diff_zero ?_)
            | (refine wpList_store_to (by rfl) 48 _ _ rfl w6.heap.size rfl (diffC D lo lc wo wc) rfl 48 (diffC diff0 none 0 none 0) (diff_size _ _ _ _ _) (diff_same _ _ _ _ _ _ _ _ _ _) (diff_one _ _ _ _ _) ?hg w7 ?hW ?_; (case hg => exact Has.new _ _ _); (case hW => exact hw7); clear hw7)
            | fail)
          go_ret
          exact ⟨by rw [hM.out]; rfl, hb⟩
      · have j1 : (D.kind == 1) = false := by rw [beq_eq_false_iff_ne]; exact q1
        rw [decide_eq_false q1, Bool.false_and] at hM
        clear q1
        go_wp2_with (first
          | (refine wpList_alloc_has (by rfl) 48 rfl (diffC diff0 none 0 none 0) diff_zero ?_)
          | (refine wpList_store_to (by rfl) 48 _ _ rfl w6.heap.size rfl (diffC D lo lc wo wc) rfl 48 (diffC diff0 none 0 none 0) (diff_size _ _ _ _ _) (diff_same _ _ _ _ _ _ _ _ _ _) (diff_one _ _ _ _ _) ?hg w7 ?hW ?_; (case hg => exact Has.new _ _ _); (case hW => exact hw7); clear hw7)
          | fail)
        go_ret
        exact ⟨by rw [hM.out]; rfl, hb⟩
  · have i1 : (m : Int) < (n : Int) := by omega
    rw [decide_eq_false hnm, Bool.false_and] at hM
    clear hnm
    go_wp2
    go_ret
    exact ⟨by rw [hM.out]; rfl, hb⟩

theorem theres_le (b : BaseV) (n : Nat) : theres b n ≤ n := by
  induction n with
  | zero => exact Nat.le_refl _
  | succ n ih =>
    show theres b n + _ ≤ _
    split
    · split <;> omega
    · omega
theorem theres_step {b : BaseV} {n : Nat} (h : n < 6) : theres b (n + 1) = if (b.obj ⟨n, h⟩).there = true then theres b n + 1 else theres b n := by
  show theres b n + (if h : n < 6 then (if (b.obj ⟨n, h⟩).there = true then 1 else 0) else 0) = _
  rw [dif_pos h]
  split <;> omega

set_option maxHeartbeats 4000000 in
theorem bytes_any (d : DiffV) (lo wo : Option Addr) (lc wc : Nat) (w : World) (hd : DiffOk d) :
    Calls Try.prog 10 #[.agg (diffC d lo lc wo wc)] w fun en w' => en = .returned (.int .i64 (bytesM d : Int)) ∧ Below w.heap.size w w' := by
  obtain ⟨w1, hw1, hD, hb⟩ := one_var w 48 (diffC d lo lc wo wc)
  have l2 := hD.d_log
  have l51 := hD.d_wlog
  have ho := hD.d_objs
  have hM : Hid (bytesM d = d.log.length + d.whole.log.length + theres d.whole.base 6) := rfl
  have b1 := hd.len
  have b2 := hd.whole.len
  generalize d.log.length = p at *
  generalize d.whole.log.length = q at *
  obtain ⟨s, hs⟩ : ∃ s, p + q = s := ⟨_, rfl⟩
  have hs2 : s ≤ 2000 := by omega
  have hsI : (p : Int) + (q : Int) = (s : Int) := by omega
  rw [hs] at hM
  replace hs : Hid _ := hs
  go_enter Try.func10, Try.ntmps10
  go_wp2_with (first
    | (refine wpList_load_mid' (by rfl) 28 _ rfl w.heap.size 4 rfl (objsL d.whole.base.obj) _ ?hg Try.underlying28 rfl (objs_size _) ?_; (case hg => exact ho)))
  clear l2 l51 ho hw1 hsI
  generalize d.whole.base = B at *
  go_loopw [3, 18] (fun v i wr => ∃ n : Nat, n ≤ 6 ∧ i = .int .i64 n ∧ v = .int .i64 ((s + theres B n : Nat) : Int) ∧ Below w.heap.size w wr) (fun _ i _ => 6 - (intOf i).toNat)
  case atStart => exact ⟨0, by decide, rfl, by first | rfl | (show _ = Value.int .i64 ((s + 0 : Nat) : Int); rw [Nat.add_zero]), hb⟩
  case round =>
    clear hD hb
    obtain ⟨n, hn, rfl, rfl, hb⟩ := hrel
    by_cases hlt : n < 6
    · have hltI : (n : Int) < 6 := by omega
      have hext : Hid _ := objs_at_n B.obj ⟨n, hlt⟩
      have hnext : Hid _ := theres_step (b := B) hlt
      have hle := theres_le B n
      generalize B.obj ⟨n, hlt⟩ = y at *
      generalize theres B n = u at *
      obtain ⟨w3, hw3, hY, hq⟩ := new_var wr 27 (objC obj0) (objC y)
      replace hb := hb.trans (hq.mono hb.size)
      clear hq
      have t0 : w3.cell? ⟨wr.heap.size, 0, none⟩ = some (.bool y.there) := (hY.cell 0).trans rfl
      cases hth : y.there with
      | false =>
        rw [hth] at t0 hnext
        rw [if_neg (by simp)] at hnext
        go_wp2_with (first
          | (refine wpList_index_row (by rfl) 28 _ _ rfl n (objsL B.obj).toArray rfl rfl 27 6 5 _ Try.underlying28 ?hn Try.underlying27 rfl obj_size5 ?_; (case hn => exact hlt); rw [hext.out])
          | (refine wpList_alloc_has (by rfl) 27 rfl (objC obj0) obj_zero ?_)
          | (refine wpList_store_to (by rfl) 27 _ _ rfl wr.heap.size rfl (objC y) rfl 27 (objC obj0) (obj_size _) rfl (obj_one _) ?hg w3 ?hW ?_; (case hg => exact Has.new _ _ _); (case hW => exact hw3); clear hw3))
        go_roundw
        case rel => exact ⟨n + 1, by omega, by go_num, by rw [hnext.out]; first | rfl | go_num, hb⟩
        case measure => simp [intOf]; omega
      | true =>
        rw [hth] at t0 hnext
        rw [if_pos rfl] at hnext
        go_wp2_with (first
          | (refine wpList_index_row (by rfl) 28 _ _ rfl n (objsL B.obj).toArray rfl rfl 27 6 5 _ Try.underlying28 ?hn Try.underlying27 rfl obj_size5 ?_; (case hn => exact hlt); rw [hext.out])
          | (refine wpList_alloc_has (by rfl) 27 rfl (objC obj0) obj_zero ?_)
          | (refine wpList_store_to (by rfl) 27 _ _ rfl wr.heap.size rfl (objC y) rfl 27 (objC obj0) (obj_size _) rfl (obj_one _) ?hg w3 ?hW ?_; (case hg => exact Has.new _ _ _); (case hW => exact hw3); clear hw3))
        go_roundw
        case rel => exact ⟨n + 1, by omega, by go_num, by rw [hnext.out]; go_num, hb⟩
        case measure => simp [intOf]; omega
    · have e5 : n = 6 := by omega
      subst e5
      go_wp2
      go_ret
      exact ⟨by rw [hM.out]; rfl, hb⟩
end Go.Proofs.Ytphlfepgaghhhab
