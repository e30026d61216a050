/- The contracts of merge's through, shared, ended, rewritten. -/
import Derived.Test.YtphlfepgaghhhabMergeSmall
namespace Go.Proofs.Ytphlfepgaghhhab
set_option linter.unusedSimpArgs false
set_option linter.unusedVariables false
set_option maxRecDepth 100000
open Go.RowKit

theorem through_parts (s t : StV) : throughM s t = ((same tEnt t.tail s.tail || hasPosM s t.tail) && ((uptoM s t.tail.n).2 && same tBase (uptoM s t.tail.n).1 t.base)) := rfl

set_option maxHeartbeats 4000000 in
theorem through_any (s t : StV) (ao bo : Option Addr) (c d : Nat) (w : World) (hs : StOk s) (ht : StOk t) (h : Sl w ao c 8 (entR s.log)) :
    Calls Try.prog 20 #[.agg (stC s ao c), .agg (stC t bo d)] w fun en w' => en = .returned (.bool (throughM s t)) ∧ Below w.heap.size w w' := by
  obtain ⟨w1, hw1, hX, hY, hb⟩ := two_vars w 42 42 (stC s ao c) (stC t bo d)
  have hM : Hid _ := through_parts s t
  have xt := hX.st_tail
  have yt := hY.st_tail
  have heq := fun W => neqv_ent t.tail s.tail ht.tail hs.tail W
  cases hq0 : same tEnt t.tail s.tail with
  | true =>
    rw [hq0] at hM heq
    have y1 := hY.st_tail_n
    go_enter Try.func20, Try.ntmps20
    go_wp2_with (first
      | (refine wpList_load_mid' (by rfl) 39 _ rfl (w.heap.size + 1) (40) rfl (entL t.tail) _ ?hg Try.underlying39 rfl (ent_size _) ?_; (case hg => exact yt))
      | (refine wpList_load_mid' (by rfl) 39 _ rfl (w.heap.size) (40) rfl (entL s.tail) _ ?hg Try.underlying39 rfl (ent_size _) ?_; (case hg => exact xt))
      | (refine wpList_bin_agg (by rfl) .neq 39 _ _ _ rfl (entC t.tail) (entC s.tail) rfl rfl (.bool (!true)) guard_ent ?hg ?_; (case hg => exact heq _))
      | (refine wpList_load_has (by rfl) 42 _ rfl (w.heap.size) rfl 42 (stC s ao c) _ Try.underlying42 rfl (st_size _ _ _) ?hg ?_; (case hg => exact hX))
      | fail)
    clear heq xt yt hq0
    refine (upto_any s ao c t.tail.n _ hs (h.later hb) ht.tail.n).mono ?_
    rintro en wu ⟨rfl, hq⟩
    have hbo := (upto_fit hs t.tail.n).in'
    replace hY := hY.later hq
    replace hb := hb.trans (hq.mono hb.size)
    clear hq hX y1
    generalize (uptoM s t.tail.n).1 = B at *
    generalize (uptoM s t.tail.n).2 = k at *
    obtain ⟨wv, hwv, hB, hq⟩ := new_var wu 35 (baseC base0) (baseC B)
    replace hY := hY.later hq
    replace hb := hb.trans (hq.mono hb.size)
    clear hq
    have yb := hY.st_base
    have heq2 := fun W => eqv_base B t.base hbo ht.base W
    cases k with
    | false =>
      go_wp2_with (first
        | (refine wpList_alloc_has (by rfl) 35 rfl (baseC base0) base_zero ?_)
        | (refine wpList_store_to (by rfl) 35 _ _ rfl wu.heap.size rfl (baseC B) rfl 35 (baseC base0) (base_size _) rfl (base_one _) ?hg wv ?hW ?_; (case hg => exact Has.new _ _ _); (case hW => exact hwv); clear hwv)
        | fail)
      go_ret
      exact ⟨by rw [hM.out]; rfl, hb⟩
    | true =>
      go_wp2_with (first
        | (refine wpList_alloc_has (by rfl) 35 rfl (baseC base0) base_zero ?_)
        | (refine wpList_store_to (by rfl) 35 _ _ rfl wu.heap.size rfl (baseC B) rfl 35 (baseC base0) (base_size _) rfl (base_one _) ?hg wv ?hW ?_; (case hg => exact Has.new _ _ _); (case hW => exact hwv); clear hwv)
        | (refine wpList_load_has (by rfl) 35 _ rfl (wu.heap.size) rfl 35 (baseC (B)) _ Try.underlying35 rfl (base_size _) ?hg ?_; (case hg => exact hB))
        | (refine wpList_load_mid' (by rfl) 35 _ rfl (w.heap.size + 1) (1) rfl (baseL t.base) _ ?hg Try.underlying35 rfl (base_size _) ?_; (case hg => exact yb))
        | (refine wpList_bin_agg (by rfl) .eql 35 _ _ _ rfl (baseC B) (baseC t.base) rfl rfl (.bool (same tBase B t.base)) guard_base ?hg ?_; (case hg => exact heq2 _)))
      go_ret
      exact ⟨by rw [hM.out]; rfl, hb⟩
  | false =>
    rw [hq0] at hM heq
    go_enter Try.func20, Try.ntmps20
    go_wp2_with (first
      | (refine wpList_load_mid' (by rfl) 39 _ rfl (w.heap.size + 1) (40) rfl (entL t.tail) _ ?hg Try.underlying39 rfl (ent_size _) ?_; (case hg => exact yt))
      | (refine wpList_load_mid' (by rfl) 39 _ rfl (w.heap.size) (40) rfl (entL s.tail) _ ?hg Try.underlying39 rfl (ent_size _) ?_; (case hg => exact xt))
      | (refine wpList_bin_agg (by rfl) .neq 39 _ _ _ rfl (entC t.tail) (entC s.tail) rfl rfl (.bool (!false)) guard_ent ?hg ?_; (case hg => exact heq _))
      | (refine wpList_load_has (by rfl) 42 _ rfl (w.heap.size) rfl 42 (stC s ao c) _ Try.underlying42 rfl (st_size _ _ _) ?hg ?_; (case hg => exact hX))
      | fail)
    refine (hasPos_any s t.tail ao c _ hs ht.tail (h.later hb)).mono ?_
    rintro en w2 ⟨rfl, hq⟩
    replace hX := hX.later hq
    replace hY := hY.later hq
    replace hb := hb.trans (hq.mono hb.size)
    clear hq heq xt yt hq0 hw1
    generalize hasPosM s t.tail = p at *
    cases p with
    | false =>
      go_wp2
      go_ret
      exact ⟨by rw [hM.out]; rfl, hb⟩
    | true =>
      have y1 := hY.st_tail_n
      go_wp2_with (first
        | (refine wpList_load_has (by rfl) 42 _ rfl (w.heap.size) rfl 42 (stC s ao c) _ Try.underlying42 rfl (st_size _ _ _) ?hg ?_; (case hg => exact hX))
        | fail)
      refine (upto_any s ao c t.tail.n _ hs (h.later hb) ht.tail.n).mono ?_
      rintro en wu ⟨rfl, hq⟩
      have hbo := (upto_fit hs t.tail.n).in'
      replace hY := hY.later hq
      replace hb := hb.trans (hq.mono hb.size)
      clear hq hX y1
      generalize (uptoM s t.tail.n).1 = B at *
      generalize (uptoM s t.tail.n).2 = k at *
      obtain ⟨wv, hwv, hB, hq⟩ := new_var wu 35 (baseC base0) (baseC B)
      replace hY := hY.later hq
      replace hb := hb.trans (hq.mono hb.size)
      clear hq
      have yb := hY.st_base
      have heq2 := fun W => eqv_base B t.base hbo ht.base W
      cases k with
      | false =>
        go_wp2_with (first
          | (refine wpList_alloc_has (by rfl) 35 rfl (baseC base0) base_zero ?_)
          | (refine wpList_store_to (by rfl) 35 _ _ rfl wu.heap.size rfl (baseC B) rfl 35 (baseC base0) (base_size _) rfl (base_one _) ?hg wv ?hW ?_; (case hg => exact Has.new _ _ _); (case hW => exact hwv); clear hwv)
          | fail)
        go_ret
        exact ⟨by rw [hM.out]; rfl, hb⟩
      | true =>
        go_wp2_with (first
          | (refine wpList_alloc_has (by rfl) 35 rfl (baseC base0) base_zero ?_)
          | (refine wpList_store_to (by rfl) 35 _ _ rfl wu.heap.size rfl (baseC B) rfl 35 (baseC base0) (base_size _) rfl (base_one _) ?hg wv ?hW ?_; (case hg => exact Has.new _ _ _); (case hW => exact hwv); clear hwv)
          | (refine wpList_load_has (by rfl) 35 _ rfl (wu.heap.size) rfl 35 (baseC (B)) _ Try.underlying35 rfl (base_size _) ?hg ?_; (case hg => exact hB))
          | (refine wpList_load_mid' (by rfl) 35 _ rfl (w.heap.size + 1) (1) rfl (baseL t.base) _ ?hg Try.underlying35 rfl (base_size _) ?_; (case hg => exact yb))
          | (refine wpList_bin_agg (by rfl) .eql 35 _ _ _ rfl (baseC B) (baseC t.base) rfl rfl (.bool (same tBase B t.base)) guard_base ?hg ?_; (case hg => exact heq2 _)))
        go_ret
        exact ⟨by rw [hM.out]; rfl, hb⟩

theorem shared_step {a : StV} {l : List EntV} {n : Nat} (h : n < l.length) (hn : sharedN a l = n + sharedN a (l.drop n)) : sharedN a l = if hasEnt a l[n] = true then n + 1 + sharedN a (l.drop (n + 1)) else n := by
  rw [List.drop_eq_getElem_cons h] at hn
  rw [hn]
  show n + (if hasEnt a l[n] = true then _ else _) = _
  split <;> omega

set_option maxHeartbeats 4000000 in
theorem shared_any (s t : StV) (ao bo : Option Addr) (c d : Nat) (w : World) (hs : StOk s) (ht : StOk t) (h : Sl w ao c 8 (entR s.log)) (h' : Sl w bo d 8 (entR t.log)) :
    Calls Try.prog 21 #[.agg (stC s ao c), .agg (stC t bo d)] w fun en w' => en = .returned (.int .i64 (sharedN s t.log : Int)) ∧ Below w.heap.size w w' := by
  obtain ⟨w1, hw1, hX, hY, hb⟩ := two_vars w 42 42 (stC s ao c) (stC t bo d)
  have yl := hY.st_log
  have hle := h'.ent_le
  have hcap := h'.cap
  have hlen := ht.len
  go_enter Try.func21, Try.ntmps21
  go_wp2
  clear yl hw1
  go_loopw [12] (fun i wr => ∃ n : Nat, n ≤ t.log.length ∧ i = .int .i64 n ∧ Has wr w.heap.size 42 (stC s ao c) ∧ Has wr (w.heap.size + 1) 42 (stC t bo d) ∧ Below w.heap.size w wr ∧ sharedN s t.log = n + sharedN s (t.log.drop n)) (fun i _ => t.log.length - (intOf i).toNat)
  case atStart => exact ⟨0, Nat.zero_le _, rfl, hX, hY, hb, by rw [List.drop_zero, Nat.zero_add]⟩
  case round =>
    clear hX hY hb
    obtain ⟨n, hn, rfl, hX, hY, hb, hc⟩ := hrel
    by_cases hlt : n < t.log.length
    · cases bo with
      | none => have := h'.nil rfl; omega
      | some bd =>
        have hx := ent_at (h'.later hb) n hlt
        have hxo := ht.log t.log[n] (List.getElem_mem hlt)
        have hnext : Hid _ := shared_step hlt hc
        clear hc
        have hltI : (n : Int) < (t.log.length : Int) := by omega
        generalize t.log[n] = x at *
        obtain ⟨w3, hw3, hE, hq⟩ := new_var wr 39 (entC ent0) (entC x)
        replace hX := hX.later hq
        replace hY := hY.later hq
        replace hb := hb.trans (hq.mono hb.size)
        clear hq
        have e1 := hE.ent_n
        go_wp2_with (first
          | (refine wpList_load_any (by rfl) 39 _ rfl _ rfl (entL x) _ ?hg Try.underlying39 rfl (ent_size x) ?_; (case hg => exact hx))
          | (refine wpList_alloc_has (by rfl) 39 rfl (entC ent0) ent_zero ?_)
          | (refine wpList_store_to (by rfl) 39 _ _ rfl wr.heap.size rfl (entC (x)) rfl 39 (entC ent0) (ent_size _) rfl (ent_one _) ?hg w3 ?hW ?_; (case hg => exact Has.new _ _ _); (case hW => exact hw3); clear hw3)
          | (refine wpList_load_has (by rfl) 42 _ rfl (w.heap.size) rfl 42 (stC s ao c) _ Try.underlying42 rfl (st_size _ _ _) ?hg ?_; (case hg => exact hX))
          | fail)
        refine (find_any s ao c x.n _ hs (h.later hb) hxo.n).mono ?_
        rintro en w4 ⟨rfl, hq⟩
        replace hX := hX.later hq
        replace hY := hY.later hq
        replace hE := hE.later hq
        replace hb := hb.trans (hq.mono hb.size)
        have hfo := find_fit hs x.n
        have hH : Hid (hasEnt s x = ((findM s x.n).2 && same tEnt (findM s x.n).1 x)) := rfl
        rw [hH.out] at hnext
        clear hq e1 hx hH
        generalize (findM s x.n).1 = y at *
        generalize (findM s x.n).2 = b at *
        obtain ⟨w5, hw5, hF, hq⟩ := new_var w4 39 (entC ent0) (entC y)
        replace hX := hX.later hq
        replace hY := hY.later hq
        replace hE := hE.later hq
        replace hb := hb.trans (hq.mono hb.size)
        clear hq
        have heq := fun W => neqv_ent y x hfo hxo W
        cases b with
        | false =>
          rw [Bool.false_and, if_neg (by simp)] at hnext
          go_wp2_with (first
            | (refine wpList_alloc_has (by rfl) 39 rfl (entC ent0) ent_zero ?_)
            | (refine wpList_store_to (by rfl) 39 _ _ rfl w4.heap.size rfl (entC (y)) rfl 39 (entC ent0) (ent_size _) rfl (ent_one _) ?hg w5 ?hW ?_; (case hg => exact Has.new _ _ _); (case hW => exact hw5); clear hw5)
            | fail)
          go_ret
          exact ⟨by rw [hnext.out]; rfl, hb⟩
        | true =>
          rw [Bool.true_and] at hnext
          cases hsm : same tEnt y x with
          | false =>
            rw [hsm] at hnext heq
            rw [if_neg (by simp)] at hnext
            go_wp2_with (first
              | (refine wpList_alloc_has (by rfl) 39 rfl (entC ent0) ent_zero ?_)
              | (refine wpList_store_to (by rfl) 39 _ _ rfl w4.heap.size rfl (entC (y)) rfl 39 (entC ent0) (ent_size _) rfl (ent_one _) ?hg w5 ?hW ?_; (case hg => exact Has.new _ _ _); (case hW => exact hw5); clear hw5)
              | (refine wpList_load_has (by rfl) 39 _ rfl (w4.heap.size) rfl 39 (entC (y)) _ Try.underlying39 rfl (ent_size _) ?hg ?_; (case hg => exact hF))
              | (refine wpList_load_has (by rfl) 39 _ rfl (wr.heap.size) rfl 39 (entC (x)) _ Try.underlying39 rfl (ent_size _) ?hg ?_; (case hg => exact hE))
              | (refine wpList_bin_agg (by rfl) .neq 39 _ _ _ rfl (entC y) (entC x) rfl rfl (.bool (!false)) guard_ent ?hg ?_; (case hg => exact heq _)))
            go_ret
            exact ⟨by rw [hnext.out]; rfl, hb⟩
          | true =>
            rw [hsm] at hnext heq
            rw [if_pos rfl] at hnext
            go_wp2_with (first
              | (refine wpList_alloc_has (by rfl) 39 rfl (entC ent0) ent_zero ?_)
              | (refine wpList_store_to (by rfl) 39 _ _ rfl w4.heap.size rfl (entC (y)) rfl 39 (entC ent0) (ent_size _) rfl (ent_one _) ?hg w5 ?hW ?_; (case hg => exact Has.new _ _ _); (case hW => exact hw5); clear hw5)
              | (refine wpList_load_has (by rfl) 39 _ rfl (w4.heap.size) rfl 39 (entC (y)) _ Try.underlying39 rfl (ent_size _) ?hg ?_; (case hg => exact hF))
              | (refine wpList_load_has (by rfl) 39 _ rfl (wr.heap.size) rfl 39 (entC (x)) _ Try.underlying39 rfl (ent_size _) ?hg ?_; (case hg => exact hE))
              | (refine wpList_bin_agg (by rfl) .neq 39 _ _ _ rfl (entC y) (entC x) rfl rfl (.bool (!true)) guard_ent ?hg ?_; (case hg => exact heq _)))
            go_roundw
            case rel => exact ⟨n + 1, by omega, by go_num, hX, hY, hb, hnext.out⟩
            case measure => simp [intOf]; omega
    · have e5 : n = t.log.length := by omega
      subst e5
      rw [List.drop_length] at hc
      replace hc : Hid (sharedN s t.log = t.log.length + 0) := hc
      have yl := hY.st_log
      go_wp2
      go_ret
      exact ⟨by rw [hc.out]; rfl, hb⟩

theorem rew_step (s : StV) (fr : Nat) (l : List EntV) (n : Nat) (h : n < l.length) : rewM s fr (l.take (n + 1)) = addTo (rewM s fr (l.take n)) l[n] := by
  unfold rewM
  rw [List.take_succ_eq_append_getElem h, List.foldl_append]
  rfl
theorem addTo_stop (l : List EntV) (p : StV × Nat) (h : p.2 ≠ 0) : l.foldl addTo p = p := by
  induction l with
  | nil => rfl
  | cons x l ih =>
    show l.foldl addTo (addTo p x) = p
    have : addTo p x = p := by unfold addTo; rw [if_neg h]
    rw [this, ih]
theorem rew_stop (s : StV) (fr : Nat) (l : List EntV) (n : Nat) (h : (rewM s fr (l.take n)).2 ≠ 0) : rewM s fr l = rewM s fr (l.take n) := by
  have e : rewM s fr l = (l.drop n).foldl addTo (rewM s fr (l.take n)) := by
    unfold rewM
    rw [← List.foldl_append, List.take_append_drop]
  rw [e, addTo_stop _ _ h]

set_option maxHeartbeats 4000000 in
theorem rewritten_any (s : StV) (ao bo : Option Addr) (c d fr : Nat) (l : List EntV) (w : World) (hs : StOk s) (h : Sl w ao c 8 (entR s.log)) (hfr : fr < 4294967296) (h' : Sl w bo d 8 (entR l)) (hl : ∀ e ∈ l, EntOk e) (hn : l.length ≤ 1000) :
    Calls Try.prog 33 #[.agg (stC s ao c), .int .u32 (fr : Int), .slice bo l.length d] w fun en w' => ∃ ro rc, en = .returned (.tuple #[.agg (stC (rewM s fr l).1 ro rc), .bool (decide ((rewM s fr l).2 = 0))]) ∧ Gives w w' (rewM s fr l).1 ro rc := by
  obtain ⟨w1, hw1, hX, hR, hb⟩ := two_vars w 42 42 (stC s ao c) (stC st0 none 0)
  have hle := h'.ent_le
  have hcap := h'.cap
  go_enter Try.func33, Try.ntmps33
  go_wp2_with (first
    | (refine wpList_alloc_has (by rfl) 42 rfl (stC st0 none 0) st_zero ?_; rw [hw1])
    | (refine wpList_load_has (by rfl) 42 _ rfl (w.heap.size) rfl 42 (stC s ao c) _ Try.underlying42 rfl (st_size _ _ _) ?hg ?_; (case hg => exact hX))
    | fail)
  refine (cut_any s ao c fr _ hs (h.later hb) hfr).mono ?_
  rintro en w2 ⟨ro, rc, rfl, hG⟩
  have hlt0 := hR.lt
  have h0 : Hid (rewM s fr (l.take 0) = cutM s fr) := by show _ = _; rw [List.take_zero]; rfl
  have hS0 := hG.sl
  have hnew : ∀ d, ro = some d → w.heap.size + 1 < d.block := fun d hd => by have := hG.new d hd; omega
  replace hX := hX.later hG.below
  replace hR := hR.later hG.below
  replace hb := hb.trans (hG.below.mono hb.size)
  have hX3 := hX.row (stC (cutM s fr).1 ro rc)
  have hR3 := hR.row_other (k := w.heap.size) (by omega) (stC (cutM s fr).1 ro rc)
  have hS3 := hS0.row_other (k := w.heap.size) (fun d hd => by have := hnew d hd; omega) (stC (cutM s fr).1 ro rc)
  have hb3 := below_setRow hb (Nat.le_refl _) (stC (cutM s fr).1 ro rc)
  rw [← h0.out] at hX3 hS3 hR3 hb3
  rw [← h0.out]
  clear hG hS0 hR hb h0
  go_wp2_with (first
    | (refine wpList_store_has (by rfl) 42 _ _ rfl (w.heap.size) rfl (stC (rewM s fr (l.take 0)).1 ro rc) rfl 42 (stC s ao c) (st_size _ _ _) (st_same _ _ _ _ _ _) (st_one _ _ _) ?hg ?_; (case hg => exact hX))
    | fail)
  clear hX
  go_loopw [8, 19] (fun e i wr => ∃ (n : Nat) (ro : Option Addr) (rc : Nat), n ≤ l.length ∧ i = .int .i64 n ∧ e = .int .i64 ((rewM s fr (l.take n)).2 : Int) ∧ Has wr w.heap.size 42 (stC (rewM s fr (l.take n)).1 ro rc) ∧ Has wr (w.heap.size + 1) 42 (stC st0 none 0) ∧ Sl wr ro rc 8 (entR (rewM s fr (l.take n)).1.log) ∧ (∀ d, ro = some d → w.heap.size + 1 < d.block) ∧ Below w.heap.size w wr) (fun _ i _ => l.length - (intOf i).toNat)
  case atStart => exact ⟨0, ro, rc, Nat.zero_le _, rfl, rfl, hX3, hR3, hS3, hnew, hb3⟩
  case round =>
    clear hX3 hR3 hS3 hnew hb3
    obtain ⟨n, ro, rc, hn, rfl, rfl, hX, hR, hS8, hap, hb⟩ := hrel
    by_cases hlt : n < l.length
    · cases bo with
      | none => have := h'.nil rfl; omega
      | some bd =>
        have hx := ent_at (h'.later hb) n hlt
        have hxo := hl l[n] (List.getElem_mem hlt)
        have hnext : Hid _ := rew_step s fr l n hlt
        have hstop : Hid _ := rew_stop s fr l n
        have hPo := rew_fit hs fr (l := l.take n) (fun e he => hl e (List.mem_of_mem_take he))
        have hltI : (n : Int) < (l.length : Int) := by omega
        generalize l[n] = x at *
        generalize rewM s fr (l.take n) = P at *
        obtain ⟨w3, hw3, hE, hq⟩ := new_var wr 39 (entC ent0) (entC x)
        replace hX := hX.later hq
        replace hR := hR.later hq
        replace hS8 := hS8.later hq
        replace hb := hb.trans (hq.mono hb.size)
        clear hq
        by_cases hp : P.2 = 0
        · have hpI : ((P.2 : Int) != 0) = false := by rw [hp]; rfl
          have hadd : Hid (addTo P x = addM P.1 x) := by show _ = _; unfold addTo; rw [if_pos hp]
          rw [hadd.out] at hnext
          replace hp : Hid _ := hp
          clear hstop hadd
          go_wp2_with (first
            | (refine wpList_load_any (by rfl) 39 _ rfl _ rfl (entL x) _ ?hg Try.underlying39 rfl (ent_size x) ?_; (case hg => exact hx))
            | (refine wpList_alloc_has (by rfl) 39 rfl (entC ent0) ent_zero ?_)
            | (refine wpList_store_to (by rfl) 39 _ _ rfl wr.heap.size rfl (entC (x)) rfl 39 (entC ent0) (ent_size _) rfl (ent_one _) ?hg w3 ?hW ?_; (case hg => exact Has.new _ _ _); (case hW => exact hw3); clear hw3)
            | (refine wpList_load_has (by rfl) 42 _ rfl (w.heap.size) rfl 42 (stC P.1 ro rc) _ Try.underlying42 rfl (st_size _ _ _) ?hg ?_; (case hg => exact hX))
            | (refine wpList_load_has (by rfl) 39 _ rfl (wr.heap.size) rfl 39 (entC (x)) _ Try.underlying39 rfl (ent_size _) ?hg ?_; (case hg => exact hE))
            | fail)
          refine (add_any P.1 ro rc x _ hPo hxo hS8).mono ?_
          rintro en w4 ⟨so, sc, rfl, hG⟩
          have hlt0 := hR.lt
          have hS4 := hG.sl
          have hnew : ∀ d, so = some d → w.heap.size + 1 < d.block := fun d hd => by have := hG.new d hd; omega
          replace hX := hX.later hG.below
          replace hR := hR.later hG.below
          replace hb := hb.trans (hG.below.mono hb.size)
          rw [← hnext.out] at hS4
          rw [← hnext.out]
          clear hG hS8 hap hx hE hnext
          have hX5 := hX.row (stC (rewM s fr (l.take (n + 1))).1 so sc)
          have hR5 := hR.row_other (k := w.heap.size) (by omega) (stC (rewM s fr (l.take (n + 1))).1 so sc)
          have hS5 := hS4.row_other (k := w.heap.size) (fun d hd => by have := hnew d hd; omega) (stC (rewM s fr (l.take (n + 1))).1 so sc)
          have hb5 := below_setRow hb (Nat.le_refl _) (stC (rewM s fr (l.take (n + 1))).1 so sc)
          go_wp2_with (first
            | (refine wpList_store_has (by rfl) 42 _ _ rfl (w.heap.size) rfl (stC (rewM s fr (l.take (n + 1))).1 so sc) rfl 42 (stC P.1 ro rc) (st_size _ _ _) (st_same _ _ _ _ _ _) (st_one _ _ _) ?hg ?_; (case hg => exact hX))
            | fail)
          go_roundw
          case rel => exact ⟨n + 1, so, sc, by omega, by go_num, rfl, hX5, hR5, hS5, hnew, hb5⟩
          case measure => simp [intOf]; omega
        · have hpI : ((P.2 : Int) != 0) = true := by rw [bne_iff_ne]; omega
          have hpD : ((P.2 : Int) == 0) = false := by rw [beq_eq_false_iff_ne]; omega
          have hpN : (P.2 == 0) = false := by rw [beq_eq_false_iff_ne]; omega
          have hF : Hid _ := hstop.out hp
          have hdec : Hid (decide (P.2 = 0) = false) := decide_eq_false hp
          clear hp hstop hnext
          have hz := hR.row (stC P.1 ro rc)
          have hlt := hR.lt
          have hsl := hS8.row_other (k := w.heap.size + 1) (fun d hd => by have := hap d hd; omega) (stC P.1 ro rc)
          have hbz := below_setRow hb (show w.heap.size ≤ w.heap.size + 1 by omega) (stC P.1 ro rc)
          have hgn : ∀ d, ro = some d → w.heap.size ≤ d.block := fun d hd => by have := hap d hd; omega
          go_wp2_with (first
            | (refine wpList_load_any (by rfl) 39 _ rfl _ rfl (entL x) _ ?hg Try.underlying39 rfl (ent_size x) ?_; (case hg => exact hx))
            | (refine wpList_alloc_has (by rfl) 39 rfl (entC ent0) ent_zero ?_)
            | (refine wpList_store_to (by rfl) 39 _ _ rfl wr.heap.size rfl (entC (x)) rfl 39 (entC ent0) (ent_size _) rfl (ent_one _) ?hg w3 ?hW ?_; (case hg => exact Has.new _ _ _); (case hW => exact hw3); clear hw3)
            | (refine wpList_load_has (by rfl) 42 _ rfl (w.heap.size) rfl 42 (stC P.1 ro rc) _ Try.underlying42 rfl (st_size _ _ _) ?hg ?_; (case hg => exact hX))
            | (refine wpList_store_has (by rfl) 42 _ _ rfl (w.heap.size + 1) rfl (stC P.1 ro rc) rfl 42 (stC st0 none 0) (st_size _ _ _) (st_same _ _ _ _ _ _) (st_one _ _ _) ?hg ?_; (case hg => exact hR))
            | fail)
          refine ret_has_tmp rfl (w.heap.size + 1) rfl 42 (stC P.1 ro rc) _ Try.underlying42 rfl (st_size _ _ _) hz rfl ⟨ro, rc, ?_, ?_⟩
          · rw [hF.out, hdec.out]; rfl
          · rw [hF.out]; exact ⟨hsl, hgn, hbz⟩
    · have e5 : n = l.length := by omega
      subst e5
      rw [List.take_length] at hX hS8
      rw [List.take_length]
      obtain ⟨P, hP⟩ : ∃ P, rewM s fr l = P := ⟨_, rfl⟩
      rw [hP] at hX hS8
      rw [hP]
      replace hP : Hid _ := hP
      by_cases hp : P.2 = 0
      · have hpI : ((P.2 : Int) == 0) = true := by rw [hp]; rfl
        have hpN : (P.2 == 0) = true := by rw [hp]; rfl
        have hdec : Hid (decide (P.2 = 0) = true) := decide_eq_true hp
        clear hp
        have hz := hR.row (stC P.1 ro rc)
        have hlt := hR.lt
        have hsl := hS8.row_other (k := w.heap.size + 1) (fun d hd => by have := hap d hd; omega) (stC P.1 ro rc)
        have hbz := below_setRow hb (show w.heap.size ≤ w.heap.size + 1 by omega) (stC P.1 ro rc)
        have hgn : ∀ d, ro = some d → w.heap.size ≤ d.block := fun d hd => by have := hap d hd; omega
        go_wp2_with (first
          | fail
          | (refine wpList_load_has (by rfl) 42 _ rfl (w.heap.size) rfl 42 (stC P.1 ro rc) _ Try.underlying42 rfl (st_size _ _ _) ?hg ?_; (case hg => exact hX))
          | (refine wpList_store_has (by rfl) 42 _ _ rfl (w.heap.size + 1) rfl (stC P.1 ro rc) rfl 42 (stC st0 none 0) (st_size _ _ _) (st_same _ _ _ _ _ _) (st_one _ _ _) ?hg ?_; (case hg => exact hR))
          | fail)
        refine ret_has_tmp rfl (w.heap.size + 1) rfl 42 (stC P.1 ro rc) _ Try.underlying42 rfl (st_size _ _ _) hz rfl ⟨ro, rc, ?_, ?_⟩
        · rw [hP.out, hdec.out]; rfl
        · rw [hP.out]; exact ⟨hsl, hgn, hbz⟩
      · have hpI : ((P.2 : Int) == 0) = false := by rw [beq_eq_false_iff_ne]; omega
        have hpN : (P.2 == 0) = false := by rw [beq_eq_false_iff_ne]; omega
        have hdec : Hid (decide (P.2 = 0) = false) := decide_eq_false hp
        clear hp
        have hz := hR.row (stC P.1 ro rc)
        have hlt := hR.lt
        have hsl := hS8.row_other (k := w.heap.size + 1) (fun d hd => by have := hap d hd; omega) (stC P.1 ro rc)
        have hbz := below_setRow hb (show w.heap.size ≤ w.heap.size + 1 by omega) (stC P.1 ro rc)
        have hgn : ∀ d, ro = some d → w.heap.size ≤ d.block := fun d hd => by have := hap d hd; omega
        go_wp2_with (first
          | fail
          | (refine wpList_load_has (by rfl) 42 _ rfl (w.heap.size) rfl 42 (stC P.1 ro rc) _ Try.underlying42 rfl (st_size _ _ _) ?hg ?_; (case hg => exact hX))
          | (refine wpList_store_has (by rfl) 42 _ _ rfl (w.heap.size + 1) rfl (stC P.1 ro rc) rfl 42 (stC st0 none 0) (st_size _ _ _) (st_same _ _ _ _ _ _) (st_one _ _ _) ?hg ?_; (case hg => exact hR))
          | fail)
        refine ret_has_tmp rfl (w.heap.size + 1) rfl 42 (stC P.1 ro rc) _ Try.underlying42 rfl (st_size _ _ _) hz rfl ⟨ro, rc, ?_, ?_⟩
        · rw [hP.out, hdec.out]; rfl
        · rw [hP.out]; exact ⟨hsl, hgn, hbz⟩
end Go.Proofs.Ytphlfepgaghhhab
