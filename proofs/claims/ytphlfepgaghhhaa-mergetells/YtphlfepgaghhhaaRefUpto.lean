/- The contract of the document's Upto. -/
import Derived.Test.YtphlfepgaghhhaaRefHead
import Derived.Test.YtphlfepgaghhhaaRefDo
namespace Go.Proofs.Ytphlfepgaghhhaa
set_option linter.unusedSimpArgs false
set_option linter.unusedVariables false
set_option maxRecDepth 100000
open Go.RowKit

theorem chain_at {t : EntV} {l : List EntV} (hc : chainM t l = true) (i : Nat) (h : i < l.length) : l[i].n = t.n + i + 1 := by
  have h1 : chainM t (l.take (i + 1)) = true := by
    cases h2 : chainM t (l.take (i + 1)) with
    | true => rfl
    | false => rw [chain_no t l (i + 1) h2] at hc; cases hc
  have h3 := chain_n t _ h1
  rw [List.take_succ_eq_append_getElem h, lastE_snoc, List.length_append, List.length_take] at h3
  simp [posE] at h3
  omega

/-- What is read in the world of its turn. -/
theorem plan_now {ops : Array Oper} {Q : Exit → Act → World → Prop} {S : World → Prop} {i : Nat} {p : Plan} {a : Act} {w : World} (o : Oper) (v : Value) (ho : nth ops.toList i = some o) (hw : Region.wanted o (yielded ops a.tmps) = true)
    (hy : YieldsIf Try.prog ops (fun W => W = w) o v a) (hS : S w) (h : wpPlan Try.prog ops Q S p (a.put o.dst v) w) : wpPlan Try.prog ops Q S (Plan.run i p) a w := by
  refine plan_run o ho fun K hK => ?_
  rw [if_pos hw]
  obtain ⟨_, f⟩ | ⟨f, _⟩ := hy
  · unfold Oper.wp
    rw [f w rfl]
    exact hK.out _ _ hS h
  · rw [hw] at f; cases f

theorem at_open {P : Program} {ops : Array Oper} {rest : List Oper} {d : Option Tmp} {op : Op} {t : TypeId} {p : String} {af : Array Edge} {a : Act} {w : World} {Q : Exit → Act → World → Prop} (h : wpList P ops Q (⟨d, op, t, p, af, none⟩ :: rest) a w) : wpList P ops Q (⟨d, op, t, p, af, none⟩ :: rest) a w := h
theorem add_two (A : Addr) (j : Nat) : A.add (j + 2) = ⟨A.block, A.off + (j + 2), none⟩ := by unfold Addr.add; rw [if_neg (by omega)]
theorem ent_op_at {w : World} {ad : Addr} {c : Nat} {l : List EntV} (h : Sl w (some ad) c 8 (entR l)) (i : Nat) (hi : i < l.length) : ∀ j v, (opL l[i].op)[j]? = some v → w.cell? ((⟨(ad.add (i * 8)).block, (ad.add (i * 8)).off + 2, none⟩ : Addr).add j) = some v := fun j v hj => by
  have := ent_at h i hi (j + 2) v hj
  rw [add_two] at this
  rw [Addr.add_mid, Nat.add_assoc, Nat.add_comm 2 j]
  exact this

set_option maxHeartbeats 4000000 in
theorem refupto_any (s : StV) (ao : Option Addr) (c n : Nat) (w : World) (hs : StOk s) (h : Sl w ao c 8 (entR s.log)) (hn : n < 4294967296) :
    Calls Try.prog 22 #[.agg (stC s ao c), .int .u32 (n : Int)] w fun en w' => en = .returned (.tuple #[.agg (baseC (uptoM s n).1), .bool (uptoM s n).2]) ∧ Below w.heap.size w w' := by
  obtain ⟨w1, hw1, hX, hR, hb⟩ := two_vars w 40 33 (stC s ao c) (baseC base0)
  have hlen := hs.len
  have hle := h.ent_le
  have hcap := h.cap
  go_enter Try.func22, Try.ntmps22
  go_wp2_with (first
    | (refine wpList_alloc_has (by rfl) 33 rfl (baseC base0) base_zero ?_; rw [hw1])
    | (refine wpList_load_has (by rfl) 40 _ rfl w.heap.size rfl 40 (stC s ao c) _ Try.underlying40 rfl (st_size _ _ _) ?hg ?_; (case hg => exact hX)))
  refine (refhead_any s ao c _ hs (h.later hb)).mono ?_
  rintro en w2 ⟨rfl, hq⟩
  replace hX := hX.later hq
  replace hR := hR.later hq
  replace hb := hb.trans (hq.mono hb.size)
  clear hq hw1
  go_wp2_with (first
    | (refine wpList_load_has (by rfl) 40 _ rfl w.heap.size rfl 40 (stC s ao c) _ Try.underlying40 rfl (st_size _ _ _) ?hg ?_; (case hg => exact hX)))
  refine (refis_any s ao c _ hs (h.later hb)).mono ?_
  rintro en w3 ⟨rfl, hq⟩
  replace hX := hX.later hq
  replace hR := hR.later hq
  replace hb := hb.trans (hq.mono hb.size)
  clear hq
  have hz := hR.row (baseC base0)
  have hbz := below_setRow hb (show w.heap.size ≤ w.heap.size + 1 by omega) (baseC base0)
  cases hi : isM s with
  | false =>
    have hM : Hid _ := upto_no (s := s) (n := n) (by rw [reach_form hi]; decide)
    generalize (headM s).1 = q1 at *
    generalize (headM s).2 = q at *
    go_wp2_with (first
      | (refine wpList_build_has (by rfl) 33 #[] rfl (baseC base0) (by simpa using base_built) ?_)
      | (refine wpList_store_has (by rfl) 33 _ _ rfl (w.heap.size + 1) rfl (baseC base0) rfl 33 (baseC base0) (base_size _) rfl (base_one _) ?hg ?_; (case hg => exact hR)))
    exact ret_has_tmp rfl (w.heap.size + 1) rfl 33 (baseC base0) _ Try.underlying33 rfl (base_size _) hz rfl ⟨by rw [hM.out]; rfl, hbz⟩
  | true =>
    have hq : (headM s).2 = (headE s).n := by rw [head_yes hi]
    have hch : chainM s.tail s.log = true := ((is_is s).1 hi).2.2.2.2
    have hcn : (headE s).n = s.tail.n + s.log.length := chain_n _ _ hch
    have hat := fun i h => chain_at hch i h
    have hB0 := hs.isBase hi
    have c41 := hX.st_tail_n
    have d2 := hs.tail.n
    generalize (headM s).1 = q1 at *
    generalize hqq : (headM s).2 = q at *
    by_cases h1 : n < s.tail.n
    · have hM : Hid _ := upto_no (s := s) (n := n) (by rw [reach_below hi h1]; decide)
      have h1I : (n : Int) < (s.tail.n : Int) := by omega
      clear hqq hq hat hcn
      go_wp2_with (first
        | (refine wpList_build_has (by rfl) 33 #[] rfl (baseC base0) (by simpa using base_built) ?_)
        | (refine wpList_store_has (by rfl) 33 _ _ rfl (w.heap.size + 1) rfl (baseC base0) rfl 33 (baseC base0) (base_size _) rfl (base_one _) ?hg ?_; (case hg => exact hR)))
      exact ret_has_tmp rfl (w.heap.size + 1) rfl 33 (baseC base0) _ Try.underlying33 rfl (base_size _) hz rfl ⟨by rw [hM.out]; rfl, hbz⟩
    · have h1I : ¬ (n : Int) < (s.tail.n : Int) := by omega
      by_cases h2 : q < n
      · have hM : Hid _ := upto_no (s := s) (n := n) (by rw [reach_above hi h1 (by omega)]; decide)
        have h2I : (q : Int) < (n : Int) := by omega
        clear hqq hq hat hcn
        go_wp2_with (first
          | (refine wpList_build_has (by rfl) 33 #[] rfl (baseC base0) (by simpa using base_built) ?_)
          | (refine wpList_store_has (by rfl) 33 _ _ rfl (w.heap.size + 1) rfl (baseC base0) rfl 33 (baseC base0) (base_size _) rfl (base_one _) ?hg ?_; (case hg => exact hR)))
        exact ret_has_tmp rfl (w.heap.size + 1) rfl 33 (baseC base0) _ Try.underlying33 rfl (base_size _) hz rfl ⟨by rw [hM.out]; rfl, hbz⟩
      · have h2I : ¬ (q : Int) < (n : Int) := by omega
        have hre : reachM s n = (n - s.tail.n, 0) := reach_in hi h1 (by omega)
        have hM : Hid _ := upto_yes (s := s) (n := n) (by rw [hre])
        rw [hre] at hM
        obtain ⟨k, hk, hk2⟩ : ∃ k, n - s.tail.n = k ∧ n = s.tail.n + k := ⟨_, rfl, by omega⟩
        rw [hk] at hM
        have hkl : k ≤ s.log.length := by omega
        replace hat : Hid _ := hat
        replace hk2 : Hid _ := hk2
        clear hqq hq hcn hre hk hz hbz h1 h2
        have hbs := hX.st_base
        obtain ⟨w4, hw4, hB, hq⟩ := new_var w3 33 (baseC base0) (baseC s.base)
        have hsz := hb.size
        have hg1 : w.heap.size + 1 < w3.heap.size := by
          have := hR.lt
          omega
        replace hX := hX.later hq
        replace hR := hR.later hq
        replace hb := hb.trans (hq.mono hb.size)
        clear hq hsz
        go_wp2_with (first
          | (refine wpList_load_mid' (by rfl) 33 _ rfl w.heap.size 1 rfl (baseL s.base) _ ?hg Try.underlying33 rfl (base_size _) ?_; (case hg => exact hbs))
          | (refine wpList_alloc_has (by rfl) 33 rfl (baseC base0) base_zero ?_)
          | (refine wpList_store_to (by rfl) 33 _ _ rfl w3.heap.size rfl (baseC s.base) rfl 33 (baseC base0) (base_size _) rfl (base_one _) ?hg w4 ?hW ?_; (case hg => exact Has.new _ _ _); (case hW => exact hw4); clear hw4))
        clear c41 hbs
        have hbo := fun m => done_in hB0 (s.log.take m) (fun e he => hs.log e (List.mem_of_mem_take he))
        replace hbo : Hid _ := hbo
        generalize w3.heap.size = gb at *
        go_loopw [9] (fun i wr => ∃ m : Nat, m ≤ k ∧ i = .int .i64 m ∧ Has wr w.heap.size 40 (stC s ao c) ∧ Has wr (w.heap.size + 1) 33 (baseC base0) ∧ Has wr gb 33 (baseC (doneM s.base (s.log.take m))) ∧ Below w.heap.size w wr) (fun i _ => s.log.length - (intOf i).toNat)
        case atStart => exact ⟨0, Nat.zero_le _, rfl, hX, hR, hB, hb⟩
        case round =>
          clear hX hR hB hb
          obtain ⟨m, hmk, rfl, hX, hR, hB, hb⟩ := hrel
          have c48 := hX.st_log
          by_cases hlt : m < s.log.length
          · cases ao with
            | none => have := h.nil rfl; omega
            | some ad =>
              have hx := ent_at (h.later hb) m hlt
              have hxo := hs.log s.log[m] (List.getElem_mem hlt)
              have hxn := hat.out m hlt
              have hnext : Hid _ := done_take s.base s.log m hlt
              have hlI : (m : Int) < (s.log.length : Int) := by omega
              have hbm := hbo.out m
              have hkn := hk2.out
              by_cases hmk2 : m < k
              · have hcI : (s.log[m].n : Int) ≤ (n : Int) := by omega
                clear hxn hkn
                have hcell := fun W (hW : Below w.heap.size w W) => ent_op_at (h.later hW) m hlt
                have cn := hx 1 _ rfl
                replace cn : wr.cell? ⟨(ad.add (m * 8)).block, (ad.add (m * 8)).off + 1, none⟩ = some (.int .u32 (s.log[m].n : Int)) := cn
                have hxn2 := hxo.n
                clear hx
                generalize s.log[m] = x at *
                generalize hBB : doneM s.base (s.log.take m) = B at *
                clear hBB
                go_wp2
                refine wp_region_plan (fun W => Has W w.heap.size 40 (stC s (some ad) c) ∧ Below w.heap.size w W) (Plan.of [(1, true), (2, true), (3, true), (4, true), (5, true), (6, true), (0, false), (7, false), (8, true), (9, true), (10, true), (11, false)] .done) (by kernel_rfl) (by kernel_rfl) (by kernel_rfl) (by kernel_rfl) ⟨hX.drew, hb.drew⟩ ?_
                iterate 1
                  first
                    | (refine plan_pass _ rfl (by rfl) ?_)
                    | (refine plan_take _ _ rfl (.inl ⟨by rfl, fun W hS => by clear hS; go_simp; try with_reducible rfl⟩) ?_)
                  try simp only [Act.put, List.setIfInBounds_toArray, List.set_cons_zero, List.set_cons_succ]
                iterate 1
                  first
                    | (refine plan_pass _ rfl (by rfl) ?_)
                    | (refine plan_take _ _ rfl (.inl ⟨by rfl, fun W hS => by have z0 := hS.1.st_log; go_simp; try with_reducible rfl⟩) ?_)
                  try simp only [Act.put, List.setIfInBounds_toArray, List.set_cons_zero, List.set_cons_succ]
                iterate 3
                  first
                    | (refine plan_pass _ rfl (by rfl) ?_)
                    | (refine plan_take _ _ rfl (.inl ⟨by rfl, fun W hS => by clear hS; go_simp; try with_reducible rfl⟩) ?_)
                  try simp only [Act.put, List.setIfInBounds_toArray, List.set_cons_zero, List.set_cons_succ]
                refine plan_take _ _ rfl (.inl ⟨by rfl, fun W hS => run_load_any 35 _ rfl _ rfl (opL x.op) _ (hcell W hS.2) Try.underlying35 rfl (op_size _)⟩) ?_
                try simp only [Act.put, List.setIfInBounds_toArray, List.set_cons_zero, List.set_cons_succ]
                refine plan_now _ _ rfl (by rfl) (yields_load_has (by rfl) 33 _ rfl gb rfl 33 (baseC B) _ Try.underlying33 rfl (base_size _) (fun W e => e ▸ hB.drew)) ⟨hX.drew, hb.drew⟩ ?_
                try simp only [Act.put, List.setIfInBounds_toArray, List.set_cons_zero, List.set_cons_succ]
                refine plan_run _ rfl (fun K hK => ?_)
                go_simp
                refine (refdo_any B x.op _ hbm hxo.op).mono ?_
                rintro en w5 ⟨rfl, hq⟩
                have hX5 := hX.drew.later hq
                have hR5 := hR.drew.later hq
                have hB5 := hB.drew.later hq
                have hb5 := hb.drew.trans (hq.mono hb.drew.size)
                refine hK.out _ _ ⟨hX5, hb5⟩ ?_
                clear hK K hq hX hR hB hb hcell c48 cn
                generalize (doM B x.op).1 = C at *
                generalize (doM B x.op).2 = r at *
                try simp only [Act.put, List.setIfInBounds_toArray, List.set_cons_zero, List.set_cons_succ]
                iterate 3
                  first
                    | (refine plan_pass _ rfl (by rfl) ?_)
                    | (refine plan_take _ _ rfl (.inl ⟨by rfl, fun W hS => by clear hS; go_simp; try with_reducible rfl⟩) ?_)
                  try simp only [Act.put, List.setIfInBounds_toArray, List.set_cons_zero, List.set_cons_succ]
                have hX6 := hX5.row_other (k := gb) (by omega) (baseC C)
                have hR6 := hR5.row_other (k := gb) (by omega) (baseC C)
                have hb6 := below_setRow hb5 (show w.heap.size ≤ gb by omega) (baseC C)
                have hB6 := hB5.row (baseC C)
                refine plan_store_has _ rfl (by rfl) 33 _ _ rfl gb rfl (baseC C) rfl 33 (baseC B) (base_size _) rfl (base_one _) hB5 ⟨hX6, hb6⟩ ?_
                try simp only [Act.put, List.setIfInBounds_toArray, List.set_cons_zero, List.set_cons_succ]
                refine plan_done ?_
                go_wp2
                go_roundw
                case rel => exact ⟨m + 1, by omega, by go_num, hX6, hR6, by rw [hnext.out]; exact hB6, hb6⟩
                case measure => simp [intOf]; omega
              · have hcI : ¬ (s.log[m].n : Int) ≤ (n : Int) := by omega
                have cn := hx 1 _ rfl
                replace cn : wr.cell? ⟨(ad.add (m * 8)).block, (ad.add (m * 8)).off + 1, none⟩ = some (.int .u32 (s.log[m].n : Int)) := cn
                have hxn2 := hxo.n
                clear hx hxn hnext hbm hkn
                generalize s.log[m] = x at *
                obtain rfl : m = k := by omega
                have hM2 : Hid _ := hM
                generalize doneM s.base (s.log.take m) = B at *
                have hz := hR.row (baseC B)
                have hbz := below_setRow hb (show w.heap.size ≤ w.heap.size + 1 by omega) (baseC B)
                go_wp2_with ((with_reducible refine at_open ?_); first
                  | (refine wpList_load_has (by rfl) 33 _ rfl gb rfl 33 (baseC B) _ Try.underlying33 rfl (base_size _) ?hg ?_; (case hg => exact hB))
                  | (refine wpList_store_has (by rfl) 33 _ _ rfl (w.heap.size + 1) rfl (baseC B) rfl 33 (baseC base0) (base_size _) rfl (base_one _) ?hg ?_; (case hg => exact hR)))
                exact ret_has_tmp rfl (w.heap.size + 1) rfl 33 (baseC B) _ Try.underlying33 rfl (base_size _) hz rfl ⟨by rw [hM.out]; rfl, hbz⟩
          · have hlI : ¬ (m : Int) < (s.log.length : Int) := by omega
            obtain rfl : m = k := by omega
            have hM2 : Hid _ := hM
            generalize doneM s.base (s.log.take m) = B at *
            have hz := hR.row (baseC B)
            have hbz := below_setRow hb (show w.heap.size ≤ w.heap.size + 1 by omega) (baseC B)
            go_wp2_with ((with_reducible refine at_open ?_); first
              | (refine wpList_load_has (by rfl) 33 _ rfl gb rfl 33 (baseC B) _ Try.underlying33 rfl (base_size _) ?hg ?_; (case hg => exact hB))
              | (refine wpList_store_has (by rfl) 33 _ _ rfl (w.heap.size + 1) rfl (baseC B) rfl 33 (baseC base0) (base_size _) rfl (base_one _) ?hg ?_; (case hg => exact hR)))
            exact ret_has_tmp rfl (w.heap.size + 1) rfl 33 (baseC B) _ Try.underlying33 rfl (base_size _) hz rfl ⟨by rw [hM.out]; rfl, hbz⟩
end Go.Proofs.Ytphlfepgaghhhaa
