/- Ref8Small, Ref8Shared, Ref8Mem, joined. -/
import Derived.Test.YtphlfepgaghhhaaMergeDone
import Derived.Test.YtphlfepgaghhhaaRefSame
import Derived.Test.YtphlfepgaghhhaaRefUpto
namespace Go.Proofs.Ytphlfepgaghhhaa
set_option linter.unusedSimpArgs false
set_option linter.unusedVariables false
set_option maxRecDepth 100000
open Go.RowKit

theorem objs_there (f : Fin 6 → ObjV) (i : Fin 6) : (objsL f)[i.val * 5]? = some (.bool (f i).there) := by
  match i with
  | 0 => rfl
  | 1 => rfl
  | 2 => rfl
  | 3 => rfl
  | 4 => rfl
  | 5 => rfl

set_option maxHeartbeats 4000000 in
theorem refbytes_any (d : DiffV) (lo wo : Option Addr) (lc wc : Nat) (w : World) (hd : DiffOk d) :
    Calls Try.prog 39 #[.agg (diffC d lo lc wo wc)] w fun en w' => en = .returned (.int .i64 (bytesM d : Int)) ∧ Below w.heap.size w w' := by
  obtain ⟨w1, hw1, hD, hb⟩ := one_var w 61 (diffC d lo lc wo wc)
  have l2 := hD.d_log
  have l51 := hD.d_wlog
  have ho := hD.d_objs
  have hM : Hid (bytesM d = d.log.length + d.whole.log.length + theres d.whole.base 6) := rfl
  have b1 := hd.len
  have b2 := hd.whole.len
  generalize d.log.length = p at *
  generalize d.whole.log.length = q at *
  obtain ⟨s, hs⟩ : ∃ s, p + q = s := ⟨_, rfl⟩
  have hs2 : s ≤ 2000 := by omega
  have hsI : (p : Int) + (q : Int) = (s : Int) := by omega
  rw [hs] at hM
  replace hs : Hid _ := hs
  go_enter Try.func39, Try.ntmps39
  go_wp2
  clear l2 l51 hw1 hsI
  generalize d.whole.base = B at *
  go_loopw [3, 4] (fun v i wr => ∃ n : Nat, n ≤ 6 ∧ i = .int .i64 n ∧ v = .int .i64 ((s + theres B n : Nat) : Int) ∧ wr = w1) (fun _ i _ => 6 - (intOf i).toNat)
  case atStart => exact ⟨0, by decide, rfl, by first | rfl | (show _ = Value.int .i64 ((s + 0 : Nat) : Int); rw [Nat.add_zero]), rfl⟩
  case round =>
    obtain ⟨n, hn, rfl, rfl, hwr⟩ := hrel
    subst hwr
    by_cases hlt : n < 6
    · have hltI : (n : Int) < 6 := by omega
      have t0 : wr.cell? ⟨w.heap.size, 4 + n * 5, none⟩ = some (.bool (B.obj ⟨n, hlt⟩).there) := ho (n * 5) _ (objs_there B.obj ⟨n, hlt⟩)
      have hnext : Hid _ := theres_step (b := B) hlt
      have hle := theres_le B n
      generalize B.obj ⟨n, hlt⟩ = y at *
      generalize theres B n = u at *
      cases hth : y.there with
      | false =>
        rw [hth] at t0 hnext
        rw [if_neg (by simp)] at hnext
        go_wp2
        go_roundw
        case rel => exact ⟨n + 1, by omega, by go_num, (by first | (rw [hnext.out]; done) | (rw [hnext.out]; go_num)), (by first | trivial | rfl)⟩
        case measure => simp [intOf]; omega
      | true =>
        rw [hth] at t0 hnext
        rw [if_pos rfl] at hnext
        go_wp2
        go_roundw
        case rel => exact ⟨n + 1, by omega, by go_num, (by first | (rw [hnext.out]; done) | (rw [hnext.out]; go_num)), (by first | trivial | rfl)⟩
        case measure => simp [intOf]; omega
    · have e5 : n = 6 := by omega
      subst e5
      go_wp2
      go_ret
      exact ⟨by rw [hM.out]; rfl, hb⟩

set_option maxHeartbeats 4000000 in
theorem lawsame_any (x : DiffV) (lo wo mo vo : Option Addr) (lc wc mc vc : Nat) (w : World) (hd : DiffOk x) (h1 : Sl w lo lc 8 (entR x.log)) (h2 : Sl w wo wc 8 (entR x.whole.log)) (h3 : Sl w mo mc 8 (entR x.log)) (h4 : Sl w vo vc 8 (entR x.whole.log)) :
    Calls Try.prog 35 #[.agg (diffC x lo lc wo wc), .agg (diffC x mo mc vo vc)] w fun en w' => en = .returned (.bool true) ∧ Below w.heap.size w w' := by
  obtain ⟨w1, hw1, hX, hY, hb⟩ := two_vars w 61 61 (diffC x lo lc wo wc) (diffC x mo mc vo vc)
  have a0 := hX.d_kind
  have a1 := hX.d_from
  have a2 := hX.d_log
  have aw := hX.d_whole
  have b0 := hY.d_kind
  have b1 := hY.d_from
  have b2 := hY.d_log
  have bw := hY.d_whole
  have hle := h1.ent_le
  have hcap := h1.cap
  go_enter Try.func35, Try.ntmps35
  go_wp2_with (first
    | (refine wpList_load_mid' (by rfl) 40 _ rfl (w.heap.size) (3) rfl (stL x.whole wo wc) _ ?hg Try.underlying40 rfl (st_size _ _ _) ?_; (case hg => exact aw))
    | (refine wpList_load_mid' (by rfl) 40 _ rfl (w.heap.size + 1) (3) rfl (stL x.whole vo vc) _ ?hg Try.underlying40 rfl (st_size _ _ _) ?_; (case hg => exact bw))
    | fail)
  refine (refsame_any x.whole x.whole wo vo wc vc _ hd.whole hd.whole (h2.later hb) (h4.later hb)).mono ?_
  rintro en w2 ⟨rfl, hq⟩
  rw [same_self]
  replace hX := hX.later hq
  replace hY := hY.later hq
  replace hb := hb.trans (hq.mono hb.size)
  clear hq a0 a1 a2 aw b0 b1 b2 bw hw1
  go_wp2_with fail
  go_loopw [5] (fun i wr => ∃ n : Nat, n ≤ x.log.length ∧ i = .int .i64 n ∧ Has wr w.heap.size 61 (diffC x lo lc wo wc) ∧ Has wr (w.heap.size + 1) 61 (diffC x mo mc vo vc) ∧ Below w.heap.size w wr) (fun i _ => x.log.length - (intOf i).toNat)
  case atStart => exact ⟨0, Nat.zero_le _, rfl, hX, hY, hb⟩
  case round =>
    clear hX hY hb
    obtain ⟨n, hn, rfl, hX, hY, hb⟩ := hrel
    have a2 := hX.d_log
    by_cases hlt : n < x.log.length
    · cases lo with
      | none => have := h1.nil rfl; omega
      | some ad =>
      cases mo with
      | none => have := h3.nil rfl; have := h3.ent_le; omega
      | some bd =>
        have hx := fun W (hW : Below wr.heap.size wr W) => ent_at (h1.later (hb.trans (hW.mono hb.size))) n hlt
        have hy := fun W (hW : Below wr.heap.size wr W) => ent_at (h3.later (hb.trans (hW.mono hb.size))) n hlt
        have hxo := hd.log x.log[n] (List.getElem_mem hlt)
        have hltI : (n : Int) < (x.log.length : Int) := by omega
        generalize x.log[n] = e at *
        have heq := fun W => neqv_ent e e hxo hxo W
        rw [same_self] at heq
        have hbA : Below wr.heap.size wr wr.drew := (Below.refl _ _).drew
        go_wp2
        refine wp_region_plan (fun W => Below wr.heap.size wr W) (Plan.of [(0, true), (1, true), (2, true), (3, true), (4, true), (5, true), (6, true), (7, true), (8, true), (9, true), (10, true)] .done) (by kernel_rfl) (by kernel_rfl) (by kernel_rfl) (by kernel_rfl) hbA ?_
        iterate 1
          first
            | (refine plan_pass _ rfl (by rfl) ?_)
            | (refine plan_take _ _ rfl (.inl ⟨by rfl, fun W hS => by clear hS; go_simp; try with_reducible rfl⟩) ?_)
          try simp only [Act.put, List.setIfInBounds_toArray, List.set_cons_zero, List.set_cons_succ]
        iterate 1
          first
            | (refine plan_pass _ rfl (by rfl) ?_)
            | (refine plan_take _ _ rfl (.inl ⟨by rfl, fun W hS => by have z0 := (hX.later hS).d_log; go_simp; try with_reducible rfl⟩) ?_)
          try simp only [Act.put, List.setIfInBounds_toArray, List.set_cons_zero, List.set_cons_succ]
        iterate 2
          first
            | (refine plan_pass _ rfl (by rfl) ?_)
            | (refine plan_take _ _ rfl (.inl ⟨by rfl, fun W hS => by clear hS; go_simp; try with_reducible rfl⟩) ?_)
          try simp only [Act.put, List.setIfInBounds_toArray, List.set_cons_zero, List.set_cons_succ]
        refine plan_take _ _ rfl (.inl ⟨by rfl, fun W hW => run_load_any 37 _ rfl _ rfl (entL e) _ (hx W hW) Try.underlying37 rfl (ent_size e)⟩) ?_
        try simp only [Act.put, List.setIfInBounds_toArray, List.set_cons_zero, List.set_cons_succ]
        iterate 1
          first
            | (refine plan_pass _ rfl (by rfl) ?_)
            | (refine plan_take _ _ rfl (.inl ⟨by rfl, fun W hS => by clear hS; go_simp; try with_reducible rfl⟩) ?_)
          try simp only [Act.put, List.setIfInBounds_toArray, List.set_cons_zero, List.set_cons_succ]
        iterate 1
          first
            | (refine plan_pass _ rfl (by rfl) ?_)
            | (refine plan_take _ _ rfl (.inl ⟨by rfl, fun W hS => by have z0 := (hY.later hS).d_log; go_simp; try with_reducible rfl⟩) ?_)
          try simp only [Act.put, List.setIfInBounds_toArray, List.set_cons_zero, List.set_cons_succ]
        iterate 2
          first
            | (refine plan_pass _ rfl (by rfl) ?_)
            | (refine plan_take _ _ rfl (.inl ⟨by rfl, fun W hS => by clear hS; go_simp; try with_reducible rfl⟩) ?_)
          try simp only [Act.put, List.setIfInBounds_toArray, List.set_cons_zero, List.set_cons_succ]
        refine plan_take _ _ rfl (.inl ⟨by rfl, fun W hW => run_load_any 37 _ rfl _ rfl (entL e) _ (hy W hW) Try.underlying37 rfl (ent_size e)⟩) ?_
        try simp only [Act.put, List.setIfInBounds_toArray, List.set_cons_zero, List.set_cons_succ]
        refine plan_take _ _ rfl (yields_bin_agg (by rfl) .neq 37 _ _ _ rfl (entC e) (entC e) rfl rfl (.bool (!true)) guard_ent heq) ?_
        try simp only [Act.put, List.setIfInBounds_toArray, List.set_cons_zero, List.set_cons_succ]
        refine plan_done ?_
        replace hX := hX.later hbA
        replace hY := hY.later hbA
        replace hb := hb.trans (hbA.mono hb.size)
        clear hx hy heq hbA a2
        go_wp2
        go_roundw
        case rel => exact ⟨n + 1, by omega, by go_num, hX, hY, hb⟩
        case measure => simp [intOf]; omega
    · have e5 : n = x.log.length := by omega
      subst e5
      go_wp2
      go_ret
      exact ⟨rfl, hb⟩


/-- Whether one of the first n entries is at that place. -/
def posIn (l : List EntV) (p : EntV) (n : Nat) : Bool := (l.take n).any (fun e => decide (e.since = p.since) && decide (e.n = p.n))
theorem posIn_step {l : List EntV} {p : EntV} {n : Nat} (h : n < l.length) : posIn l p (n + 1) = (posIn l p n || (decide (l[n].since = p.since) && decide (l[n].n = p.n))) := by
  unfold posIn
  rw [List.take_succ_eq_append_getElem h, List.any_append]
  simp
theorem posIn_is {s t : StV} (hs : isM s = true) (ht : isM t = true) : posIn s.log t.tail s.log.length = hasPosM s t.tail := by
  have hop := ((isTail_is t.tail).1 ((is_is t).1 ht).2.1).2
  have hch := ((is_is s).1 hs).2.2.2.2
  rw [Bool.eq_iff_iff]
  unfold posIn hasPosM
  rw [List.take_length, List.any_eq_true, Bool.and_eq_true, same_is]
  constructor
  · rintro ⟨e, he, hq⟩
    rw [Bool.and_eq_true, decide_eq_true_iff, decide_eq_true_iff] at hq
    obtain ⟨k, hk, rfl⟩ := List.getElem_of_mem he
    have hn := chain_nth hch k hk
    have hf := findM_ok hs hk
    rw [← hn, hq.2] at hf
    rw [hf]
    refine ⟨rfl, ?_⟩
    have e : ∀ p x : EntV, p.op = op0 → x.since = p.since → x.n = p.n → p = posE x := fun p x h0 h1 h2 => by
      obtain ⟨a, b, o⟩ := p
      have h0 : o = op0 := h0
      have h1 : x.since = a := h1
      have h2 : x.n = b := h2
      subst h0 h1 h2
      rfl
    exact e _ _ hop hq.1 hq.2
  · rintro ⟨h1, h2⟩
    obtain ⟨_, k, hk, hn, hf⟩ := findM_in h1
    rw [hf] at h2
    refine ⟨s.log[k], List.getElem_mem hk, ?_⟩
    rw [h2]
    simp [posE]
theorem through_is8 {s t : StV} (hs : isM s = true) (ht : isM t = true) : throughM s t = ((same tEnt s.tail t.tail || posIn s.log t.tail s.log.length) && ((uptoM s t.tail.n).2 && same tBase (uptoM s t.tail.n).1 t.base)) := by
  rw [posIn_is hs ht]
  have : same tEnt t.tail s.tail = same tEnt s.tail t.tail := by rw [Bool.eq_iff_iff, same_is, same_is]; exact ⟨Eq.symm, Eq.symm⟩
  unfold throughM
  rw [this]

set_option maxHeartbeats 8000000 in
theorem refshared_any (s t : StV) (ao bo : Option Addr) (c d : Nat) (w : World) (hs : StOk s) (ht : StOk t) (hsi : isM s = true) (hti : isM t = true) (h : Sl w ao c 8 (entR s.log)) :
    Calls Try.prog 62 #[.agg (stC s ao c), .agg (stC t bo d)] w fun en w' => en = .returned (.bool (throughM s t)) ∧ Below w.heap.size w w' := by
  obtain ⟨w1, hw1, hX, hY, hb⟩ := two_vars w 40 40 (stC s ao c) (stC t bo d)
  have hM : Hid _ := through_is8 hsi hti
  clear hsi hti
  have xt := hX.st_tail
  have yt := hY.st_tail
  have hle := h.ent_le
  have hcap := h.cap
  have heq := fun W => eqv_ent s.tail t.tail hs.tail ht.tail W
  generalize same tEnt s.tail t.tail = b0 at *
  go_enter Try.func62, Try.ntmps62
  go_wp2_with (first
    | (refine wpList_load_mid' (by rfl) 37 _ rfl (w.heap.size) (40) rfl (entL s.tail) _ ?hg Try.underlying37 rfl (ent_size _) ?_; (case hg => exact xt))
    | (refine wpList_load_mid' (by rfl) 37 _ rfl (w.heap.size + 1) (40) rfl (entL t.tail) _ ?hg Try.underlying37 rfl (ent_size _) ?_; (case hg => exact yt))
    | (refine wpList_bin_agg (by rfl) .eql 37 _ _ _ rfl (entC s.tail) (entC t.tail) rfl rfl (.bool b0) guard_ent ?hg ?_; (case hg => exact heq _))
    | fail)
  clear heq xt yt hw1
  go_loopw [5, 6] (fun v i wr => ∃ n : Nat, n ≤ s.log.length ∧ i = .int .i64 n ∧ v = .bool (b0 || posIn s.log t.tail n) ∧ Has wr w.heap.size 40 (stC s ao c) ∧ Has wr (w.heap.size + 1) 40 (stC t bo d) ∧ Below w.heap.size w wr) (fun _ i _ => s.log.length - (intOf i).toNat)
  case atStart => exact ⟨0, Nat.zero_le _, rfl, by first | rfl | (show Value.bool b0 = .bool (b0 || false); rw [Bool.or_false]), hX, hY, hb⟩
  case round =>
    clear hX hY hb
    obtain ⟨n, hn, rfl, rfl, hX, hY, hb⟩ := hrel
    have c48 := hX.st_log
    by_cases hlt : n < s.log.length
    · cases ao with
      | none => have := h.nil rfl; omega
      | some ad =>
        have hx := fun W (hW : Below wr.heap.size wr W) => ent_at (h.later (hb.trans (hW.mono hb.size))) n hlt
        have hnx : Hid ((b0 || posIn s.log t.tail (n + 1)) = ((b0 || posIn s.log t.tail n) || (decide (s.log[n].since = t.tail.since) && decide (s.log[n].n = t.tail.n)))) := by show _ = _; rw [posIn_step hlt, Bool.or_assoc]
        have hlI : (n : Int) < (s.log.length : Int) := by omega
        have hbA : Below wr.heap.size wr wr.drew := (Below.refl _ _).drew
        have xo := hs.log s.log[n] (List.getElem_mem hlt)
        generalize s.log[n] = x at *
        generalize (b0 || posIn s.log t.tail n) = b1 at *
        generalize hb2 : (b0 || posIn s.log t.tail (n + 1)) = b2 at *
        replace hb2 : Hid _ := hb2
        go_wp2
        cases b1 with
        | true =>
          refine wp_region_plan (fun W => Below wr.heap.size wr W) (Plan.of [(0, true), (1, true), (2, true), (3, true), (4, true), (5, true), (6, true), (7, true), (8, true), (9, true), (10, true), (11, true), (12, true), (13, true), (14, true), (15, true), (16, true), (17, true), (18, true), (19, true), (20, true), (21, true), (22, true), (23, true), (24, true), (25, true)] .done) (by kernel_rfl) (by kernel_rfl) (by kernel_rfl) (by kernel_rfl) hbA ?_
          iterate 26
            first
              | (refine plan_pass _ rfl (by rfl) ?_)
              | (refine plan_take _ _ rfl (.inl ⟨by rfl, fun W hS => by clear hS; go_simp; try with_reducible rfl⟩) ?_)
            try simp only [Act.put, List.setIfInBounds_toArray, List.set_cons_zero, List.set_cons_succ]
          refine plan_done ?_
          have hnx : Hid _ := hnx.out.trans (Bool.true_or _)
          replace hX := hX.later hbA
          replace hY := hY.later hbA
          replace hb := hb.trans (hbA.mono hb.size)
          clear hbA hx
          go_wp2
          go_roundw
          case rel => exact ⟨n + 1, by omega, by go_num, by rw [hb2.out, hnx.out], hX, hY, hb⟩
          case measure => simp [intOf]; omega
        | false =>
          by_cases hse : x.since = t.tail.since
          · have hsB : ((x.since : Int) == (t.tail.since : Int)) = true := by rw [beq_iff_eq]; omega
            have hsC : (x.since == t.tail.since) = true := by rw [beq_iff_eq]; omega
            by_cases hne : x.n = t.tail.n
            · have hnB : ((x.n : Int) == (t.tail.n : Int)) = true := by rw [beq_iff_eq]; omega
              have hnC : (x.n == t.tail.n) = true := by rw [beq_iff_eq]; omega
              have hnx : Hid (b2 = true) := hnx.out.trans (by rw [decide_eq_true hse, decide_eq_true hne]; rfl)
              refine wp_region_plan (fun W => Below wr.heap.size wr W) (Plan.of [(0, true), (1, true), (2, true), (3, true), (4, true), (5, true), (6, true), (7, true), (8, true), (9, true), (10, true), (11, true), (12, true), (13, true), (14, true), (15, true), (16, true), (17, true), (18, true), (19, true), (20, true), (21, true), (22, true), (23, true), (24, true), (25, true)] .done) (by kernel_rfl) (by kernel_rfl) (by kernel_rfl) (by kernel_rfl) hbA ?_
              iterate 3
                first
                  | (refine plan_pass _ rfl (by rfl) ?_)
                  | (refine plan_take _ _ rfl (.inl ⟨by rfl, fun W hS => by clear hS; go_simp; try with_reducible rfl⟩) ?_)
                try simp only [Act.put, List.setIfInBounds_toArray, List.set_cons_zero, List.set_cons_succ]
              iterate 1
                first
                  | (refine plan_pass _ rfl (by rfl) ?_)
                  | (refine plan_take _ _ rfl (.inl ⟨by rfl, fun W hS => by have z0 := (hX.later hS).st_log; go_simp; try with_reducible rfl⟩) ?_)
                try simp only [Act.put, List.setIfInBounds_toArray, List.set_cons_zero, List.set_cons_succ]
              iterate 3
                first
                  | (refine plan_pass _ rfl (by rfl) ?_)
                  | (refine plan_take _ _ rfl (.inl ⟨by rfl, fun W hS => by clear hS; go_simp; try with_reducible rfl⟩) ?_)
                try simp only [Act.put, List.setIfInBounds_toArray, List.set_cons_zero, List.set_cons_succ]
              iterate 1
                first
                  | (refine plan_pass _ rfl (by rfl) ?_)
                  | (refine plan_take _ _ rfl (.inl ⟨by rfl, fun W hS => by have z0 : W.cell? (ad.add (n * 8)) = some (.int .u32 (x.since : Int)) := hx W hS 0 _ rfl; go_simp; try with_reducible rfl⟩) ?_)
                try simp only [Act.put, List.setIfInBounds_toArray, List.set_cons_zero, List.set_cons_succ]
              iterate 2
                first
                  | (refine plan_pass _ rfl (by rfl) ?_)
                  | (refine plan_take _ _ rfl (.inl ⟨by rfl, fun W hS => by clear hS; go_simp; try with_reducible rfl⟩) ?_)
                try simp only [Act.put, List.setIfInBounds_toArray, List.set_cons_zero, List.set_cons_succ]
              iterate 1
                first
                  | (refine plan_pass _ rfl (by rfl) ?_)
                  | (refine plan_take _ _ rfl (.inl ⟨by rfl, fun W hS => by have z0 := (hY.later hS).st_tail_since; go_simp; try with_reducible rfl⟩) ?_)
                try simp only [Act.put, List.setIfInBounds_toArray, List.set_cons_zero, List.set_cons_succ]
              iterate 2
                first
                  | (refine plan_pass _ rfl (by rfl) ?_)
                  | (refine plan_take _ _ rfl (.inl ⟨by rfl, fun W hS => by clear hS; go_simp; try with_reducible rfl⟩) ?_)
                try simp only [Act.put, List.setIfInBounds_toArray, List.set_cons_zero, List.set_cons_succ]
              iterate 1
                first
                  | (refine plan_pass _ rfl (by rfl) ?_)
                  | (refine plan_take _ _ rfl (.inl ⟨by rfl, fun W hS => by clear hS; go_simp; try with_reducible rfl⟩) ?_)
                try simp only [Act.put, List.setIfInBounds_toArray, List.set_cons_zero, List.set_cons_succ]
              iterate 1
                first
                  | (refine plan_pass _ rfl (by rfl) ?_)
                  | (refine plan_take _ _ rfl (.inl ⟨by rfl, fun W hS => by have z0 := (hX.later hS).st_log; go_simp; try with_reducible rfl⟩) ?_)
                try simp only [Act.put, List.setIfInBounds_toArray, List.set_cons_zero, List.set_cons_succ]
              iterate 3
                first
                  | (refine plan_pass _ rfl (by rfl) ?_)
                  | (refine plan_take _ _ rfl (.inl ⟨by rfl, fun W hS => by clear hS; go_simp; try with_reducible rfl⟩) ?_)
                try simp only [Act.put, List.setIfInBounds_toArray, List.set_cons_zero, List.set_cons_succ]
              iterate 1
                first
                  | (refine plan_pass _ rfl (by rfl) ?_)
                  | (refine plan_take _ _ rfl (.inl ⟨by rfl, fun W hS => by have z0 : W.cell? ⟨(ad.add (n * 8)).block, (ad.add (n * 8)).off + 1, none⟩ = some (.int .u32 (x.n : Int)) := hx W hS 1 _ rfl; go_simp; try with_reducible rfl⟩) ?_)
                try simp only [Act.put, List.setIfInBounds_toArray, List.set_cons_zero, List.set_cons_succ]
              iterate 2
                first
                  | (refine plan_pass _ rfl (by rfl) ?_)
                  | (refine plan_take _ _ rfl (.inl ⟨by rfl, fun W hS => by clear hS; go_simp; try with_reducible rfl⟩) ?_)
                try simp only [Act.put, List.setIfInBounds_toArray, List.set_cons_zero, List.set_cons_succ]
              iterate 1
                first
                  | (refine plan_pass _ rfl (by rfl) ?_)
                  | (refine plan_take _ _ rfl (.inl ⟨by rfl, fun W hS => by have z0 := (hY.later hS).st_tail_n; go_simp; try with_reducible rfl⟩) ?_)
                try simp only [Act.put, List.setIfInBounds_toArray, List.set_cons_zero, List.set_cons_succ]
              iterate 4
                first
                  | (refine plan_pass _ rfl (by rfl) ?_)
                  | (refine plan_take _ _ rfl (.inl ⟨by rfl, fun W hS => by clear hS; go_simp; try with_reducible rfl⟩) ?_)
                try simp only [Act.put, List.setIfInBounds_toArray, List.set_cons_zero, List.set_cons_succ]
              refine plan_done ?_
              replace hX := hX.later hbA
              replace hY := hY.later hbA
              replace hb := hb.trans (hbA.mono hb.size)
              clear hbA hx
              go_wp2
              go_roundw
              case rel => exact ⟨n + 1, by omega, by go_num, by rw [hb2.out, hnx.out], hX, hY, hb⟩
              case measure => simp [intOf]; omega
            · have hnB : ((x.n : Int) == (t.tail.n : Int)) = false := by rw [beq_eq_false_iff_ne]; omega
              have hnC : (x.n == t.tail.n) = false := by rw [beq_eq_false_iff_ne]; omega
              have hnx : Hid (b2 = false) := hnx.out.trans (by rw [decide_eq_false hne, Bool.and_false]; rfl)
              refine wp_region_plan (fun W => Below wr.heap.size wr W) (Plan.of [(0, true), (1, true), (2, true), (3, true), (4, true), (5, true), (6, true), (7, true), (8, true), (9, true), (10, true), (11, true), (12, true), (13, true), (14, true), (15, true), (16, true), (17, true), (18, true), (19, true), (20, true), (21, true), (22, true), (23, true), (24, true), (25, true)] .done) (by kernel_rfl) (by kernel_rfl) (by kernel_rfl) (by kernel_rfl) hbA ?_
              iterate 3
                first
                  | (refine plan_pass _ rfl (by rfl) ?_)
                  | (refine plan_take _ _ rfl (.inl ⟨by rfl, fun W hS => by clear hS; go_simp; try with_reducible rfl⟩) ?_)
                try simp only [Act.put, List.setIfInBounds_toArray, List.set_cons_zero, List.set_cons_succ]
              iterate 1
                first
                  | (refine plan_pass _ rfl (by rfl) ?_)
                  | (refine plan_take _ _ rfl (.inl ⟨by rfl, fun W hS => by have z0 := (hX.later hS).st_log; go_simp; try with_reducible rfl⟩) ?_)
                try simp only [Act.put, List.setIfInBounds_toArray, List.set_cons_zero, List.set_cons_succ]
              iterate 3
                first
                  | (refine plan_pass _ rfl (by rfl) ?_)
                  | (refine plan_take _ _ rfl (.inl ⟨by rfl, fun W hS => by clear hS; go_simp; try with_reducible rfl⟩) ?_)
                try simp only [Act.put, List.setIfInBounds_toArray, List.set_cons_zero, List.set_cons_succ]
              iterate 1
                first
                  | (refine plan_pass _ rfl (by rfl) ?_)
                  | (refine plan_take _ _ rfl (.inl ⟨by rfl, fun W hS => by have z0 : W.cell? (ad.add (n * 8)) = some (.int .u32 (x.since : Int)) := hx W hS 0 _ rfl; go_simp; try with_reducible rfl⟩) ?_)
                try simp only [Act.put, List.setIfInBounds_toArray, List.set_cons_zero, List.set_cons_succ]
              iterate 2
                first
                  | (refine plan_pass _ rfl (by rfl) ?_)
                  | (refine plan_take _ _ rfl (.inl ⟨by rfl, fun W hS => by clear hS; go_simp; try with_reducible rfl⟩) ?_)
                try simp only [Act.put, List.setIfInBounds_toArray, List.set_cons_zero, List.set_cons_succ]
              iterate 1
                first
                  | (refine plan_pass _ rfl (by rfl) ?_)
                  | (refine plan_take _ _ rfl (.inl ⟨by rfl, fun W hS => by have z0 := (hY.later hS).st_tail_since; go_simp; try with_reducible rfl⟩) ?_)
                try simp only [Act.put, List.setIfInBounds_toArray, List.set_cons_zero, List.set_cons_succ]
              iterate 2
                first
                  | (refine plan_pass _ rfl (by rfl) ?_)
                  | (refine plan_take _ _ rfl (.inl ⟨by rfl, fun W hS => by clear hS; go_simp; try with_reducible rfl⟩) ?_)
                try simp only [Act.put, List.setIfInBounds_toArray, List.set_cons_zero, List.set_cons_succ]
              iterate 1
                first
                  | (refine plan_pass _ rfl (by rfl) ?_)
                  | (refine plan_take _ _ rfl (.inl ⟨by rfl, fun W hS => by clear hS; go_simp; try with_reducible rfl⟩) ?_)
                try simp only [Act.put, List.setIfInBounds_toArray, List.set_cons_zero, List.set_cons_succ]
              iterate 1
                first
                  | (refine plan_pass _ rfl (by rfl) ?_)
                  | (refine plan_take _ _ rfl (.inl ⟨by rfl, fun W hS => by have z0 := (hX.later hS).st_log; go_simp; try with_reducible rfl⟩) ?_)
                try simp only [Act.put, List.setIfInBounds_toArray, List.set_cons_zero, List.set_cons_succ]
              iterate 3
                first
                  | (refine plan_pass _ rfl (by rfl) ?_)
                  | (refine plan_take _ _ rfl (.inl ⟨by rfl, fun W hS => by clear hS; go_simp; try with_reducible rfl⟩) ?_)
                try simp only [Act.put, List.setIfInBounds_toArray, List.set_cons_zero, List.set_cons_succ]
              iterate 1
                first
                  | (refine plan_pass _ rfl (by rfl) ?_)
                  | (refine plan_take _ _ rfl (.inl ⟨by rfl, fun W hS => by have z0 : W.cell? ⟨(ad.add (n * 8)).block, (ad.add (n * 8)).off + 1, none⟩ = some (.int .u32 (x.n : Int)) := hx W hS 1 _ rfl; go_simp; try with_reducible rfl⟩) ?_)
                try simp only [Act.put, List.setIfInBounds_toArray, List.set_cons_zero, List.set_cons_succ]
              iterate 2
                first
                  | (refine plan_pass _ rfl (by rfl) ?_)
                  | (refine plan_take _ _ rfl (.inl ⟨by rfl, fun W hS => by clear hS; go_simp; try with_reducible rfl⟩) ?_)
                try simp only [Act.put, List.setIfInBounds_toArray, List.set_cons_zero, List.set_cons_succ]
              iterate 1
                first
                  | (refine plan_pass _ rfl (by rfl) ?_)
                  | (refine plan_take _ _ rfl (.inl ⟨by rfl, fun W hS => by have z0 := (hY.later hS).st_tail_n; go_simp; try with_reducible rfl⟩) ?_)
                try simp only [Act.put, List.setIfInBounds_toArray, List.set_cons_zero, List.set_cons_succ]
              iterate 4
                first
                  | (refine plan_pass _ rfl (by rfl) ?_)
                  | (refine plan_take _ _ rfl (.inl ⟨by rfl, fun W hS => by clear hS; go_simp; try with_reducible rfl⟩) ?_)
                try simp only [Act.put, List.setIfInBounds_toArray, List.set_cons_zero, List.set_cons_succ]
              refine plan_done ?_
              replace hX := hX.later hbA
              replace hY := hY.later hbA
              replace hb := hb.trans (hbA.mono hb.size)
              clear hbA hx
              go_wp2
              go_roundw
              case rel => exact ⟨n + 1, by omega, by go_num, by rw [hb2.out, hnx.out], hX, hY, hb⟩
              case measure => simp [intOf]; omega
          · have hsB : ((x.since : Int) == (t.tail.since : Int)) = false := by rw [beq_eq_false_iff_ne]; omega
            have hsC : (x.since == t.tail.since) = false := by rw [beq_eq_false_iff_ne]; omega
            have hnx : Hid (b2 = false) := hnx.out.trans (by rw [decide_eq_false hse]; rfl)
            refine wp_region_plan (fun W => Below wr.heap.size wr W) (Plan.of [(0, true), (1, true), (2, true), (3, true), (4, true), (5, true), (6, true), (7, true), (8, true), (9, true), (10, true), (11, true), (12, true), (13, true), (14, true), (15, true), (16, true), (17, true), (18, true), (19, true), (20, true), (21, true), (22, true), (23, true), (24, true), (25, true)] .done) (by kernel_rfl) (by kernel_rfl) (by kernel_rfl) (by kernel_rfl) hbA ?_
            iterate 3
              first
                | (refine plan_pass _ rfl (by rfl) ?_)
                | (refine plan_take _ _ rfl (.inl ⟨by rfl, fun W hS => by clear hS; go_simp; try with_reducible rfl⟩) ?_)
              try simp only [Act.put, List.setIfInBounds_toArray, List.set_cons_zero, List.set_cons_succ]
            iterate 1
              first
                | (refine plan_pass _ rfl (by rfl) ?_)
                | (refine plan_take _ _ rfl (.inl ⟨by rfl, fun W hS => by have z0 := (hX.later hS).st_log; go_simp; try with_reducible rfl⟩) ?_)
              try simp only [Act.put, List.setIfInBounds_toArray, List.set_cons_zero, List.set_cons_succ]
            iterate 3
              first
                | (refine plan_pass _ rfl (by rfl) ?_)
                | (refine plan_take _ _ rfl (.inl ⟨by rfl, fun W hS => by clear hS; go_simp; try with_reducible rfl⟩) ?_)
              try simp only [Act.put, List.setIfInBounds_toArray, List.set_cons_zero, List.set_cons_succ]
            iterate 1
              first
                | (refine plan_pass _ rfl (by rfl) ?_)
                | (refine plan_take _ _ rfl (.inl ⟨by rfl, fun W hS => by have z0 : W.cell? (ad.add (n * 8)) = some (.int .u32 (x.since : Int)) := hx W hS 0 _ rfl; go_simp; try with_reducible rfl⟩) ?_)
              try simp only [Act.put, List.setIfInBounds_toArray, List.set_cons_zero, List.set_cons_succ]
            iterate 2
              first
                | (refine plan_pass _ rfl (by rfl) ?_)
                | (refine plan_take _ _ rfl (.inl ⟨by rfl, fun W hS => by clear hS; go_simp; try with_reducible rfl⟩) ?_)
              try simp only [Act.put, List.setIfInBounds_toArray, List.set_cons_zero, List.set_cons_succ]
            iterate 1
              first
                | (refine plan_pass _ rfl (by rfl) ?_)
                | (refine plan_take _ _ rfl (.inl ⟨by rfl, fun W hS => by have z0 := (hY.later hS).st_tail_since; go_simp; try with_reducible rfl⟩) ?_)
              try simp only [Act.put, List.setIfInBounds_toArray, List.set_cons_zero, List.set_cons_succ]
            iterate 2
              first
                | (refine plan_pass _ rfl (by rfl) ?_)
                | (refine plan_take _ _ rfl (.inl ⟨by rfl, fun W hS => by clear hS; go_simp; try with_reducible rfl⟩) ?_)
              try simp only [Act.put, List.setIfInBounds_toArray, List.set_cons_zero, List.set_cons_succ]
            iterate 13
              first
                | (refine plan_pass _ rfl (by rfl) ?_)
                | (refine plan_take _ _ rfl (.inl ⟨by rfl, fun W hS => by clear hS; go_simp; try with_reducible rfl⟩) ?_)
              try simp only [Act.put, List.setIfInBounds_toArray, List.set_cons_zero, List.set_cons_succ]
            refine plan_done ?_
            replace hX := hX.later hbA
            replace hY := hY.later hbA
            replace hb := hb.trans (hbA.mono hb.size)
            clear hbA hx
            go_wp2
            go_roundw
            case rel => exact ⟨n + 1, by omega, by go_num, by rw [hb2.out, hnx.out], hX, hY, hb⟩
            case measure => simp [intOf]; omega
    · have e5 : n = s.log.length := by omega
      subst e5
      generalize (b0 || posIn s.log t.tail s.log.length) = b1 at *
      cases b1 with
      | false =>
        go_wp2
        go_ret
        exact ⟨by rw [hM.out]; rfl, hb⟩
      | true =>
        have y1 := hY.st_tail_n
        go_wp2_with (first
          | (refine wpList_load_has (by rfl) 40 _ rfl (w.heap.size) rfl 40 (stC s ao c) _ Try.underlying40 rfl (st_size _ _ _) ?hg ?_; (case hg => exact hX))
          | fail)
        refine (refupto_any s ao c t.tail.n _ hs (h.later hb) ht.tail.n).mono ?_
        rintro en wu ⟨rfl, hq⟩
        have hbo := (upto_fit hs t.tail.n).in'
        replace hY := hY.later hq
        replace hb := hb.trans (hq.mono hb.size)
        clear hq hX y1
        generalize (uptoM s t.tail.n).1 = B at *
        generalize (uptoM s t.tail.n).2 = k at *
        obtain ⟨wv, hwv, hB, hq⟩ := new_var wu 33 (baseC base0) (baseC B)
        replace hY := hY.later hq
        replace hb := hb.trans (hq.mono hb.size)
        clear hq
        have yb := hY.st_base
        have heq2 := fun W => eqv_base B t.base hbo ht.base W
        cases k with
        | false =>
          go_wp2_with (first
            | (refine wpList_alloc_has (by rfl) 33 rfl (baseC base0) base_zero ?_)
            | (refine wpList_store_to (by rfl) 33 _ _ rfl wu.heap.size rfl (baseC B) rfl 33 (baseC base0) (base_size _) rfl (base_one _) ?hg wv ?hW ?_; (case hg => exact Has.new _ _ _); (case hW => exact hwv); clear hwv)
            | fail)
          go_ret
          exact ⟨by rw [hM.out]; rfl, hb⟩
        | true =>
          go_wp2_with (first
            | (refine wpList_alloc_has (by rfl) 33 rfl (baseC base0) base_zero ?_)
            | (refine wpList_store_to (by rfl) 33 _ _ rfl wu.heap.size rfl (baseC B) rfl 33 (baseC base0) (base_size _) rfl (base_one _) ?hg wv ?hW ?_; (case hg => exact Has.new _ _ _); (case hW => exact hwv); clear hwv)
            | (refine wpList_load_has (by rfl) 33 _ rfl (wu.heap.size) rfl 33 (baseC (B)) _ Try.underlying33 rfl (base_size _) ?hg ?_; (case hg => exact hB))
            | (refine wpList_load_mid' (by rfl) 33 _ rfl (w.heap.size + 1) (1) rfl (baseL t.base) _ ?hg Try.underlying33 rfl (base_size _) ?_; (case hg => exact yb))
            | (refine wpList_bin_agg (by rfl) .eql 33 _ _ _ rfl (baseC B) (baseC t.base) rfl rfl (.bool (same tBase B t.base)) guard_base ?hg ?_; (case hg => exact heq2 _)))
          go_ret
          exact ⟨by rw [hM.out]; rfl, hb⟩


section
variable {w : World} {g : Nat} {d : DiffV} {lo wo : Option Addr} {lc wc : Nat}
theorem diff_put0 (k : Int) : (diffC d lo lc wo wc).setIfInBounds 0 (.int .i64 k) = diffC ⟨k, d.fr, d.log, d.whole⟩ lo lc wo wc := by
  unfold diffC diffL
  rw [List.setIfInBounds_toArray, List.set_cons_zero]
theorem diff_put1 (n : Nat) : (diffC d lo lc wo wc).setIfInBounds 1 (.int .u32 (n : Int)) = diffC ⟨d.kind, n, d.log, d.whole⟩ lo lc wo wc := by
  unfold diffC diffL
  rw [List.setIfInBounds_toArray, List.set_cons_succ, List.set_cons_zero]
theorem diff_put2 (l : List EntV) (no : Option Addr) (nc : Nat) : (diffC d lo lc wo wc).setIfInBounds 2 (.slice no l.length nc) = diffC ⟨d.kind, d.fr, l, d.whole⟩ no nc wo wc := by
  unfold diffC diffL
  rw [List.setIfInBounds_toArray, List.set_cons_succ, List.set_cons_succ, List.set_cons_zero]
theorem Has.d_setKind (h : Has w g 61 (diffC d lo lc wo wc)) (k : Int) : Has (w.setCell ⟨g, 0, none⟩ (.int .i64 k)) g 61 (diffC ⟨k, d.fr, d.log, d.whole⟩ lo lc wo wc) := by
  have := h.set 0 (.int .i64 k)
  rw [diff_put0] at this
  exact this
theorem Has.d_setFrom (h : Has w g 61 (diffC d lo lc wo wc)) (n : Nat) : Has (w.setCell ⟨g, 1, none⟩ (.int .u32 (n : Int))) g 61 (diffC ⟨d.kind, n, d.log, d.whole⟩ lo lc wo wc) := by
  have := h.set 1 (.int .u32 (n : Int))
  rw [diff_put1] at this
  exact this
theorem Has.d_setLog (h : Has w g 61 (diffC d lo lc wo wc)) (l : List EntV) (no : Option Addr) (nc : Nat) : Has (w.setCell ⟨g, 2, none⟩ (.slice no l.length nc)) g 61 (diffC ⟨d.kind, d.fr, l, d.whole⟩ no nc wo wc) := by
  have := h.set 2 (.slice no l.length nc)
  rw [diff_put2] at this
  exact this
theorem Has.d_setWhole (h : Has w g 61 (diffC d lo lc wo wc)) (t : StV) (uo : Option Addr) (uc : Nat) : Has (w.setCells g 3 (stL t uo uc)) g 61 (diffC ⟨d.kind, d.fr, d.log, t⟩ lo lc uo uc) := by
  have hl : (stL t uo uc).length = (stL d.whole wo wc).length := by rw [stL_len, stL_len]
  have := Has.putCells h (stL t uo uc) 3 (by unfold diffL; simp only [List.length_cons]; omega)
  have e : putAt (diffL d lo lc wo wc) 3 (stL t uo uc) = diffL ⟨d.kind, d.fr, d.log, t⟩ lo lc uo uc := by
    unfold putAt diffL
    show _ = _
    simp only [List.take_succ_cons, List.take_zero, List.cons_append, List.nil_append, List.drop_succ_cons]
    rw [show 3 + (stL t uo uc).length = (stL t uo uc).length + 1 + 1 + 1 by omega]
    simp only [List.drop_succ_cons]
    rw [hl, List.drop_length, List.append_nil]
  rw [e] at this
  exact this
end
theorem diff_built_w (s : StV) (wo : Option Addr) (wc : Nat) : Try.prog.built 61 [(3, .agg (stC s wo wc))] = some (diffC ⟨0, 0, [], s⟩ none 0 wo wc) := by kernel_rfl

/-- How far the shared entries go: one more, or the end. -/
theorem shared_more {a : StV} {l : List EntV} {n : Nat} (h : n < l.length) (hn : n ≤ sharedN a l) : (hasEnt a l[n] = true → n + 1 ≤ sharedN a l) ∧ (hasEnt a l[n] = false → sharedN a l = n) := by
  induction l generalizing n with
  | nil => cases h
  | cons e l ih =>
    cases n with
    | zero =>
      constructor
      · intro hh
        have hh : hasEnt a e = true := hh
        show 0 + 1 ≤ sharedN a (e :: l)
        unfold sharedN
        rw [if_pos hh]
        omega
      · intro hh
        have hh : hasEnt a e = false := hh
        show sharedN a (e :: l) = 0
        unfold sharedN
        rw [if_neg (by rw [hh]; simp)]
    | succ n =>
      by_cases he : hasEnt a e = true
      · have h0 : sharedN a (e :: l) = sharedN a l + 1 := by rw [sharedN, if_pos he]
        rw [h0] at hn ⊢
        have := ih (n := n) (by simpa using h) (by omega)
        refine ⟨fun hh => ?_, fun hh => ?_⟩
        · have := this.1 hh; omega
        · have := this.2 hh; omega
      · have h0 : sharedN a (e :: l) = 0 := by rw [sharedN, if_neg he]
        rw [h0] at hn
        omega
theorem shared_all {a : StV} {l : List EntV} {n : Nat} (h : l.length ≤ n) (hn : n ≤ sharedN a l) (hle : sharedN a l ≤ l.length) : sharedN a l = n := by omega
end Go.Proofs.Ytphlfepgaghhhaa
