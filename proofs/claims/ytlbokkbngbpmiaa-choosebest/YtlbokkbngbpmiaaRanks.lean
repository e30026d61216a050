/- The contracts of cmp.Compare, cmp.Or, of choose's ranked and beats. -/
import Derived.Test.YtlbokkbngbpmiaaChooseMath
import Derived.Test.YtlbokkbngbpmiaaPackLog
import Derived.Test.YtlbokkbngbpmiaaPackMaps
import Derived.Test.YtlbokkbngbpmiaaPackTools
namespace Go.Proofs.Ytlbokkbngbpmiaa
set_option linter.unusedSimpArgs false
set_option linter.unusedVariables false
set_option maxRecDepth 100000
open Go.RowKit

def cmpN (x y : Int) : Int := if x < y then -1 else if y < x then 1 else 0
def orL : List Int → Int
  | [] => 0
  | x :: l => if x = 0 then orL l else x

theorem nanU_any (x : Nat) (w : World) : Calls Try.prog 79 #[.int .u32 (x : Int)] w fun en w' => en = .returned (.bool false) ∧ w' = w := by
  go_enter Try.func79, Try.ntmps79
  go_wp2
  go_ret
  exact ⟨rfl, rfl⟩
theorem nanI_any (x : Int) (w : World) : Calls Try.prog 80 #[.int .i64 x] w fun en w' => en = .returned (.bool false) ∧ w' = w := by
  go_enter Try.func80, Try.ntmps80
  go_wp2
  go_ret
  exact ⟨rfl, rfl⟩

set_option maxHeartbeats 1000000 in
theorem cmpU_any (x y : Nat) (w : World) : Calls Try.prog 59 #[.int .u32 (x : Int), .int .u32 (y : Int)] w fun en w' => en = .returned (.int .i64 (cmpN x y)) ∧ w' = w := by
  have hc : Hid (cmpN x y = if (x : Int) < y then -1 else if (y : Int) < x then 1 else 0) := rfl
  by_cases h1 : (x : Int) < y
  · rw [if_pos h1] at hc
    go_enter Try.func59, Try.ntmps59
    go_wp2_with (first
      | (go_at_call 79; refine (nanU_any _ _).mono ?_; rintro e w1 ⟨rfl, rfl⟩))
    go_ret
    exact ⟨by rw [hc.out]; rfl, rfl⟩
  · rw [if_neg h1] at hc
    by_cases h2 : (y : Int) < x
    · rw [if_pos h2] at hc
      go_enter Try.func59, Try.ntmps59
      go_wp2_with (first
        | (go_at_call 79; refine (nanU_any _ _).mono ?_; rintro e w1 ⟨rfl, rfl⟩))
      go_ret
      exact ⟨by rw [hc.out]; rfl, rfl⟩
    · rw [if_neg h2] at hc
      go_enter Try.func59, Try.ntmps59
      go_wp2_with (first
        | (go_at_call 79; refine (nanU_any _ _).mono ?_; rintro e w1 ⟨rfl, rfl⟩))
      go_ret
      exact ⟨by rw [hc.out]; rfl, rfl⟩
set_option maxHeartbeats 1000000 in
theorem cmpI_any (x y : Int) (w : World) : Calls Try.prog 60 #[.int .i64 x, .int .i64 y] w fun en w' => en = .returned (.int .i64 (cmpN x y)) ∧ w' = w := by
  have hc : Hid (cmpN x y = if x < y then -1 else if y < x then 1 else 0) := rfl
  by_cases h1 : x < y
  · rw [if_pos h1] at hc
    go_enter Try.func60, Try.ntmps60
    go_wp2_with (first
      | (go_at_call 80; refine (nanI_any _ _).mono ?_; rintro e w1 ⟨rfl, rfl⟩))
    go_ret
    exact ⟨by rw [hc.out]; rfl, rfl⟩
  · rw [if_neg h1] at hc
    by_cases h2 : y < x
    · rw [if_pos h2] at hc
      go_enter Try.func60, Try.ntmps60
      go_wp2_with (first
        | (go_at_call 80; refine (nanI_any _ _).mono ?_; rintro e w1 ⟨rfl, rfl⟩))
      go_ret
      exact ⟨by rw [hc.out]; rfl, rfl⟩
    · rw [if_neg h2] at hc
      go_enter Try.func60, Try.ntmps60
      go_wp2_with (first
        | (go_at_call 80; refine (nanI_any _ _).mono ?_; rintro e w1 ⟨rfl, rfl⟩))
      go_ret
      exact ⟨by rw [hc.out]; rfl, rfl⟩

set_option maxHeartbeats 1000000 in
theorem or_any (ao : Option Addr) (c : Nat) (xs : List Int) (w : World) (hx : Ix w ao c xs) (hl : xs.length ≤ 1000000) : Calls Try.prog 58 #[.slice ao xs.length c] w fun en w' => en = .returned (.int .i64 (orL xs)) ∧ w' = w := by
  have hcap := hx.cap
  have hle := hx.le
  go_enter Try.func58, Try.ntmps58
  go_wp2
  go_loopw [8] (fun i wr => ∃ n : Nat, n ≤ xs.length ∧ i = .int .i64 n ∧ orL xs = orL (xs.drop n) ∧ wr = w) (fun i _ => xs.length - (intOf i).toNat)
  case atStart => exact ⟨0, Nat.zero_le _, rfl, rfl, rfl⟩
  case round =>
    obtain ⟨n, hn, rfl, ho, rfl⟩ := hrel
    by_cases hlt : n < xs.length
    · have hnI : (n : Int) < (xs.length : Int) := by omega
      cases ao with
      | none => have h1 := hx.nil rfl; omega
      | some ad =>
        have cx := hx.at' ad rfl n hlt
        have hd : xs.drop n = xs[n] :: xs.drop (n + 1) := List.drop_eq_getElem_cons hlt
        rw [hd] at ho
        have ho' : Hid (orL xs = if xs[n] = 0 then orL (xs.drop (n + 1)) else xs[n]) := ho
        clear ho hd
        generalize xs[n] = x at *
        by_cases h0 : x = 0
        · subst h0
          rw [if_pos rfl] at ho'
          go_wp2
          go_roundw
          case rel => first | exact ⟨n + 1, by omega, by go_num, ho'.out, rfl⟩ | exact ⟨n + 1, by omega, by go_num, ho'.out, trivial⟩ | exact ⟨n + 1, by omega, by go_num, by first | trivial | rfl, ho'.out, rfl⟩ | exact ⟨n + 1, by omega, by go_num, (by first | trivial | rfl), ho'.out⟩
          case measure => simp [intOf]; omega
        · rw [if_neg h0] at ho'
          have h0b : (x != 0) = true := by rw [bne_iff_ne]; exact h0
          go_wp2
          go_ret
          exact ⟨by rw [ho'.out]; rfl, rfl⟩
    · have e : n = xs.length := by omega
      subst e
      rw [List.drop_length] at ho
      have ho' : Hid (orL xs = 0) := ho
      clear ho
      go_wp2
      go_ret
      exact ⟨by rw [ho'.out]; rfl, rfl⟩

def rankC (r : RankV) : Array Value := #[.int .u32 (r.started : Int), .int .u32 (r.since : Int), .int .u32 (r.n : Int), .int .i64 r.osd]
theorem rank_size (r : RankV) : (Try.prog.info? 84).map (·.size) = some (rankC r).size := by show _ = some 4; kernel_rfl
theorem rank_zero : (Try.prog.info? 84).map (·.zero) = some (some (.agg (rankC ⟨0, 0, 0, 0⟩))) := by kernel_rfl
theorem rank_one (r : RankV) : (rankC r).all (·.oneCell') = true := by simp [rankC, Value.oneCell']
theorem rank_built (r : RankV) : Try.prog.built 84 [(0, .int .u32 (r.started : Int)), (1, .int .u32 (r.since : Int)), (2, .int .u32 (r.n : Int)), (3, .int .i64 r.osd)] = some (rankC r) := by kernel_rfl
theorem rank_built0 : Try.prog.built 84 [] = some (rankC ⟨0, 0, 0, 0⟩) := by kernel_rfl

theorem beats_or (a b : RankV) : decide (0 < orL [cmpN a.started b.started, cmpN a.since b.since, cmpN a.n b.n, cmpN b.osd a.osd]) = beatsM a b := by
  unfold beatsM orL orL orL orL orL cmpN
  by_cases h1 : a.started = b.started
  · rw [h1]
    by_cases h2 : a.since = b.since
    · rw [h2]
      by_cases h3 : a.n = b.n
      · rw [h3]
        rcases Int.lt_trichotomy a.osd b.osd with h | h | h
        · simp [h, show ¬ b.osd < a.osd by omega]
        · simp [h]
        · simp [h, show ¬ a.osd < b.osd by omega]
      · rcases Nat.lt_or_ge a.n b.n with h | h
        · simp [h, h3, show ¬ b.n < a.n by omega]
        · simp [h3, show b.n < a.n by omega, show ¬ a.n < b.n by omega]
    · rcases Nat.lt_or_ge a.since b.since with h | h
      · simp [h, h2, show ¬ b.since < a.since by omega]
      · simp [h2, show b.since < a.since by omega, show ¬ a.since < b.since by omega]
  · rcases Nat.lt_or_ge a.started b.started with h | h
    · simp [h, h1, show ¬ b.started < a.started by omega]
    · simp [h1, show b.started < a.started by omega, show ¬ a.started < b.started by omega]
theorem cmpN_bd (x y : Int) : -1 ≤ cmpN x y ∧ cmpN x y ≤ 1 := by
  unfold cmpN
  split
  · omega
  · split <;> omega

set_option maxHeartbeats 4000000 in
theorem beats_any (a b : RankV) (w : World) : Calls Try.prog 34 #[.agg (rankC a), .agg (rankC b)] w fun en w' => en = .returned (.bool (beatsM a b)) ∧ Below w.heap.size w w' := by
  obtain ⟨w1, hw1⟩ : ∃ W, w.alloc (.cells (rankC a) 84) = W := ⟨_, rfl⟩
  have hs1 : w1.heap.size = w.heap.size + 1 := by rw [← hw1]; simp
  have hA1 : Has w1 w.heap.size 84 (rankC a) := hw1 ▸ Has.new _ _ _
  obtain ⟨w2, hw2⟩ : ∃ W, w1.alloc (.cells (rankC b) 84) = W := ⟨_, rfl⟩
  have hB : Has w2 (w.heap.size + 1) 84 (rankC b) := by rw [← hs1, ← hw2]; exact Has.new _ _ _
  have hA : Has w2 w.heap.size 84 (rankC a) := by rw [← hw2]; exact hA1.alloc _
  have hb : Below w.heap.size w w2 := by
    rw [← hw2]
    exact (hw1 ▸ (Below.refl _ _).alloc (Nat.le_refl _) _ : Below w.heap.size w w1).alloc (by omega) _
  have hsw : (w.alloc (.cells (rankC a) 84)).alloc (.cells (rankC b) 84) = w2 := by rw [hw1, hw2]
  have hF : Hid (decide (0 < orL [cmpN a.started b.started, cmpN a.since b.since, cmpN a.n b.n, cmpN b.osd a.osd]) = beatsM a b) := beats_or a b
  clear hw1 hw2 hs1 hA1
  have hS : Has w2.drew w.heap.size 84 (rankC a) ∧ Has w2.drew (w.heap.size + 1) 84 (rankC b) ∧ Below w.heap.size w w2.drew := ⟨hA, hB, hb.drew⟩
  go_enter Try.func34, Try.ntmps34
  go_wp2
  try rw [hsw]
  refine wp_region_plan (fun W => Has W w.heap.size 84 (rankC a) ∧ Has W (w.heap.size + 1) 84 (rankC b) ∧ Below w.heap.size w W) (Plan.of [(0, true), (1, true), (2, true), (3, true), (5, true), (6, true), (7, true), (8, true), (10, true), (11, true), (12, true), (13, true), (15, true), (16, true), (17, true), (18, true), (4, false), (9, false), (14, false), (19, false), (20, false), (21, false), (22, true), (23, true)] .done) (by kernel_rfl) (by kernel_rfl) (by kernel_rfl) (by kernel_rfl) hS ?_
  have hz : ∀ W, (Has W w.heap.size 84 (rankC a) ∧ Has W (w.heap.size + 1) 84 (rankC b) ∧ Below w.heap.size w W) → (W.cell? ⟨w.heap.size, 0, none⟩ = some (.int .u32 (a.started : Int)) ∧ W.cell? ⟨w.heap.size, 0 + 1, none⟩ = some (.int .u32 (a.since : Int)) ∧ W.cell? ⟨w.heap.size, 0 + 2, none⟩ = some (.int .u32 (a.n : Int)) ∧ W.cell? ⟨w.heap.size, 0 + 3, none⟩ = some (.int .i64 a.osd)) ∧ (W.cell? ⟨w.heap.size + 1, 0, none⟩ = some (.int .u32 (b.started : Int)) ∧ W.cell? ⟨w.heap.size + 1, 0 + 1, none⟩ = some (.int .u32 (b.since : Int)) ∧ W.cell? ⟨w.heap.size + 1, 0 + 2, none⟩ = some (.int .u32 (b.n : Int)) ∧ W.cell? ⟨w.heap.size + 1, 0 + 3, none⟩ = some (.int .i64 b.osd)) := fun W h =>
    ⟨⟨h.1.cell 0, h.1.cell 1, h.1.cell 2, h.1.cell 3⟩, ⟨h.2.1.cell 0, h.2.1.cell 1, h.2.1.cell 2, h.2.1.cell 3⟩⟩
  iterate 16
    first
      | (refine plan_pass _ rfl (by rfl) ?_)
      | (refine plan_take _ _ rfl (.inl ⟨by rfl, fun W hS => by obtain ⟨⟨z0, z1, z2, z3⟩, y0, y1, y2, y3⟩ := hz W hS; go_simp; try with_reducible rfl⟩) ?_)
    try simp only [Act.put, List.setIfInBounds_toArray, List.set_cons_zero, List.set_cons_succ]
  refine plan_run _ rfl (fun K hK => ?_)
  go_simp
  refine (cmpU_any a.started b.started _).mono ?_
  rintro e w3 ⟨rfl, rfl⟩
  refine hK.out _ _ hS ?_
  clear hK K
  refine plan_run _ rfl (fun K hK => ?_)
  go_simp
  refine (cmpU_any a.since b.since _).mono ?_
  rintro e w3 ⟨rfl, rfl⟩
  refine hK.out _ _ hS ?_
  clear hK K
  refine plan_run _ rfl (fun K hK => ?_)
  go_simp
  refine (cmpU_any a.n b.n _).mono ?_
  rintro e w3 ⟨rfl, rfl⟩
  refine hK.out _ _ hS ?_
  clear hK K
  refine plan_run _ rfl (fun K hK => ?_)
  go_simp
  refine (cmpI_any b.osd a.osd _).mono ?_
  rintro e w3 ⟨rfl, rfl⟩
  refine hK.out _ _ hS ?_
  clear hK K
  have hr1 := cmpN_bd a.started b.started
  have hr2 := cmpN_bd a.since b.since
  have hr3 := cmpN_bd a.n b.n
  have hr4 := cmpN_bd b.osd a.osd
  generalize cmpN a.started b.started = r1 at *
  generalize cmpN a.since b.since = r2 at *
  generalize cmpN a.n b.n = r3 at *
  generalize cmpN b.osd a.osd = r4 at *
  have hN := Has.new w2.drew 3 #[.int .i64 r1, .int .i64 r2, .int .i64 r3, .int .i64 r4]
  have hbn := (Below.refl w2.drew.heap.size w2.drew).alloc (Nat.le_refl _) (.cells #[.int .i64 r1, .int .i64 r2, .int .i64 r3, .int .i64 r4] 3)
  replace hS : _ ∧ _ ∧ _ := ⟨hS.1.later hbn, hS.2.1.later hbn, hS.2.2.trans (hbn.mono hS.2.2.size)⟩
  have hIx : Ix (w2.drew.alloc (.cells #[.int .i64 r1, .int .i64 r2, .int .i64 r3, .int .i64 r4] 3)) (some ⟨w2.drew.heap.size, 0, none⟩) 4 [r1, r2, r3, r4] := by
    refine ⟨Nat.le_refl _, by decide, (fun h => by cases h), fun ad had j hj => ?_⟩
    obtain rfl := Option.some.inj had
    have hc := hN.cell j
    rw [Addr.add_mid, Nat.zero_add, hc]
    have hj : j < 4 := hj
    match j, hj with
    | 0, _ => rfl
    | 1, _ => rfl
    | 2, _ => rfl
    | 3, _ => rfl
  refine plan_run _ rfl (fun K hK => ?_)
  go_simp
  refine hK.out _ _ hS ?_
  clear hK K
  refine plan_run _ rfl (fun K hK => ?_)
  go_simp
  refine (or_any _ 4 [r1, r2, r3, r4] _ hIx (by show 4 ≤ 1000000; decide)).mono ?_
  rintro e w4 ⟨rfl, rfl⟩
  refine hK.out _ _ hS ?_
  clear hK K
  iterate 2
    first
      | (refine plan_pass _ rfl (by rfl) ?_)
      | (refine plan_take _ _ rfl (.inl ⟨by rfl, fun W hS => by clear hS; go_simp; try with_reducible rfl⟩) ?_)
    try simp only [Act.put, List.setIfInBounds_toArray, List.set_cons_zero, List.set_cons_succ]
  refine plan_done ?_
  go_wp2
  go_ret
  exact ⟨by rw [← hF.out]; rfl, hS.2.2⟩

set_option maxHeartbeats 4000000 in
theorem ranked_any (o : Int) (s : StV) (ao : Option Addr) (c : Nat) (w : World) (hs : StOk s) (h : Sl w ao c 8 (entR s.log)) :
    Calls Try.prog 33 #[.int .i64 o, .agg (stC s ao c)] w fun en w' => en = .returned (.agg (rankC (rankOf o s))) ∧ Below w.heap.size w w' := by
  obtain ⟨w1, hw1⟩ : ∃ W, w.alloc (.cells (stC s ao c) 63) = W := ⟨_, rfl⟩
  have hs1 : w1.heap.size = w.heap.size + 1 := by rw [← hw1]; simp
  have hA1 : Has w1 w.heap.size 63 (stC s ao c) := hw1 ▸ Has.new _ _ _
  obtain ⟨w2, hw2⟩ : ∃ W, w1.alloc (.cells (rankC ⟨0, 0, 0, 0⟩) 84) = W := ⟨_, rfl⟩
  have hR : Has w2 (w.heap.size + 1) 84 (rankC ⟨0, 0, 0, 0⟩) := by rw [← hs1, ← hw2]; exact Has.new _ _ _
  have hA : Has w2 w.heap.size 63 (stC s ao c) := by rw [← hw2]; exact hA1.alloc _
  have hb : Below w.heap.size w w2 := by
    rw [← hw2]
    exact (hw1 ▸ (Below.refl _ _).alloc (Nat.le_refl _) _ : Below w.heap.size w w1).alloc (by omega) _
  have hsw : (w.alloc (.cells (stC s ao c) 63)).alloc (.cells (rankC ⟨0, 0, 0, 0⟩) 84) = w2 := by rw [hw1, hw2]
  clear hw1 hw2 hs1 hA1
  go_enter Try.func33, Try.ntmps33
  go_wp2_with (first
    | (refine wpList_alloc_has (by rfl) 84 rfl (rankC ⟨0, 0, 0, 0⟩) rank_zero ?_; rw [hsw])
    | (refine wpList_load_has (by rfl) 63 _ rfl w.heap.size rfl 63 (stC s ao c) _ Try.underlying63 rfl (st_size _ _ _) ?hg ?_; (case hg => exact hA)))
  refine (head_any s ao c _ hs (h.later hb)).mono ?_
  rintro e w3 ⟨rfl, hq⟩
  replace hA := hA.later hq
  replace hR := hR.later hq
  replace hb := hb.trans (hq.mono hb.size)
  clear hq hsw
  have c0 : w3.cell? ⟨w.heap.size, 0, none⟩ = some (.int .u32 (s.started : Int)) := hA.cell 0
  have hr : Hid (rankOf o s = ⟨s.started, (headM s).1, (headM s).2, o⟩) := rfl
  generalize (headM s).1 = h1 at *
  generalize (headM s).2 = h2 at *
  have hbu := rank_built ⟨s.started, h1, h2, o⟩
  have hRr := hR.row (rankC ⟨s.started, h1, h2, o⟩)
  have hb5 := below_setRow hb (show w.heap.size ≤ w.heap.size + 1 by omega) (rankC ⟨s.started, h1, h2, o⟩)
  go_wp2_with (first
    | (refine wpList_build_has (by rfl) 84 _ rfl (rankC ⟨s.started, h1, h2, o⟩) (by first | exact hbu | simpa using hbu) ?_)
    | (refine wpList_store_has (by rfl) 84 _ _ rfl (w.heap.size + 1) rfl (rankC ⟨s.started, h1, h2, o⟩) rfl 84 (rankC ⟨0, 0, 0, 0⟩) (rank_size _) rfl (rank_one _) ?hg ?_; (case hg => exact hR)))
  refine ret_has rfl (w.heap.size + 1) rfl 84 (rankC ⟨s.started, h1, h2, o⟩) _ Try.underlying84 rfl (rank_size _) hRr rfl ⟨by rw [hr.out], hb5⟩
end Go.Proofs.Ytlbokkbngbpmiaa
