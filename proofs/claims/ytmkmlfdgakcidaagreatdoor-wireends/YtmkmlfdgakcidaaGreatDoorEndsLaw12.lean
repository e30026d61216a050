/- Who may write to whom. -/
import Derived.Test.YtmkmlfdgakcidaaGreatDoorWireKnown
import Derived.Test.YtmkmlfdgakcidaaGreatDoorWireFew
namespace Go.Proofs.YtmkmlfdgakcidaaGreatDoor
set_option linter.unusedSimpArgs false
set_option linter.unusedVariables false
set_option maxRecDepth 100000
open Go.RowKit

def kindM (n : Nat) : Nat := if n < 3 then 0 else if 10 ≤ n ∧ n < 15 then 1 else if 21 ≤ n ∧ n < 24 then 2 else 3
theorem kind_side {a b : Nat} (h : sideM a = sideM b) (h0 : sideM a ≠ 0) : kindM a = kindM b := by
  unfold sideM at *
  unfold kindM
  repeat' split at h <;> first | omega | skip
  all_goals repeat' split
  all_goals first | rfl | omega
theorem side_in (n : Nat) : sideM n = 0 ∨ sideM n = 1 ∨ sideM n = 2 ∨ sideM n = 4 := by
  unfold sideM
  repeat' split
  all_goals simp
theorem fr_one : ∀ k : Nat, k < 19 → k ≠ 6 → ((shapeM k).fr = 0 ∨ (shapeM k).fr = 1 ∨ (shapeM k).fr = 2 ∨ (shapeM k).fr = 4) := by decide
theorem dst_one : ∀ k : Nat, k < 19 → k ≠ 5 → ((shapeM k).dst = 0 ∨ (shapeM k).dst = 1 ∨ (shapeM k).dst = 2 ∨ (shapeM k).dst = 4) := by decide
theorem and_side {f s : Nat} (hf : f = 0 ∨ f = 1 ∨ f = 2 ∨ f = 4) (hs : s = 0 ∨ s = 1 ∨ s = 2 ∨ s = 4) (h : f &&& s ≠ 0) : s = f ∧ f ≠ 0 := by
  rcases hf with rfl | rfl | rfl | rfl <;> rcases hs with rfl | rfl | rfl | rfl <;> first | exact absurd rfl h | exact ⟨rfl, by decide⟩
theorem shape_in (k : Nat) : k < 19 ∨ shapeM k = sh0 := by
  by_cases h : 1 ≤ k ∧ k ≤ 18
  · exact .inl (by omega)
  · exact .inr (shape_other h)
theorem goes_is {s : ShV} {m : MsgV} (h : goesM s m = true) : s.fr &&& sideM m.src ≠ 0 ∧ s.dst &&& sideM m.dst ≠ 0 ∧ m.src ≠ m.dst := by
  unfold goesM at h
  simp only [Bool.and_eq_true, decide_eq_true_iff] at h
  exact h
theorem ends_fact {m : MsgV} {f t : Nat} (h : isMsg m = true) (hn : isMsg { m with src := f, dst := t } = true) : f ≠ t ∧ (m.kind ≠ 6 → kindM f = kindM m.src) ∧ (m.kind ≠ 5 → kindM t = kindM m.dst) := by
  obtain ⟨g1, _, _⟩ := isMsg_is.1 h
  obtain ⟨g2, _, _⟩ := isMsg_is.1 hn
  obtain ⟨a1, a2, a3⟩ := goes_is g1
  obtain ⟨b1, b2, b3⟩ := goes_is g2
  have b1 : (shapeM m.kind).fr &&& sideM f ≠ 0 := b1
  have b2 : (shapeM m.kind).dst &&& sideM t ≠ 0 := b2
  refine ⟨b3, fun hk => ?_, fun hk => ?_⟩
  · rcases shape_in m.kind with hl | e
    · have hf := fr_one m.kind hl hk
      obtain ⟨e1, z1⟩ := and_side hf (side_in _) a1
      obtain ⟨e2, z2⟩ := and_side hf (side_in _) b1
      exact kind_side (e2.trans e1.symm) (by rw [e2]; exact z1)
    · rw [e] at a1
      exact absurd (Nat.zero_and _) a1
  · rcases shape_in m.kind with hl | e
    · have hf := dst_one m.kind hl hk
      obtain ⟨e1, z1⟩ := and_side hf (side_in _) a2
      obtain ⟨e2, z2⟩ := and_side hf (side_in _) b2
      exact kind_side (e2.trans e1.symm) (by rw [e2]; exact z1)
    · rw [e] at a2
      exact absurd (Nat.zero_and _) a2

theorem kind_any (n : Nat) (w : World) (hn : n < 256) : Calls Tryz.prog 25 #[.int .u8 (n : Nat)] w fun e w' => e = .returned (.int .i64 (kindM n : Nat)) ∧ w' = w := by
  by_cases h1 : n < 3
  · have e : kindM n = 0 := by unfold kindM; rw [if_pos h1]
    rw [e]
    have i1 : (n : Int) < 3 := by omega
    go_enter Tryz.func25, Tryz.ntmps25
    go_wp2
    go_ret
    exact ⟨rfl, rfl⟩
  have i1 : ¬ (n : Int) < 3 := by omega
  by_cases h2 : 10 ≤ n
  · have i2 : (10 : Int) ≤ (n : Int) := by omega
    by_cases h3 : n < 15
    · have e : kindM n = 1 := by unfold kindM; rw [if_neg h1, if_pos ⟨h2, h3⟩]
      rw [e]
      have i3 : (n : Int) < 15 := by omega
      go_enter Tryz.func25, Tryz.ntmps25
      go_wp2
      go_ret
      exact ⟨rfl, rfl⟩
    have i3 : ¬ (n : Int) < 15 := by omega
    by_cases h4 : 21 ≤ n
    · have i4 : (21 : Int) ≤ (n : Int) := by omega
      by_cases h5 : n < 24
      · have e : kindM n = 2 := by unfold kindM; rw [if_neg h1, if_neg (by omega), if_pos ⟨h4, h5⟩]
        rw [e]
        have i5 : (n : Int) < 24 := by omega
        go_enter Tryz.func25, Tryz.ntmps25
        go_wp2
        go_ret
        exact ⟨rfl, rfl⟩
      · have e : kindM n = 3 := by unfold kindM; rw [if_neg h1, if_neg (by omega), if_neg (by omega)]
        rw [e]
        have i5 : ¬ (n : Int) < 24 := by omega
        have j5 : decide ((n : Int) < 24) = false := decide_eq_false i5
        go_enter Tryz.func25, Tryz.ntmps25
        go_wp2
        go_ret
        exact ⟨rfl, rfl⟩
    · have e : kindM n = 3 := by unfold kindM; rw [if_neg h1, if_neg (by omega), if_neg (by omega)]
      rw [e]
      have i4 : ¬ (21 : Int) ≤ (n : Int) := by omega
      have j3 : decide ((n : Int) < 15) = false := decide_eq_false i3
      have j4 : decide ((21 : Int) ≤ (n : Int)) = false := decide_eq_false i4
      go_enter Tryz.func25, Tryz.ntmps25
      go_wp2
      go_ret
      exact ⟨rfl, rfl⟩
  · have e : kindM n = 3 := by unfold kindM; rw [if_neg h1, if_neg (by omega), if_neg (by omega)]
    rw [e]
    have i2 : ¬ (10 : Int) ≤ (n : Int) := by omega
    have j2 : decide ((10 : Int) ≤ (n : Int)) = false := decide_eq_false i2
    have i4 : ¬ (21 : Int) ≤ (n : Int) := by omega
    have j4 : decide ((21 : Int) ≤ (n : Int)) = false := decide_eq_false i4
    go_enter Tryz.func25, Tryz.ntmps25
    go_wp2
    go_ret
    exact ⟨rfl, rfl⟩
theorem mset_src (k f t e : Nat) (b a : BalV) (h : Bool) (i : IncV) (g : Nat) (s : StV) (d : DiffV) (x : EntV) (n : Nat) (o : OpV) (r : ResV) (a1 a2 a3 : Option Addr) (c1 c2 c3 : Nat) (y : Nat) : (msgC ⟨k, f, t, e, b, a, h, i, g, s, d, x, n, o, r⟩ a1 c1 a2 c2 a3 c3).setIfInBounds 1 (.int .u8 (y : Int)) = msgC ⟨k, y, t, e, b, a, h, i, g, s, d, x, n, o, r⟩ a1 c1 a2 c2 a3 c3 := by kernel_rfl
theorem mset_dst (k f t e : Nat) (b a : BalV) (h : Bool) (i : IncV) (g : Nat) (s : StV) (d : DiffV) (x : EntV) (n : Nat) (o : OpV) (r : ResV) (a1 a2 a3 : Option Addr) (c1 c2 c3 : Nat) (y : Nat) : (msgC ⟨k, f, t, e, b, a, h, i, g, s, d, x, n, o, r⟩ a1 c1 a2 c2 a3 c3).setIfInBounds 2 (.int .u8 (y : Int)) = msgC ⟨k, f, y, e, b, a, h, i, g, s, d, x, n, o, r⟩ a1 c1 a2 c2 a3 c3 := by kernel_rfl
theorem Has.mset_src {w : World} {g : Nat} {m : MsgV} {a1 a2 a3 : Option Addr} {c1 c2 c3 : Nat} (h : Has w g 48 (msgC m a1 c1 a2 c2 a3 c3)) (y : Nat) : Has (w.setCell ⟨g, 1, none⟩ (.int .u8 (y : Int))) g 48 (msgC { m with src := y } a1 c1 a2 c2 a3 c3) := by
  have := h.set 1 (.int .u8 (y : Int))
  rw [show (msgC m a1 c1 a2 c2 a3 c3).setIfInBounds 1 (.int .u8 (y : Int)) = msgC { m with src := y } a1 c1 a2 c2 a3 c3 from Go.Proofs.YtmkmlfdgakcidaaGreatDoor.mset_src _ _ _ _ _ _ _ _ _ _ _ _ _ _ _ _ _ _ _ _ _ _] at this
  exact this
theorem Has.mset_dst {w : World} {g : Nat} {m : MsgV} {a1 a2 a3 : Option Addr} {c1 c2 c3 : Nat} (h : Has w g 48 (msgC m a1 c1 a2 c2 a3 c3)) (y : Nat) : Has (w.setCell ⟨g, 2, none⟩ (.int .u8 (y : Int))) g 48 (msgC { m with dst := y } a1 c1 a2 c2 a3 c3) := by
  have := h.set 2 (.int .u8 (y : Int))
  rw [show (msgC m a1 c1 a2 c2 a3 c3).setIfInBounds 2 (.int .u8 (y : Int)) = msgC { m with dst := y } a1 c1 a2 c2 a3 c3 from Go.Proofs.YtmkmlfdgakcidaaGreatDoor.mset_dst _ _ _ _ _ _ _ _ _ _ _ _ _ _ _ _ _ _ _ _ _ _] at this
  exact this
theorem MsgSl.of {w : World} {m n : MsgV} {a1 a2 a3 : Option Addr} {c1 c2 c3 : Nat} (h : MsgSl w m a1 c1 a2 c2 a3 c3) (e1 : n.st.log = m.st.log) (e2 : n.diff.log = m.diff.log) (e3 : n.diff.whole.log = m.diff.whole.log) : MsgSl w n a1 c1 a2 c2 a3 c3 := ⟨by rw [e1]; exact h.st, by rw [e2]; exact h.log, by rw [e3]; exact h.whole⟩

set_option maxHeartbeats 8000000 in
theorem ends_walk (m : MsgV) (a1 a2 a3 : Option Addr) (c1 c2 c3 f t : Nat) (w : World) (hm0 : MsgIn m) (s1 : Sl w a1 c1 8 (entR m.st.log)) (s2 : Sl w a2 c2 8 (entR m.diff.log)) (s3 : Sl w a3 c3 8 (entR m.diff.whole.log)) (hf : f < 256) (ht : t < 256) (hL : Laid w) :
    Calls Tryz.prog 7 #[.agg (msgC m a1 c1 a2 c2 a3 c3), .int .u8 (f : Nat), .int .u8 (t : Nat)] w fun e w' => e = .returned (.bool true) ∧ Below w.heap.size w w' := by
  obtain ⟨w1, hw1, hX, hb1⟩ := one_var w 48 (msgC m a1 c1 a2 c2 a3 c3)
  have hk := wknown_any w1 (hL.next hb1)
  replace hk : Hid _ := hk
  go_enter Tryz.func7, Tryz.ntmps7
  go_wp2_with fail
  refine Calls.mono hk.out ?_
  rintro e w2 ⟨rfl, hq⟩
  clear hk hw1
  replace hX := hX.later hq
  have hb2 := hb1.trans (hq.mono hb1.size)
  clear hq hb1
  go_wp2_with (first
    | (refine wpList_load_has (by rfl) 48 _ rfl w.heap.size rfl 48 (msgC m a1 c1 a2 c2 a3 c3) _ Tryz.underlying48 rfl (msg_size m a1 a2 a3 c1 c2 c3) ?hg ?_; (case hg => exact hX))
    | fail)
  refine (few_any m a1 a2 a3 c1 c2 c3 _ hm0 (s1.later hb2) (s2.later hb2) (s3.later hb2)).mono ?_
  rintro e w3 ⟨⟨b, rfl, hbt⟩, hq⟩
  replace hX := hX.later hq
  have hb3 := hb2.trans (hq.mono hb2.size)
  clear hq hb2
  cases b with
  | false =>
    clear hbt
    go_wp2
    go_ret
    exact ⟨rfl, hb3⟩
  | true =>
  obtain ⟨k1, k2, k3⟩ := hbt rfl
  have hm : MsgOk m := hm0.ok (by omega) (by omega) (by omega)
  clear hbt k1 k2 k3 hm0
  have sm3 : MsgSl w3 m a1 c1 a2 c2 a3 c3 := ⟨s1.later hb3, s2.later hb3, s3.later hb3⟩
  go_wp2_with (first
    | (refine wpList_load_has (by rfl) 48 _ rfl w.heap.size rfl 48 (msgC m a1 c1 a2 c2 a3 c3) _ Tryz.underlying48 rfl (msg_size m a1 a2 a3 c1 c2 c3) ?hg ?_; (case hg => exact hX))
    | fail)
  refine (wis_any m a1 a2 a3 c1 c2 c3 _ hm sm3).mono ?_
  rintro e w4 ⟨rfl, hq⟩
  replace hX := hX.later hq
  have hb4 := hb3.trans (hq.mono hb3.size)
  clear hq hb3 sm3
  cases hi : isMsg m with
  | false =>
    go_wp2
    go_ret
    exact ⟨rfl, hb4⟩
  | true =>
  replace hi : Hid _ := hi
  obtain ⟨w5, hw5, hY, hq⟩ := new_var w4 48 (msgC msg0 none 0 none 0 none 0) (msgC m a1 c1 a2 c2 a3 c3)
  have hX4 := hX
  replace hX := hX.later hq
  have hb5 := hb4.trans (hq.mono hb4.size)
  have h45 : w.heap.size ≤ w4.heap.size := hb4.size
  have hlt4 : w.heap.size < w4.heap.size := hX4.lt
  clear hq hb4
  have hcS := hY.mc_src
  have hzS := hY.free 1
  have hY1 := hY.mset_src f
  have hcD := hY1.mc_dst
  have hzD := hY1.free 2
  have hY2 := hY1.mset_dst t
  have hB1 : But w4.heap.size w5 (w5.setCell ⟨w4.heap.size, 1, none⟩ (.int .u8 (f : Int))) := but_cell _ _ _
  have hB2 : But w4.heap.size (w5.setCell ⟨w4.heap.size, 1, none⟩ (.int .u8 (f : Int))) ((w5.setCell ⟨w4.heap.size, 1, none⟩ (.int .u8 (f : Int))).setCell ⟨w4.heap.size, 2, none⟩ (.int .u8 (t : Int))) := but_cell _ _ _
  have hX6 := hB2.has (hB1.has hX (by omega)) (by omega)
  have hb6 := (hb5.setCell (p := ⟨w4.heap.size, 1, none⟩) h45 (.int .u8 (f : Int))).setCell (p := ⟨w4.heap.size, 2, none⟩) h45 (.int .u8 (t : Int))
  have sm6 : MsgSl ((w5.setCell ⟨w4.heap.size, 1, none⟩ (.int .u8 (f : Int))).setCell ⟨w4.heap.size, 2, none⟩ (.int .u8 (t : Int))) { m with src := f, dst := t } a1 c1 a2 c2 a3 c3 := ⟨s1.later hb6, s2.later hb6, s3.later hb6⟩
  have hm6 : MsgOk { m with src := f, dst := t } := ⟨hm.kind, hf, ht, hm.epoch, hm.b, hm.acc, hm.inc, hm.group, hm.st, hm.diff, hm.ent, hm.n, hm.op, hm.r⟩
  obtain ⟨mn, hmn⟩ : ∃ mn, mn = { m with src := f, dst := t } := ⟨_, rfl⟩
  have hY2 : Has ((w5.setCell ⟨w4.heap.size, 1, none⟩ (.int .u8 (f : Int))).setCell ⟨w4.heap.size, 2, none⟩ (.int .u8 (t : Int))) w4.heap.size 48 (msgC mn a1 c1 a2 c2 a3 c3) := by rw [hmn]; exact hY2
  rw [← hmn] at sm6 hm6
  replace hmn : Hid _ := hmn
  obtain ⟨w6, hw6⟩ : ∃ W, (w5.setCell ⟨w4.heap.size, 1, none⟩ (.int .u8 (f : Int))).setCell ⟨w4.heap.size, 2, none⟩ (.int .u8 (t : Int)) = W := ⟨_, rfl⟩
  rw [hw6] at hX6 hY2 hb6 sm6
  clear hX hY hY1 hB1 hB2 hb5
  go_wp2_with (first
    | (refine wpList_load_has (by rfl) 48 _ rfl w.heap.size rfl 48 (msgC m a1 c1 a2 c2 a3 c3) _ Tryz.underlying48 rfl (msg_size m a1 a2 a3 c1 c2 c3) ?hg ?_; (case hg => exact hX4))
    | (refine wpList_alloc_has (by rfl) 48 rfl (msgC msg0 none 0 none 0 none 0) msg_zero ?_)
    | (refine wpList_store_to (by rfl) 48 _ _ rfl w4.heap.size rfl (msgC m a1 c1 a2 c2 a3 c3) rfl 48 (msgC msg0 none 0 none 0 none 0) (msg_size m a1 a2 a3 c1 c2 c3) (msg_same _ _ _ _ _ _ _ _ _ _ _ _ _ _) (msg_one m a1 a2 a3 c1 c2 c3) ?hg w5 ?hW ?_; (case hg => exact Has.new _ _ _); (case hW => exact hw5); clear hw5)
    | (refine wpList_load_has (by rfl) 48 _ rfl w4.heap.size rfl 48 (msgC mn a1 c1 a2 c2 a3 c3) _ Tryz.underlying48 rfl (msg_size mn a1 a2 a3 c1 c2 c3) ?hg ?_; (case hg => exact hY2))
    | fail)
  refine (wis_any mn a1 a2 a3 c1 c2 c3 _ hm6 sm6).mono ?_
  rintro e w7 ⟨rfl, hq⟩
  replace hX6 := hX6.later hq
  replace hY2 := hY2.later hq
  have hb7 := hb6.trans (hq.mono hb6.size)
  have sm7 := sm6.later hq
  clear hq hb6 sm6 hw6 hX4 hcS hzS hcD hzD
  cases hin : isMsg mn with
  | false =>
    replace hin : Hid _ := hin
    go_wp2_with (first
      | (refine wpList_load_has (by rfl) 48 _ rfl w4.heap.size rfl 48 (msgC mn a1 c1 a2 c2 a3 c3) _ Tryz.underlying48 rfl (msg_size mn a1 a2 a3 c1 c2 c3) ?hg ?_; (case hg => exact hY2))
      | fail)
    refine (wencode_no mn a1 a2 a3 c1 c2 c3 _ hm6 sm7 hin.out).mono ?_
    rintro e w8 ⟨rfl, hq⟩
    have hb8 := hb7.trans (hq.mono hb7.size)
    go_wp2
    go_ret
    exact ⟨rfl, hb8⟩
  | true =>
  rw [hmn.out] at hin
  obtain ⟨z1, z2, z3⟩ := ends_fact hi.out hin
  have hcs := hX6.mc_src
  have hcd := hX6.mc_dst
  have hck := hX6.mc_kind
  have hsl := hm.src
  have hdl := hm.dst
  clear hmn hin hi hY2 hm6 sm7 s1 s2 s3
  go_wp2_with fail
  refine wp_region_plan (fun W => Has W w.heap.size 48 (msgC m a1 c1 a2 c2 a3 c3) ∧ Below w.heap.size w W) (Plan.of [(0, true), (1, true), (3, true), (4, true), (2, false), (5, false), (6, true), (7, true)] .done) (by kernel_rfl) (by kernel_rfl) (by kernel_rfl) (by kernel_rfl) ⟨hX6.drew, hb7.drew⟩ ?_
  replace hX6 := hX6.drew
  replace hb7 := hb7.drew
  generalize w7.drew = w8 at *
  iterate 1
    first
      | (refine plan_pass _ rfl (by rfl) ?_)
      | (refine plan_take _ _ rfl (.inl ⟨by rfl, fun W hS => by clear hS; go_simp; try with_reducible rfl⟩) ?_)
    try simp only [Act.put, List.setIfInBounds_toArray, List.set_cons_zero, List.set_cons_succ]
  iterate 1
    first
      | (refine plan_pass _ rfl (by rfl) ?_)
      | (refine plan_take _ _ rfl (.inl ⟨by rfl, fun W hS => by have z := hS.1.mc_src; go_simp; try with_reducible rfl⟩) ?_)
    try simp only [Act.put, List.setIfInBounds_toArray, List.set_cons_zero, List.set_cons_succ]
  iterate 1
    first
      | (refine plan_pass _ rfl (by rfl) ?_)
      | (refine plan_take _ _ rfl (.inl ⟨by rfl, fun W hS => by clear hS; go_simp; try with_reducible rfl⟩) ?_)
    try simp only [Act.put, List.setIfInBounds_toArray, List.set_cons_zero, List.set_cons_succ]
  iterate 1
    first
      | (refine plan_pass _ rfl (by rfl) ?_)
      | (refine plan_take _ _ rfl (.inl ⟨by rfl, fun W hS => by have z := hS.1.mc_dst; go_simp; try with_reducible rfl⟩) ?_)
    try simp only [Act.put, List.setIfInBounds_toArray, List.set_cons_zero, List.set_cons_succ]
  refine plan_run _ rfl (fun K hK => ?_)
  go_simp
  refine (kind_any m.src _ hsl).mono ?_
  rintro en w9 ⟨rfl, rfl⟩
  refine hK.out _ _ ⟨hX6, hb7⟩ ?_
  clear hK K
  try simp only [Act.put, List.setIfInBounds_toArray, List.set_cons_zero, List.set_cons_succ]
  refine plan_run _ rfl (fun K hK => ?_)
  go_simp
  refine (kind_any m.dst _ hdl).mono ?_
  rintro en w10 ⟨rfl, rfl⟩
  refine hK.out _ _ ⟨hX6, hb7⟩ ?_
  clear hK K
  try simp only [Act.put, List.setIfInBounds_toArray, List.set_cons_zero, List.set_cons_succ]
  iterate 2
    first
      | (refine plan_pass _ rfl (by rfl) ?_)
      | (refine plan_take _ _ rfl (.inl ⟨by rfl, fun W hS => by clear hS; go_simp; try with_reducible rfl⟩) ?_)
    try simp only [Act.put, List.setIfInBounds_toArray, List.set_cons_zero, List.set_cons_succ]
  refine plan_done ?_
  have hck := hX6.mc_kind
  have n1 : ((f : Int) == (t : Int)) = false := by simp; omega
  have n2 : ((f : Int) != (t : Int)) = true := by simp; omega
  have n3 : decide ((f : Int) = (t : Int)) = false := decide_eq_false (by omega)
  have n4 : ¬ (f : Int) = (t : Int) := by omega
  clear z1
  go_wp2_with fail
  refine (kind_any f _ hf).mono ?_
  rintro en w11 ⟨rfl, rfl⟩
  have hkt : Calls Tryz.prog 25 #[.int .u8 (t : Nat)] w11 _ := kind_any t w11 ht
  replace hkt : Hid _ := hkt
  replace z3 : Hid _ := z3
  have key : ∀ (x y k q : Nat), (k ≠ q → x = y) → x = y ∨ (x ≠ y ∧ k = q) := fun x y k q h => by
    by_cases hx : x = y
    · exact .inl hx
    · exact .inr ⟨hx, Classical.byContradiction fun hk => hx (h hk)⟩
  have o2 := key _ _ _ _ z2
  have o3 := key _ _ _ _ z3.out
  replace o3 : Hid _ := o3
  clear z2 z3 key
  generalize kindM f = kf at *
  generalize kindM m.src = ks at *
  generalize kindM t = kt at *
  generalize kindM m.dst = kd at *
  rcases o2 with rfl | ⟨q, hq6⟩
  · rcases o3.out with rfl | ⟨q, hq5⟩
    · clear o3
      go_wp2_with fail
      refine Calls.mono hkt.out ?_
      rintro en w12 ⟨rfl, rfl⟩
      go_wp2
      go_ret
      exact ⟨rfl, hb7⟩
    · have p1 : ((kt : Int) == (kd : Int)) = false := by simp; omega
      have p2 : decide ((kt : Int) = (kd : Int)) = false := decide_eq_false (by omega)
      have p3 : ¬ (kt : Int) = (kd : Int) := by omega
      have p4 : ((m.kind : Int) == 5) = true := by simp; omega
      have p5 : decide ((m.kind : Int) = 5) = true := decide_eq_true (by omega)
      have p6 : (m.kind : Int) = 5 := by omega
      clear o3 q hq5
      go_wp2_with fail
      refine Calls.mono hkt.out ?_
      rintro en w12 ⟨rfl, rfl⟩
      go_wp2
      go_ret
      exact ⟨rfl, hb7⟩
  · have p1 : ((kf : Int) == (ks : Int)) = false := by simp; omega
    have p2 : decide ((kf : Int) = (ks : Int)) = false := decide_eq_false (by omega)
    have p3 : ¬ (kf : Int) = (ks : Int) := by omega
    have p4 : ((m.kind : Int) == 6) = true := by simp; omega
    have p5 : decide ((m.kind : Int) = 6) = true := decide_eq_true (by omega)
    have p6 : (m.kind : Int) = 6 := by omega
    obtain rfl : kt = kd := by
      rcases o3.out with e | ⟨_, e⟩
      · exact e
      · omega
    clear o3 q hq6
    go_wp2_with fail
    refine Calls.mono hkt.out ?_
    rintro en w12 ⟨rfl, rfl⟩
    go_wp2
    go_ret
    exact ⟨rfl, hb7⟩
end Go.Proofs.YtmkmlfdgakcidaaGreatDoor
