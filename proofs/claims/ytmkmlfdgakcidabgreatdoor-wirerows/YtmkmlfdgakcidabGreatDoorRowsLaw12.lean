/- Messages' bytes are unlike, where they are: WireRows. Written by tools/rgen12.py. -/
import Derived.Test.YtmkmlfdgakcidabGreatDoorWireKnown
import Derived.Test.YtmkmlfdgakcidabGreatDoorWireFew
import Derived.Test.YtmkmlfdgakcidabGreatDoorBytesOwn
namespace Go.Proofs.YtmkmlfdgakcidabGreatDoor
set_option linter.unusedSimpArgs false
set_option linter.unusedVariables false
set_option maxRecDepth 100000
open Go.RowKit

theorem Has.under {a b : World} {B g : Nat} {t : TypeId} {c : Array Value} (h : Has a g t c) (k : Below B a b) (hg : g < B) : Has b g t c := by
  unfold Has at *
  rw [k.block g hg]
  exact h
theorem By.under {a b : World} {B : Nat} {ao : Option Addr} {c : Nat} {xs : List UInt8} (h : By a ao c xs) (k : Below B a b) (hg : ∀ ad, ao = some ad → ad.block < B) : By b ao c xs := by
  refine ⟨h.le, h.cap, h.nil, fun ad had j u hu => ?_⟩
  have e : (ad.add j).block = ad.block := by unfold Addr.add; split <;> rfl
  rw [World.cell?_of_block (w := a) (by rw [e]; exact k.block _ (hg ad had))]
  exact h.at' ad had j u hu
set_option maxHeartbeats 40000000 in
theorem rows_walk (m n : MsgV) (a1 a2 a3 b1 b2 b3 : Option Addr) (c1 c2 c3 d1 d2 d3 : Nat) (w : World) (hm0 : MsgIn m) (s1 : Sl w a1 c1 8 (entR m.st.log)) (s2 : Sl w a2 c2 8 (entR m.diff.log)) (s3 : Sl w a3 c3 8 (entR m.diff.whole.log)) (hn0 : MsgIn n) (t1 : Sl w b1 d1 8 (entR n.st.log)) (t2 : Sl w b2 d2 8 (entR n.diff.log)) (t3 : Sl w b3 d3 8 (entR n.diff.whole.log)) (hL : Laid w) :
    Calls Tryz.prog 3 #[.agg (msgC m a1 c1 a2 c2 a3 c3), .agg (msgC n b1 d1 b2 d2 b3 d3)] w fun e w' => e = .returned (.bool true) ∧ Below w.heap.size w w' := by
  obtain ⟨w1, hw1, hX, hY, hb1⟩ := two_vars w 48 48 (msgC m a1 c1 a2 c2 a3 c3) (msgC n b1 d1 b2 d2 b3 d3)
  have hk := wknown_any w1 (hL.next hb1)
  replace hk : Hid _ := hk
  go_enter Tryz.func3, Tryz.ntmps3
  go_wp2_with fail
  refine Calls.mono hk.out ?_
  rintro e w2 ⟨rfl, hq⟩
  clear hk hw1
  replace hX := hX.later hq
  replace hY := hY.later hq
  have hb2 := hb1.trans (hq.mono hb1.size)
  clear hq hb1
  go_wp2_with (first
    | (refine wpList_load_has (by rfl) 48 _ rfl w.heap.size rfl 48 (msgC m a1 c1 a2 c2 a3 c3) _ Tryz.underlying48 rfl (msg_size m a1 a2 a3 c1 c2 c3) ?hg ?_; (case hg => exact hX))
    | fail)
  refine (few_any m a1 a2 a3 c1 c2 c3 _ hm0 (s1.later hb2) (s2.later hb2) (s3.later hb2)).mono ?_
  rintro e w3 ⟨⟨bb, rfl, hbt⟩, hq⟩
  replace hX := hX.later hq
  replace hY := hY.later hq
  have hb3 := hb2.trans (hq.mono hb2.size)
  clear hq hb2
  cases bb with
  | false =>
    clear hbt
    go_wp2
    go_ret
    exact ⟨rfl, hb3⟩
  | true =>
  obtain ⟨k1, k2, k3⟩ := hbt rfl
  have hm : MsgOk m := hm0.ok (by omega) (by omega) (by omega)
  clear hbt k1 k2 k3 hm0
  go_wp2_with (first
    | (refine wpList_load_has (by rfl) 48 _ rfl (w.heap.size + 1) rfl 48 (msgC n b1 d1 b2 d2 b3 d3) _ Tryz.underlying48 rfl (msg_size n b1 b2 b3 d1 d2 d3) ?hg ?_; (case hg => exact hY))
    | fail)
  refine (few_any n b1 b2 b3 d1 d2 d3 _ hn0 (t1.later hb3) (t2.later hb3) (t3.later hb3)).mono ?_
  rintro e w4 ⟨⟨bb, rfl, hbt⟩, hq⟩
  replace hX := hX.later hq
  replace hY := hY.later hq
  have hb4 := hb3.trans (hq.mono hb3.size)
  clear hq hb3
  cases bb with
  | false =>
    clear hbt
    go_wp2
    go_ret
    exact ⟨rfl, hb4⟩
  | true =>
  obtain ⟨k1, k2, k3⟩ := hbt rfl
  have hn : MsgOk n := hn0.ok (by omega) (by omega) (by omega)
  clear hbt k1 k2 k3 hn0
  have sm4 : MsgSl w4 m a1 c1 a2 c2 a3 c3 := ⟨s1.later hb4, s2.later hb4, s3.later hb4⟩
  go_wp2_with (first
    | (refine wpList_load_has (by rfl) 48 _ rfl w.heap.size rfl 48 (msgC m a1 c1 a2 c2 a3 c3) _ Tryz.underlying48 rfl (msg_size m a1 a2 a3 c1 c2 c3) ?hg ?_; (case hg => exact hX))
    | fail)
  refine (wis_any m a1 a2 a3 c1 c2 c3 _ hm sm4).mono ?_
  rintro e w5 ⟨rfl, hq⟩
  replace hX := hX.later hq
  replace hY := hY.later hq
  have hb5 := hb4.trans (hq.mono hb4.size)
  clear hq hb4 sm4
  cases hi : isMsg m with
  | false =>
    go_wp2
    go_ret
    exact ⟨rfl, hb5⟩
  | true =>
  replace hi : Hid _ := hi
  have sn5 : MsgSl w5 n b1 d1 b2 d2 b3 d3 := ⟨t1.later hb5, t2.later hb5, t3.later hb5⟩
  go_wp2_with (first
    | (refine wpList_load_has (by rfl) 48 _ rfl (w.heap.size + 1) rfl 48 (msgC n b1 d1 b2 d2 b3 d3) _ Tryz.underlying48 rfl (msg_size n b1 b2 b3 d1 d2 d3) ?hg ?_; (case hg => exact hY))
    | fail)
  refine (wis_any n b1 b2 b3 d1 d2 d3 _ hn sn5).mono ?_
  rintro e w6 ⟨rfl, hq⟩
  replace hX := hX.later hq
  replace hY := hY.later hq
  have hb6 := hb5.trans (hq.mono hb5.size)
  clear hq hb5 sn5
  cases hin : isMsg n with
  | false =>
    go_wp2
    go_ret
    exact ⟨rfl, hb6⟩
  | true =>
  replace hin : Hid _ := hin
  have hE := wencode_yes m a1 a2 a3 c1 c2 c3 w6 hm ⟨s1.later hb6, s2.later hb6, s3.later hb6⟩ hi.out
  replace hE : Hid _ := hE
  obtain ⟨xs, hxs⟩ : ∃ l, sumB (msgB m) = l := ⟨_, rfl⟩
  obtain ⟨ys, hys⟩ : ∃ l, sumB (msgB n) = l := ⟨_, rfl⟩
  have hlx : 15 ≤ xs.length ∧ xs.length ≤ 2000 := by
    have := msgB_length (isMsg_G hm hi.out)
    rw [← hxs, sumB_length]
    omega
  have hly : 15 ≤ ys.length ∧ ys.length ≤ 2000 := by
    have := msgB_length (isMsg_G hn hin.out)
    rw [← hys, sumB_length]
    omega
  have hmore : (decM (xs ++ ys)).2 ≠ 0 := by rw [← hxs]; exact dec_more hm hi.out (fun e => by rw [e] at hly; simp at hly)
  obtain ⟨d, hd⟩ : ∃ d, sameMsg m n = d := ⟨_, rfl⟩
  have hxy : (xs == ys) = d := by
    rw [← hd, Bool.eq_iff_iff, beq_iff_eq, sameMsg_is, ← hxs, ← hys]
    exact sum_inj hm hn hi.out hin.out
  rw [hxs] at hE
  replace hmore : Hid _ := hmore
  replace hxy : Hid _ := hxy
  replace hd : Hid _ := hd
  replace hys : Hid _ := hys
  replace hlx : Hid _ := hlx
  replace hly : Hid _ := hly
  clear hxs
  go_wp2_with (first
    | (refine wpList_load_has (by rfl) 48 _ rfl w.heap.size rfl 48 (msgC m a1 c1 a2 c2 a3 c3) _ Tryz.underlying48 rfl (msg_size m a1 a2 a3 c1 c2 c3) ?hg ?_; (case hg => exact hX))
    | fail)
  refine Calls.mono hE.out ?_
  rintro e w7 ⟨g7, k7, rfl, ho7, hB7, hq⟩
  have hg7 : g7 < w7.heap.size := (ho7.lt g7 rfl).2
  clear hE ho7
  replace hX := hX.later hq
  replace hY := hY.later hq
  have hb7 := hb6.trans (hq.mono hb6.size)
  clear hq hb6
  have hE := wencode_yes n b1 b2 b3 d1 d2 d3 w7 hn ⟨t1.later hb7, t2.later hb7, t3.later hb7⟩ hin.out
  rw [hys.out] at hE
  replace hE : Hid _ := hE
  go_wp2_with (first
    | (refine wpList_load_has (by rfl) 48 _ rfl (w.heap.size + 1) rfl 48 (msgC n b1 d1 b2 d2 b3 d3) _ Tryz.underlying48 rfl (msg_size n b1 b2 b3 d1 d2 d3) ?hg ?_; (case hg => exact hY))
    | fail)
  refine Calls.mono hE.out ?_
  rintro e w8 ⟨g8, k8, rfl, ho8, hB8, hq⟩
  have hg8 : g8 < w8.heap.size := (ho8.lt g8 rfl).2
  replace hg7 : g7 < w8.heap.size := Nat.lt_of_lt_of_le hg7 hq.size
  clear hE ho8
  replace hX := hX.later hq
  replace hY := hY.later hq
  have hb8 := hb7.trans (hq.mono hb7.size)
  replace hB7 := hB7.later hq
  clear hq hb7
  have hx8 : w.heap.size < w8.heap.size := hX.lt
  have hy8 : w.heap.size + 1 < w8.heap.size := hY.lt
  obtain ⟨lx, hlX⟩ : ∃ k, xs.length = k := ⟨_, rfl⟩
  obtain ⟨ly, hlY⟩ : ∃ k, ys.length = k := ⟨_, rfl⟩
  rw [hlX, hlY]
  have hl1 : 15 ≤ lx ∧ lx ≤ 2000 := by rw [← hlX]; exact hlx.out
  have hl2 : 15 ≤ ly ∧ ly ≤ 2000 := by rw [← hlY]; exact hly.out
  replace hlX : Hid _ := hlX
  replace hlY : Hid _ := hlY
  clear hlx hly
  go_wp2_with (first
    | (refine wpList_copy _ rfl _ _ rfl w8.heap.size (some ⟨g7, 0, none⟩) lx k7 xs rfl rfl hB7 hlX.out.symm (by omega) (Nat.le_refl _) ?_)
    | fail)
  intro ao9 c9 w9 ho9 hB9 hq
  replace hX := hX.later hq
  replace hY := hY.later hq
  have hb9 := hb8.trans (hq.mono hb8.size)
  replace hB7 := hB7.later hq
  replace hB8 := hB8.later hq
  have h89 : w8.heap.size ≤ w9.heap.size := hq.size
  have hw8 := hb8.size
  clear hq hB9
  go_wp2_with (first
    | (refine wpList_appB _ rfl _ _ rfl w8.heap.size _ lx xs rfl ⟨g8, 0, none⟩ ly k8 ys rfl ?ho ?hB hlY.out.symm (by omega) ?hl ?_; (case ho => exact ho9); (case hB => exact hB8); (case hl => exact h89))
    | fail)
  intro ao10 c10 w10 ho10 hB10 hq10
  have hb10 : Below w.heap.size w w10 := hb9.trans (hq10.mono hw8)
  have hfar := own_far ho10 rfl
  replace hX := hX.under hq10 hx8
  replace hY := hY.under hq10 hy8
  replace hB7 := hB7.under hq10 (fun ad had => by obtain rfl := Option.some.inj had; exact hg7)
  replace hB8 := hB8.under hq10 (fun ad had => by obtain rfl := Option.some.inj had; exact hg8)
  clear hq10 hb9 ho9 ho10 hg7 hg8 hx8 hy8
  have hD := wdecode_any ao10 (lx + ly) c10 (xs ++ ys) w10 hB10 (by rw [List.length_append, hlX.out, hlY.out]) (fun ad had => (hfar ad had).2) (hL.next hb10)
  obtain ⟨e3, he3⟩ : ∃ n, (decM (xs ++ ys)).2 = n := ⟨_, rfl⟩
  obtain ⟨m3, hm3⟩ : ∃ n, (decM (xs ++ ys)).1 = n := ⟨_, rfl⟩
  rw [he3, hm3] at hD
  have hn3 : e3 ≠ 0 := by rw [← he3]; exact hmore.out
  clear he3 hm3 hmore hB10
  replace hD : Hid _ := hD
  replace hfar : Hid _ := hfar
  go_wp2_with fail
  refine Calls.mono hD.out ?_
  rintro e w11 ⟨hq, f7, u7, f8, u8, f9, u9, rfl, -⟩
  clear hD
  replace hX := hX.later hq
  replace hY := hY.later hq
  replace hB7 := hB7.later hq
  replace hB8 := hB8.later hq
  have hb11 := hb10.trans (hq.mono hb10.size)
  clear hq hb10
  obtain ⟨w12, hw12, -, hq⟩ := new_var w11 48 (msgC msg0 none 0 none 0 none 0) (msgC m3 f7 u7 f8 u8 f9 u9)
  replace hX := hX.later hq
  replace hY := hY.later hq
  replace hB7 := hB7.later hq
  replace hB8 := hB8.later hq
  have hb12 := hb11.trans (hq.mono hb11.size)
  clear hq hb11
  have n32 : ¬ (e3 : Int) = 0 := by omega
  have n31 : ((e3 : Int) == 0) = false := by simp; omega
  have n33 : ((e3 : Int) != 0) = true := by simp; omega
  clear hn3
  go_wp2_with (first
    | (refine wpList_alloc_has (by rfl) 48 rfl (msgC msg0 none 0 none 0 none 0) msg_zero ?_)
    | (refine wpList_store_to (by rfl) 48 _ _ rfl w11.heap.size rfl (msgC m3 f7 u7 f8 u8 f9 u9) rfl 48 (msgC msg0 none 0 none 0 none 0) (msg_size m3 f7 f8 f9 u7 u8 u9) (msg_same _ _ _ _ _ _ _ _ _ _ _ _ _ _) (msg_one m3 f7 f8 f9 u7 u8 u9) ?hg w12 ?hW ?_; (case hg => exact Has.new _ _ _); (case hW => exact hw12); clear hw12)
    | fail)
  refine wp_region_plan (fun W => (By W (some ⟨g7, 0, none⟩) k7 xs ∧ By W (some ⟨g8, 0, none⟩) k8 ys) ∧ Has W w.heap.size 48 (msgC m a1 c1 a2 c2 a3 c3) ∧ Has W (w.heap.size + 1) 48 (msgC n b1 d1 b2 d2 b3 d3)) (Plan.of [(0, true), (1, true), (2, true), (3, true), (4, true), (5, true), (6, true), (7, true), (8, true), (9, true), (10, true), (11, true), (12, true), (13, true), (14, false), (15, true), (16, true), (17, true), (18, true), (19, true), (20, true), (21, true)] .done) (by kernel_rfl) (by kernel_rfl) (by kernel_rfl) (by kernel_rfl) ⟨⟨hB7.at (fun _ _ _ => rfl), hB8.at (fun _ _ _ => rfl)⟩, hX.drew, hY.drew⟩ ?_
  replace hX := hX.drew
  replace hY := hY.drew
  replace hb12 := hb12.drew
  have hB7' : By w12.drew (some ⟨g7, 0, none⟩) k7 xs := hB7.at (fun _ _ _ => rfl)
  have hB8' : By w12.drew (some ⟨g8, 0, none⟩) k8 ys := hB8.at (fun _ _ _ => rfl)
  generalize w12.drew = w13 at *
  iterate 8
    first
      | (refine plan_pass _ rfl (by rfl) ?_)
      | (refine plan_take _ _ rfl (.inl ⟨by rfl, fun W hS => by clear hS; go_simp; try with_reducible rfl⟩) ?_)
    try simp only [Act.put, List.setIfInBounds_toArray, List.set_cons_zero, List.set_cons_succ]
  iterate 1
    first
      | (refine plan_pass _ rfl (by rfl) ?_)
      | (refine plan_take _ _ rfl (.inl ⟨by rfl, fun W hS => by have z := str_of1 hS.1.1 hlX.out.symm; go_simp; try with_reducible rfl⟩) ?_)
    try simp only [Act.put, List.setIfInBounds_toArray, List.set_cons_zero, List.set_cons_succ]
  iterate 1
    first
      | (refine plan_pass _ rfl (by rfl) ?_)
      | (refine plan_take _ _ rfl (.inl ⟨by rfl, fun W hS => by clear hS; go_simp; try with_reducible rfl⟩) ?_)
    try simp only [Act.put, List.setIfInBounds_toArray, List.set_cons_zero, List.set_cons_succ]
  iterate 1
    first
      | (refine plan_pass _ rfl (by rfl) ?_)
      | (refine plan_take _ _ rfl (.inl ⟨by rfl, fun W hS => by have z := str_of1 hS.1.2 hlY.out.symm; go_simp; try with_reducible rfl⟩) ?_)
    try simp only [Act.put, List.setIfInBounds_toArray, List.set_cons_zero, List.set_cons_succ]
  refine plan_take _ (.bool d) rfl (.inl ⟨by rfl, fun W hS => by go_simp; exact hxy.out⟩) ?_
  try simp only [Act.put, List.setIfInBounds_toArray, List.set_cons_zero, List.set_cons_succ]
  refine plan_take _ _ rfl (yields_load_has (by rfl) 48 _ rfl w.heap.size rfl 48 (msgC m a1 c1 a2 c2 a3 c3) _ Tryz.underlying48 rfl (msg_size m a1 a2 a3 c1 c2 c3) (fun W hS => hS.2.1)) ?_
  try simp only [Act.put, List.setIfInBounds_toArray, List.set_cons_zero, List.set_cons_succ]
  refine plan_take _ _ rfl (yields_load_has (by rfl) 48 _ rfl (w.heap.size + 1) rfl 48 (msgC n b1 d1 b2 d2 b3 d3) _ Tryz.underlying48 rfl (msg_size n b1 b2 b3 d1 d2 d3) (fun W hS => hS.2.2)) ?_
  try simp only [Act.put, List.setIfInBounds_toArray, List.set_cons_zero, List.set_cons_succ]
  refine plan_run _ rfl (fun K hK => ?_)
  go_simp
  refine (wsame_any m n a1 a2 a3 b1 b2 b3 c1 c2 c3 d1 d2 d3 _ hm hn ⟨s1.later hb12, s2.later hb12, s3.later hb12⟩ ⟨t1.later hb12, t2.later hb12, t3.later hb12⟩).mono ?_
  rintro en w14 ⟨rfl, hq⟩
  rw [hd.out]
  have hb14 := hb12.trans (hq.mono hb12.size)
  refine hK.out _ _ ⟨⟨hB7'.later hq, hB8'.later hq⟩, hX.later hq, hY.later hq⟩ ?_
  clear hK K hq
  try simp only [Act.put, List.setIfInBounds_toArray, List.set_cons_zero, List.set_cons_succ]
  refine plan_take _ (.bool true) rfl (.inl ⟨by rfl, fun W hS => by cases d <;> go_simp⟩) ?_
  try simp only [Act.put, List.setIfInBounds_toArray, List.set_cons_zero, List.set_cons_succ]
  iterate 6
    first
      | (refine plan_pass _ rfl (by rfl) ?_)
      | (refine plan_take _ _ rfl (.inl ⟨by rfl, fun W hS => by clear hS; go_simp; try with_reducible rfl⟩) ?_)
    try simp only [Act.put, List.setIfInBounds_toArray, List.set_cons_zero, List.set_cons_succ]
  refine plan_done ?_
  go_wp2
  go_ret
  exact ⟨rfl, hb14⟩
end Go.Proofs.YtmkmlfdgakcidabGreatDoor
