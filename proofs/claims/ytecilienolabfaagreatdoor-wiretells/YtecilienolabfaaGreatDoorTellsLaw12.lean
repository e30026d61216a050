/- The program's answers about messages are the document's: WireTells. -/
import Derived.Test.YtecilienolabfaaGreatDoorWireKnown
import Derived.Test.YtecilienolabfaaGreatDoorWireFew
import Derived.Test.YtecilienolabfaaGreatDoorBytesOwn
import Derived.Test.YtecilienolabfaaGreatDoorDocEncAll
import Derived.Test.YtecilienolabfaaGreatDoorDocSame
namespace Go.Proofs.YtecilienolabfaaGreatDoor
set_option linter.unusedSimpArgs false
set_option linter.unusedVariables false
set_option maxRecDepth 100000
open Go.RowKit

def encX (m : MsgV) : List UInt8 := if isMsg m = true then sumB (msgB m) else []
def errX (m : MsgV) : Nat := if isMsg m = true then 0 else 10
def EncX (m : MsgV) (w : World) (en : Ending) (w' : World) : Prop := ∃ ao c, en = .returned (.tuple #[.slice ao (encX m).length c, .int .i64 (errX m : Nat)]) ∧ By w' ao c (encX m) ∧ Below w.heap.size w w'
theorem wenc_x (m : MsgV) (a1 a2 a3 : Option Addr) (c1 c2 c3 : Nat) (w : World) (hm : MsgOk m) (sm : MsgSl w m a1 c1 a2 c2 a3 c3) : Calls Tryz.prog 11 #[.agg (msgC m a1 c1 a2 c2 a3 c3)] w (EncX m w) := by
  cases hi : isMsg m with
  | true =>
    refine (wencode_yes m a1 a2 a3 c1 c2 c3 w hm sm hi).mono ?_
    rintro en w' ⟨g, c, rfl, -, hB, hq⟩
    have e1 : encX m = sumB (msgB m) := if_pos hi
    have e2 : errX m = 0 := if_pos hi
    exact ⟨_, c, by rw [e1, e2]; rfl, by rw [e1]; exact hB, hq⟩
  | false =>
    refine (wencode_no m a1 a2 a3 c1 c2 c3 w hm sm hi).mono ?_
    rintro en w' ⟨rfl, hq⟩
    have e1 : encX m = [] := if_neg (by rw [hi]; decide)
    have e2 : errX m = 10 := if_neg (by rw [hi]; decide)
    exact ⟨none, 0, by rw [e1, e2]; rfl, by rw [e1]; exact By.nothing _, hq⟩
theorem denc_x (m : MsgV) (a1 a2 a3 : Option Addr) (c1 c2 c3 : Nat) (w : World) (hm : MsgOk m) (sm : MsgSl w m a1 c1 a2 c2 a3 c3) : Calls Tryz.prog 12 #[.agg (msgC m a1 c1 a2 c2 a3 c3)] w (EncX m w) := by
  cases hi : isMsg m with
  | true =>
    refine (denc_yes m a1 a2 a3 c1 c2 c3 w hm sm hi).mono ?_
    rintro en w' ⟨g, c, rfl, -, hB, hq⟩
    have e1 : encX m = sumB (msgB m) := if_pos hi
    have e2 : errX m = 0 := if_pos hi
    exact ⟨_, c, by rw [e1, e2]; rfl, by rw [e1]; exact hB, hq⟩
  | false =>
    refine (denc_no m a1 a2 a3 c1 c2 c3 w hm sm hi).mono ?_
    rintro en w' ⟨rfl, hq⟩
    have e1 : encX m = [] := if_neg (by rw [hi]; decide)
    have e2 : errX m = 10 := if_neg (by rw [hi]; decide)
    exact ⟨none, 0, by rw [e1, e2]; rfl, by rw [e1]; exact By.nothing _, hq⟩
set_option maxHeartbeats 40000000 in
theorem tells_walk (m n : MsgV) (a1 a2 a3 b1 b2 b3 : Option Addr) (c1 c2 c3 d1 d2 d3 : Nat) (w : World) (hm0 : MsgIn m) (s1 : Sl w a1 c1 8 (entR m.st.log)) (s2 : Sl w a2 c2 8 (entR m.diff.log)) (s3 : Sl w a3 c3 8 (entR m.diff.whole.log)) (hn0 : MsgIn n) (t1 : Sl w b1 d1 8 (entR n.st.log)) (t2 : Sl w b2 d2 8 (entR n.diff.log)) (t3 : Sl w b3 d3 8 (entR n.diff.whole.log)) (hL : Laid w) :
    Calls Tryz.prog 3 #[.agg (msgC m a1 c1 a2 c2 a3 c3), .agg (msgC n b1 d1 b2 d2 b3 d3)] w fun e w' => e = .returned (.bool true) ∧ Below w.heap.size w w' := by
  obtain ⟨w1, hw1, hX, hY, hb1⟩ := two_vars w 48 48 (msgC m a1 c1 a2 c2 a3 c3) (msgC n b1 d1 b2 d2 b3 d3)
  have hk := wknown_any w1 (hL.next hb1)
  replace hk : Hid _ := hk
  go_enter Tryz.func3, Tryz.ntmps3
  go_wp2_with fail
  refine Calls.mono hk.out ?_
  rintro e w2 ⟨rfl, hq⟩
  clear hk hw1
  replace hX := hX.later hq
  replace hY := hY.later hq
  have hb2 := hb1.trans (hq.mono hb1.size)
  clear hq hb1
  go_wp2_with (first
    | (refine wpList_load_has (by rfl) 48 _ rfl w.heap.size rfl 48 (msgC m a1 c1 a2 c2 a3 c3) _ Tryz.underlying48 rfl (msg_size m a1 a2 a3 c1 c2 c3) ?hg ?_; (case hg => exact hX))
    | fail)
  refine (few_any m a1 a2 a3 c1 c2 c3 _ hm0 (s1.later hb2) (s2.later hb2) (s3.later hb2)).mono ?_
  rintro e w3 ⟨⟨bb, rfl, hbt⟩, hq⟩
  replace hX := hX.later hq
  replace hY := hY.later hq
  have hb3 := hb2.trans (hq.mono hb2.size)
  clear hq hb2
  cases bb with
  | false =>
    clear hbt
    go_wp2
    go_ret
    exact ⟨rfl, hb3⟩
  | true =>
  obtain ⟨k1, k2, k3⟩ := hbt rfl
  have hm : MsgOk m := hm0.ok (by omega) (by omega) (by omega)
  clear hbt k1 k2 k3 hm0
  go_wp2_with (first
    | (refine wpList_load_has (by rfl) 48 _ rfl (w.heap.size + 1) rfl 48 (msgC n b1 d1 b2 d2 b3 d3) _ Tryz.underlying48 rfl (msg_size n b1 b2 b3 d1 d2 d3) ?hg ?_; (case hg => exact hY))
    | fail)
  refine (few_any n b1 b2 b3 d1 d2 d3 _ hn0 (t1.later hb3) (t2.later hb3) (t3.later hb3)).mono ?_
  rintro e w4 ⟨⟨bb, rfl, hbt⟩, hq⟩
  replace hX := hX.later hq
  replace hY := hY.later hq
  have hb4 := hb3.trans (hq.mono hb3.size)
  clear hq hb3
  cases bb with
  | false =>
    clear hbt
    go_wp2
    go_ret
    exact ⟨rfl, hb4⟩
  | true =>
  obtain ⟨k1, k2, k3⟩ := hbt rfl
  have hn : MsgOk n := hn0.ok (by omega) (by omega) (by omega)
  clear hbt k1 k2 k3 hn0
  have sm : ∀ W, Below w.heap.size w W → MsgSl W m a1 c1 a2 c2 a3 c3 := fun W h => ⟨s1.later h, s2.later h, s3.later h⟩
  have sn : ∀ W, Below w.heap.size w W → MsgSl W n b1 d1 b2 d2 b3 d3 := fun W h => ⟨t1.later h, t2.later h, t3.later h⟩
  have hself : Hid (sameMsg m m = true) := (sameMsg_is m m).2 rfl
  clear s1 s2 s3 t1 t2 t3 hL
  replace sm : Hid _ := sm
  replace sn : Hid _ := sn
  obtain ⟨xs, hxs⟩ : ∃ l, encX m = l := ⟨_, rfl⟩
  obtain ⟨ex, hex⟩ : ∃ l, errX m = l := ⟨_, rfl⟩
  obtain ⟨lx, hlx⟩ : ∃ k, xs.length = k := ⟨_, rfl⟩
  obtain ⟨bi, hbi⟩ : ∃ b, isMsg m = b := ⟨_, rfl⟩
  obtain ⟨bs, hbs⟩ : ∃ b, sameMsg m n = b := ⟨_, rfl⟩
  have hE := wenc_x m a1 a2 a3 c1 c2 c3 w4 hm (sm.out _ hb4)
  unfold EncX at hE
  rw [hxs, hex, hlx] at hE
  replace hE : Hid _ := hE
  replace hm : Hid _ := hm
  replace hn : Hid _ := hn
  replace hxs : Hid _ := hxs
  replace hex : Hid _ := hex
  replace hlx : Hid _ := hlx
  replace hbi : Hid _ := hbi
  replace hbs : Hid _ := hbs
  go_wp2_with (first
    | (refine wpList_load_has (by rfl) 48 _ rfl w.heap.size rfl 48 (msgC m a1 c1 a2 c2 a3 c3) _ Tryz.underlying48 rfl (msg_size m a1 a2 a3 c1 c2 c3) ?hg ?_; (case hg => exact hX))
    | fail)
  refine Calls.mono hE.out ?_
  rintro e w5 ⟨p5, k5, rfl, hB5, hq⟩
  clear hE
  replace hX := hX.later hq
  replace hY := hY.later hq
  have hb5 := hb4.trans (hq.mono hb4.size)
  clear hq hb4
  have hE := denc_x m a1 a2 a3 c1 c2 c3 w5 hm.out (sm.out _ hb5)
  unfold EncX at hE
  rw [hxs.out, hex.out, hlx.out] at hE
  replace hE : Hid _ := hE
  go_wp2_with (first
    | (refine wpList_load_has (by rfl) 48 _ rfl w.heap.size rfl 48 (msgC m a1 c1 a2 c2 a3 c3) _ Tryz.underlying48 rfl (msg_size m a1 a2 a3 c1 c2 c3) ?hg ?_; (case hg => exact hX))
    | fail)
  refine Calls.mono hE.out ?_
  rintro e w6 ⟨p6, k6, rfl, hB6, hq⟩
  clear hE
  replace hX := hX.later hq
  replace hY := hY.later hq
  replace hB5 := hB5.later hq
  have hb6 := hb5.trans (hq.mono hb5.size)
  clear hq hb5
  go_wp2_with fail
  have S0 : Below w6.heap.size w6 w6.drew := (Below.refl _ _).drew
  refine wp_region_plan (fun W => Below w6.heap.size w6 W) (Plan.of [(0, true), (2, true), (1, false), (3, false), (4, true), (5, true), (6, true), (7, true), (8, true), (9, true), (10, true), (11, true), (12, true), (13, true), (14, true), (15, true), (16, true), (17, true), (18, true), (19, true), (21, true), (22, true), (20, false), (23, false), (24, true), (25, true), (26, true), (27, true), (28, true), (29, false), (30, true), (31, true)] .done) (by kernel_rfl) (by kernel_rfl) (by kernel_rfl) (by kernel_rfl) S0 ?_
  have hZ : Hid (∀ W, Below w6.heap.size w6 W → Below w.heap.size w W) := fun W h => hb6.trans (h.mono hb6.size)
  generalize w6.drew = w7 at *
  refine plan_take _ _ rfl (yields_load_has (by rfl) 48 _ rfl w.heap.size rfl 48 (msgC m a1 c1 a2 c2 a3 c3) _ Tryz.underlying48 rfl (msg_size m a1 a2 a3 c1 c2 c3) (fun W hS => hX.later hS)) ?_
  try simp only [Act.put, List.setIfInBounds_toArray, List.set_cons_zero, List.set_cons_succ]
  refine plan_take _ _ rfl (yields_load_has (by rfl) 48 _ rfl w.heap.size rfl 48 (msgC m a1 c1 a2 c2 a3 c3) _ Tryz.underlying48 rfl (msg_size m a1 a2 a3 c1 c2 c3) (fun W hS => hX.later hS)) ?_
  try simp only [Act.put, List.setIfInBounds_toArray, List.set_cons_zero, List.set_cons_succ]
  refine plan_run _ rfl (fun K hK => ?_)
  go_simp
  refine (wis_any m a1 a2 a3 c1 c2 c3 _ hm.out (sm.out _ (hZ.out _ S0))).mono ?_
  rintro en w8 ⟨rfl, hq⟩
  rw [hbi.out]
  replace S0 := S0.trans (hq.mono S0.size)
  refine hK.out _ _ S0 ?_
  clear hK K hq
  try simp only [Act.put, List.setIfInBounds_toArray, List.set_cons_zero, List.set_cons_succ]
  refine plan_run _ rfl (fun K hK => ?_)
  go_simp
  refine (docis_any m a1 a2 a3 c1 c2 c3 _ hm.out (sm.out _ (hZ.out _ S0))).mono ?_
  rintro en w9 ⟨rfl, hq⟩
  rw [hbi.out]
  replace S0 := S0.trans (hq.mono S0.size)
  refine hK.out _ _ S0 ?_
  clear hK K hq
  try simp only [Act.put, List.setIfInBounds_toArray, List.set_cons_zero, List.set_cons_succ]
  refine plan_take _ (.bool true) rfl (.inl ⟨by rfl, fun W hS => by clear hS; cases bi <;> go_simp⟩) ?_
  try simp only [Act.put, List.setIfInBounds_toArray, List.set_cons_zero, List.set_cons_succ]
  iterate 3
    first
      | (refine plan_pass _ rfl (by rfl) ?_)
      | (refine plan_take _ _ rfl (.inl ⟨by rfl, fun W hS => by clear hS; go_simp; try with_reducible rfl⟩) ?_)
    try simp only [Act.put, List.setIfInBounds_toArray, List.set_cons_zero, List.set_cons_succ]
  refine plan_take _ (.bool true) rfl (.inl ⟨by rfl, fun W hS => by clear hS; go_simp⟩) ?_
  try simp only [Act.put, List.setIfInBounds_toArray, List.set_cons_zero, List.set_cons_succ]
  iterate 3
    first
      | (refine plan_pass _ rfl (by rfl) ?_)
      | (refine plan_take _ _ rfl (.inl ⟨by rfl, fun W hS => by clear hS; go_simp; try with_reducible rfl⟩) ?_)
    try simp only [Act.put, List.setIfInBounds_toArray, List.set_cons_zero, List.set_cons_succ]
  iterate 1
    first
      | (refine plan_pass _ rfl (by rfl) ?_)
      | (refine plan_take _ _ rfl (.inl ⟨by rfl, fun W hS => by have z := str_of1 (hB5.later hS) hlx.out.symm; go_simp; try with_reducible rfl⟩) ?_)
    try simp only [Act.put, List.setIfInBounds_toArray, List.set_cons_zero, List.set_cons_succ]
  iterate 1
    first
      | (refine plan_pass _ rfl (by rfl) ?_)
      | (refine plan_take _ _ rfl (.inl ⟨by rfl, fun W hS => by clear hS; go_simp; try with_reducible rfl⟩) ?_)
    try simp only [Act.put, List.setIfInBounds_toArray, List.set_cons_zero, List.set_cons_succ]
  iterate 1
    first
      | (refine plan_pass _ rfl (by rfl) ?_)
      | (refine plan_take _ _ rfl (.inl ⟨by rfl, fun W hS => by have z := str_of1 (hB6.later hS) hlx.out.symm; go_simp; try with_reducible rfl⟩) ?_)
    try simp only [Act.put, List.setIfInBounds_toArray, List.set_cons_zero, List.set_cons_succ]
  refine plan_take _ (.bool true) rfl (.inl ⟨by rfl, fun W hS => by clear hS; go_simp⟩) ?_
  try simp only [Act.put, List.setIfInBounds_toArray, List.set_cons_zero, List.set_cons_succ]
  iterate 2
    first
      | (refine plan_pass _ rfl (by rfl) ?_)
      | (refine plan_take _ _ rfl (.inl ⟨by rfl, fun W hS => by clear hS; go_simp; try with_reducible rfl⟩) ?_)
    try simp only [Act.put, List.setIfInBounds_toArray, List.set_cons_zero, List.set_cons_succ]
  refine plan_take _ _ rfl (yields_load_has (by rfl) 48 _ rfl w.heap.size rfl 48 (msgC m a1 c1 a2 c2 a3 c3) _ Tryz.underlying48 rfl (msg_size m a1 a2 a3 c1 c2 c3) (fun W hS => hX.later hS)) ?_
  try simp only [Act.put, List.setIfInBounds_toArray, List.set_cons_zero, List.set_cons_succ]
  refine plan_take _ _ rfl (yields_load_has (by rfl) 48 _ rfl (w.heap.size + 1) rfl 48 (msgC n b1 d1 b2 d2 b3 d3) _ Tryz.underlying48 rfl (msg_size n b1 b2 b3 d1 d2 d3) (fun W hS => hY.later hS)) ?_
  try simp only [Act.put, List.setIfInBounds_toArray, List.set_cons_zero, List.set_cons_succ]
  refine plan_take _ _ rfl (yields_load_has (by rfl) 48 _ rfl w.heap.size rfl 48 (msgC m a1 c1 a2 c2 a3 c3) _ Tryz.underlying48 rfl (msg_size m a1 a2 a3 c1 c2 c3) (fun W hS => hX.later hS)) ?_
  try simp only [Act.put, List.setIfInBounds_toArray, List.set_cons_zero, List.set_cons_succ]
  refine plan_take _ _ rfl (yields_load_has (by rfl) 48 _ rfl (w.heap.size + 1) rfl 48 (msgC n b1 d1 b2 d2 b3 d3) _ Tryz.underlying48 rfl (msg_size n b1 b2 b3 d1 d2 d3) (fun W hS => hY.later hS)) ?_
  try simp only [Act.put, List.setIfInBounds_toArray, List.set_cons_zero, List.set_cons_succ]
  refine plan_run _ rfl (fun K hK => ?_)
  go_simp
  refine (wsame_any m n a1 a2 a3 b1 b2 b3 c1 c2 c3 d1 d2 d3 _ hm.out hn.out (sm.out _ (hZ.out _ S0)) (sn.out _ (hZ.out _ S0))).mono ?_
  rintro en w10 ⟨rfl, hq⟩
  rw [hbs.out]
  replace S0 := S0.trans (hq.mono S0.size)
  refine hK.out _ _ S0 ?_
  clear hK K hq
  try simp only [Act.put, List.setIfInBounds_toArray, List.set_cons_zero, List.set_cons_succ]
  refine plan_run _ rfl (fun K hK => ?_)
  go_simp
  refine (dsame_any m n a1 a2 a3 b1 b2 b3 c1 c2 c3 d1 d2 d3 _ hm.out hn.out (sm.out _ (hZ.out _ S0)) (sn.out _ (hZ.out _ S0))).mono ?_
  rintro en w11 ⟨rfl, hq⟩
  rw [hbs.out]
  replace S0 := S0.trans (hq.mono S0.size)
  refine hK.out _ _ S0 ?_
  clear hK K hq
  try simp only [Act.put, List.setIfInBounds_toArray, List.set_cons_zero, List.set_cons_succ]
  refine plan_take _ (.bool true) rfl (.inl ⟨by rfl, fun W hS => by clear hS; cases bs <;> go_simp⟩) ?_
  try simp only [Act.put, List.setIfInBounds_toArray, List.set_cons_zero, List.set_cons_succ]
  iterate 2
    first
      | (refine plan_pass _ rfl (by rfl) ?_)
      | (refine plan_take _ _ rfl (.inl ⟨by rfl, fun W hS => by clear hS; go_simp; try with_reducible rfl⟩) ?_)
    try simp only [Act.put, List.setIfInBounds_toArray, List.set_cons_zero, List.set_cons_succ]
  refine plan_take _ _ rfl (yields_load_has (by rfl) 48 _ rfl w.heap.size rfl 48 (msgC m a1 c1 a2 c2 a3 c3) _ Tryz.underlying48 rfl (msg_size m a1 a2 a3 c1 c2 c3) (fun W hS => hX.later hS)) ?_
  try simp only [Act.put, List.setIfInBounds_toArray, List.set_cons_zero, List.set_cons_succ]
  refine plan_take _ _ rfl (yields_load_has (by rfl) 48 _ rfl w.heap.size rfl 48 (msgC m a1 c1 a2 c2 a3 c3) _ Tryz.underlying48 rfl (msg_size m a1 a2 a3 c1 c2 c3) (fun W hS => hX.later hS)) ?_
  try simp only [Act.put, List.setIfInBounds_toArray, List.set_cons_zero, List.set_cons_succ]
  refine plan_run _ rfl (fun K hK => ?_)
  go_simp
  refine (wsame_any m m a1 a2 a3 a1 a2 a3 c1 c2 c3 c1 c2 c3 _ hm.out hm.out (sm.out _ (hZ.out _ S0)) (sm.out _ (hZ.out _ S0))).mono ?_
  rintro en w12 ⟨rfl, hq⟩
  rw [hself.out]
  replace S0 := S0.trans (hq.mono S0.size)
  refine hK.out _ _ S0 ?_
  clear hK K hq
  try simp only [Act.put, List.setIfInBounds_toArray, List.set_cons_zero, List.set_cons_succ]
  iterate 2
    first
      | (refine plan_pass _ rfl (by rfl) ?_)
      | (refine plan_take _ _ rfl (.inl ⟨by rfl, fun W hS => by clear hS; go_simp; try with_reducible rfl⟩) ?_)
    try simp only [Act.put, List.setIfInBounds_toArray, List.set_cons_zero, List.set_cons_succ]
  refine plan_done ?_
  have hb := hZ.out _ S0
  clear hX hY hB5 hB6 S0
  go_wp2
  go_ret
  exact ⟨rfl, hb⟩
end Go.Proofs.YtecilienolabfaaGreatDoor
