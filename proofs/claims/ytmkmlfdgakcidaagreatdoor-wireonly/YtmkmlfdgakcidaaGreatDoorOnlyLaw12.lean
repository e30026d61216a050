/- What a kind doesn't have: WireOnly. Written by tools/ogen12.py. -/
import Derived.Test.YtmkmlfdgakcidaaGreatDoorOnlyPre12
namespace Go.Proofs.YtmkmlfdgakcidaaGreatDoor
set_option linter.unusedSimpArgs false
set_option linter.unusedVariables false
set_option maxRecDepth 100000
open Go.RowKit

set_option maxHeartbeats 8000000 in
theorem only_walk0 (m : MsgV) (a1 a2 a3 : Option Addr) (c1 c2 c3 q : Nat) (w : World) (hm0 : MsgIn m) (s1 : Sl w a1 c1 8 (entR m.st.log)) (s2 : Sl w a2 c2 8 (entR m.diff.log)) (s3 : Sl w a3 c3 8 (entR m.diff.whole.log)) (hq256 : q < 256) (hL : Laid w) (hr : q % 8 = 0) :
    Calls Tryz.prog 8 #[.agg (msgC m a1 c1 a2 c2 a3 c3), .int .u8 (q : Nat)] w fun e w' => e = .returned (.bool true) ∧ Below w.heap.size w w' := by
  obtain ⟨w1, hw1, hX, hb1⟩ := one_var w 48 (msgC m a1 c1 a2 c2 a3 c3)
  have hk := wknown_any w1 (hL.next hb1)
  replace hk : Hid _ := hk
  go_enter Tryz.func8, Tryz.ntmps8
  go_wp2_with fail
  refine Calls.mono hk.out ?_
  rintro e w2 ⟨rfl, hq⟩
  clear hk hw1
  replace hX := hX.later hq
  have hb2 := hb1.trans (hq.mono hb1.size)
  clear hq hb1
  go_wp2_with (first
    | (refine wpList_load_has (by rfl) 48 _ rfl w.heap.size rfl 48 (msgC m a1 c1 a2 c2 a3 c3) _ Tryz.underlying48 rfl (msg_size m a1 a2 a3 c1 c2 c3) ?hg ?_; (case hg => exact hX))
    | fail)
  refine (few_any m a1 a2 a3 c1 c2 c3 _ hm0 (s1.later hb2) (s2.later hb2) (s3.later hb2)).mono ?_
  rintro e w3 ⟨⟨b, rfl, hbt⟩, hq⟩
  replace hX := hX.later hq
  have hb3 := hb2.trans (hq.mono hb2.size)
  clear hq hb2
  cases b with
  | false =>
    clear hbt
    go_wp2
    go_ret
    exact ⟨rfl, hb3⟩
  | true =>
  obtain ⟨k1, k2, k3⟩ := hbt rfl
  have hm : MsgOk m := hm0.ok (by omega) (by omega) (by omega)
  clear hbt k1 k2 k3 hm0
  have sm3 : MsgSl w3 m a1 c1 a2 c2 a3 c3 := ⟨s1.later hb3, s2.later hb3, s3.later hb3⟩
  go_wp2_with (first
    | (refine wpList_load_has (by rfl) 48 _ rfl w.heap.size rfl 48 (msgC m a1 c1 a2 c2 a3 c3) _ Tryz.underlying48 rfl (msg_size m a1 a2 a3 c1 c2 c3) ?hg ?_; (case hg => exact hX))
    | fail)
  refine (wis_any m a1 a2 a3 c1 c2 c3 _ hm sm3).mono ?_
  rintro e w4 ⟨rfl, hq⟩
  replace hX := hX.later hq
  have hb4 := hb3.trans (hq.mono hb3.size)
  clear hq hb3 sm3
  cases hi : isMsg m with
  | false =>
    go_wp2
    go_ret
    exact ⟨rfl, hb4⟩
  | true =>
  replace hi : Hid _ := hi
  obtain ⟨w5, hw5, hY, hq⟩ := new_var w4 48 (msgC msg0 none 0 none 0 none 0) (msgC m a1 c1 a2 c2 a3 c3)
  have hX4 := hX
  replace hX := hX.later hq
  have hb5 := hb4.trans (hq.mono hb4.size)
  have h45 : w.heap.size ≤ w4.heap.size := hb4.size
  have hlt4 : w.heap.size < w4.heap.size := hX4.lt
  clear hq hb4
  have hcl : w5.cell? ⟨w4.heap.size, 4, none⟩ = some (.int .u32 (m.b.n : Nat)) := hY.mc_at 4 rfl
  have hzl := hY.free 4
  have hrI : (q : Int) % 8 = 0 := by omega
  replace hr : Hid _ := hr
  obtain ⟨y, hyE⟩ : ∃ y : Nat, y = (m.b.n + 1) % 4294967296 := ⟨_, rfl⟩
  have hxl : m.b.n < 4294967296 := hm.b.n
  have hy : y < 4294967296 := by omega
  have hyI : (((m.b.n : Nat) : Int) + 1) % 4294967296 = ((y : Nat) : Int) := by omega
  have hyn : m.b.n ≠ y := by omega
  clear hyE hxl
  have hY6 := hY.mset_o0 y
  have hB6 : But w4.heap.size w5 (w5.setCell ⟨w4.heap.size, 4, none⟩ (.int .u32 (y : Int))) := but_cell _ _ _
  have hX6 := hB6.has hX (by omega)
  have hb6 := hb5.setCell (p := ⟨w4.heap.size, 4, none⟩) h45 (.int .u32 (y : Int))
  have hm6 : MsgOk ({ m with b := { m.b with n := y } }) := ⟨hm.kind, hm.src, hm.dst, hm.epoch, ⟨hy, hm.b.who⟩, hm.acc, hm.inc, hm.group, hm.st, hm.diff, hm.ent, hm.n, hm.op, hm.r⟩
  have sm6 : MsgSl (w5.setCell ⟨w4.heap.size, 4, none⟩ (.int .u32 (y : Int))) ({ m with b := { m.b with n := y } }) a1 c1 a2 c2 a3 c3 := ⟨s1.later hb6, s2.later hb6, s3.later hb6⟩
  have hne : m ≠ { m with b := { m.b with n := y } } := fun e => hyn (congrArg (fun z : MsgV => z.b.n) e)
  obtain ⟨w6, hw6⟩ : ∃ W, w5.setCell ⟨w4.heap.size, 4, none⟩ (.int .u32 (y : Int)) = W := ⟨_, rfl⟩
  rw [hw6] at hY6 hX6 hb6 sm6
  generalize { m with b := { m.b with n := y } } = mn at *
  have sm0 : MsgSl w6 m a1 c1 a2 c2 a3 c3 := ⟨s1.later hb6, s2.later hb6, s3.later hb6⟩
  clear hY hX hB6 hb5 hyn hy
  go_wp2_with (first
    | (refine wpList_load_has (by rfl) 48 _ rfl w.heap.size rfl 48 (msgC m a1 c1 a2 c2 a3 c3) _ Tryz.underlying48 rfl (msg_size m a1 a2 a3 c1 c2 c3) ?hg ?_; (case hg => exact hX4))
    | (refine wpList_alloc_has (by rfl) 48 rfl (msgC msg0 none 0 none 0 none 0) msg_zero ?_)
    | (refine wpList_store_to (by rfl) 48 _ _ rfl w4.heap.size rfl (msgC m a1 c1 a2 c2 a3 c3) rfl 48 (msgC msg0 none 0 none 0 none 0) (msg_size m a1 a2 a3 c1 c2 c3) (msg_same _ _ _ _ _ _ _ _ _ _ _ _ _ _) (msg_one m a1 a2 a3 c1 c2 c3) ?hg w5 ?hW ?_; (case hg => exact Has.new _ _ _); (case hW => exact hw5); clear hw5)
    | (refine wpList_load_has (by rfl) 48 _ rfl w.heap.size rfl 48 (msgC m a1 c1 a2 c2 a3 c3) _ Tryz.underlying48 rfl (msg_size m a1 a2 a3 c1 c2 c3) ?hg ?_; (case hg => exact hX6))
    | (refine wpList_load_has (by rfl) 48 _ rfl w4.heap.size rfl 48 (msgC mn a1 c1 a2 c2 a3 c3) _ Tryz.underlying48 rfl (msg_size mn a1 a2 a3 c1 c2 c3) ?hg ?_; (case hg => exact hY6))
    | fail)
  clear hw6 hyI hcl hzl hrI hr
  refine (wsame_any m mn a1 a2 a3 a1 a2 a3 c1 c2 c3 c1 c2 c3 _ hm hm6 sm0 sm6).mono ?_
  rintro e w7 ⟨rfl, hq⟩
  rw [show sameMsg m mn = false from by rw [← Bool.not_eq_true, sameMsg_is]; exact hne]
  replace hX6 := hX6.later hq
  replace hY6 := hY6.later hq
  replace sm0 := sm0.later hq
  have sm7 := sm6.later hq
  have hb7 := hb6.trans (hq.mono hb6.size)
  clear hq hb6 sm6
  have hE := wencode_yes m a1 a2 a3 c1 c2 c3 w7 hm sm0 hi.out
  replace hE : Hid _ := hE
  go_wp2_with (first
    | (refine wpList_load_has (by rfl) 48 _ rfl w.heap.size rfl 48 (msgC m a1 c1 a2 c2 a3 c3) _ Tryz.underlying48 rfl (msg_size m a1 a2 a3 c1 c2 c3) ?hg ?_; (case hg => exact hX6))
    | fail)
  refine Calls.mono hE.out ?_
  rintro e w8 ⟨g8, k8, rfl, ho8, hB8, hq⟩
  clear hE ho8
  replace hX6 := hX6.later hq
  replace hY6 := hY6.later hq
  replace sm7 := sm7.later hq
  have hb8 := hb7.trans (hq.mono hb7.size)
  clear hq hb7
  obtain ⟨l8, hl8⟩ : ∃ n, (sumB (msgB m)).length = n := ⟨_, rfl⟩
  rw [hl8]
  replace hl8 : Hid _ := hl8
  cases hin : isMsg mn with
  | false =>
    have hE := wencode_no mn a1 a2 a3 c1 c2 c3 w8 hm6 sm7 hin
    replace hE : Hid _ := hE
    replace hin : Hid _ := hin
    go_wp2_with (first
      | (refine wpList_load_has (by rfl) 48 _ rfl w4.heap.size rfl 48 (msgC mn a1 c1 a2 c2 a3 c3) _ Tryz.underlying48 rfl (msg_size mn a1 a2 a3 c1 c2 c3) ?hg ?_; (case hg => exact hY6))
      | fail)
    refine Calls.mono hE.out ?_
    rintro e w9 ⟨rfl, hq⟩
    clear hE
    replace hY6 := hY6.later hq
    replace sm7 := sm7.later hq
    have hb9 := hb8.trans (hq.mono hb8.size)
    clear hq hb8
    go_wp2_with (first
      | (refine wpList_load_has (by rfl) 48 _ rfl w4.heap.size rfl 48 (msgC mn a1 c1 a2 c2 a3 c3) _ Tryz.underlying48 rfl (msg_size mn a1 a2 a3 c1 c2 c3) ?hg ?_; (case hg => exact hY6))
      | fail)
    refine (wis_any mn a1 a2 a3 c1 c2 c3 _ hm6 sm7).mono ?_
    rintro e w10 ⟨rfl, hq⟩
    rw [hin.out]
    have hb10 := hb9.trans (hq.mono hb9.size)
    clear hq hb9
    go_wp2
    go_ret
    exact ⟨rfl, hb10⟩
  | true =>
  have hE := wencode_yes mn a1 a2 a3 c1 c2 c3 w8 hm6 sm7 hin
  have hdiff : sumB (msgB m) ≠ sumB (msgB mn) := fun e => hne ((sum_inj hm hm6 hi.out hin).1 e)
  replace hE : Hid _ := hE
  replace hin : Hid _ := hin
  go_wp2_with (first
    | (refine wpList_load_has (by rfl) 48 _ rfl w4.heap.size rfl 48 (msgC mn a1 c1 a2 c2 a3 c3) _ Tryz.underlying48 rfl (msg_size mn a1 a2 a3 c1 c2 c3) ?hg ?_; (case hg => exact hY6))
    | fail)
  refine Calls.mono hE.out ?_
  rintro e w9 ⟨g9, k9, rfl, ho9, hB9, hq⟩
  clear hE ho9
  replace hY6 := hY6.later hq
  replace sm7 := sm7.later hq
  replace hB8 := hB8.later hq
  have hb9 := hb8.trans (hq.mono hb8.size)
  clear hq hb8
  obtain ⟨l9, hl9⟩ : ∃ n, (sumB (msgB mn)).length = n := ⟨_, rfl⟩
  rw [hl9]
  replace hl9 : Hid _ := hl9
  go_wp2_with (first
    | (refine wpList_load_has (by rfl) 48 _ rfl w4.heap.size rfl 48 (msgC mn a1 c1 a2 c2 a3 c3) _ Tryz.underlying48 rfl (msg_size mn a1 a2 a3 c1 c2 c3) ?hg ?_; (case hg => exact hY6))
    | fail)
  refine (wis_any mn a1 a2 a3 c1 c2 c3 _ hm6 sm7).mono ?_
  rintro e w10 ⟨rfl, hq⟩
  rw [hin.out]
  have t8 := str_of1 (hB8.later hq) hl8.out.symm
  have t9 := str_of1 (hB9.later hq) hl9.out.symm
  have hb10 := hb9.trans (hq.mono hb9.size)
  have hs1 : ((⟨(sumB (msgB m)).toArray⟩ : ByteArray).toList == (⟨(sumB (msgB mn)).toArray⟩ : ByteArray).toList) = false := by
    rw [ByteArray.toList_eq, ByteArray.toList_eq, List.toList_toArray, List.toList_toArray]
    exact beq_false_of_ne hdiff
  clear hq hb9 hB8 hB9 hX6 hY6 hdiff
  generalize (⟨(sumB (msgB m)).toArray⟩ : ByteArray) = S8 at *
  generalize (⟨(sumB (msgB mn)).toArray⟩ : ByteArray) = S9 at *
  go_wp2
  go_ret
  exact ⟨rfl, hb10⟩
set_option maxHeartbeats 8000000 in
theorem only_walk1 (m : MsgV) (a1 a2 a3 : Option Addr) (c1 c2 c3 q : Nat) (w : World) (hm0 : MsgIn m) (s1 : Sl w a1 c1 8 (entR m.st.log)) (s2 : Sl w a2 c2 8 (entR m.diff.log)) (s3 : Sl w a3 c3 8 (entR m.diff.whole.log)) (hq256 : q < 256) (hL : Laid w) (hr : q % 8 = 1) :
    Calls Tryz.prog 8 #[.agg (msgC m a1 c1 a2 c2 a3 c3), .int .u8 (q : Nat)] w fun e w' => e = .returned (.bool true) ∧ Below w.heap.size w w' := by
  obtain ⟨w1, hw1, hX, hb1⟩ := one_var w 48 (msgC m a1 c1 a2 c2 a3 c3)
  have hk := wknown_any w1 (hL.next hb1)
  replace hk : Hid _ := hk
  go_enter Tryz.func8, Tryz.ntmps8
  go_wp2_with fail
  refine Calls.mono hk.out ?_
  rintro e w2 ⟨rfl, hq⟩
  clear hk hw1
  replace hX := hX.later hq
  have hb2 := hb1.trans (hq.mono hb1.size)
  clear hq hb1
  go_wp2_with (first
    | (refine wpList_load_has (by rfl) 48 _ rfl w.heap.size rfl 48 (msgC m a1 c1 a2 c2 a3 c3) _ Tryz.underlying48 rfl (msg_size m a1 a2 a3 c1 c2 c3) ?hg ?_; (case hg => exact hX))
    | fail)
  refine (few_any m a1 a2 a3 c1 c2 c3 _ hm0 (s1.later hb2) (s2.later hb2) (s3.later hb2)).mono ?_
  rintro e w3 ⟨⟨b, rfl, hbt⟩, hq⟩
  replace hX := hX.later hq
  have hb3 := hb2.trans (hq.mono hb2.size)
  clear hq hb2
  cases b with
  | false =>
    clear hbt
    go_wp2
    go_ret
    exact ⟨rfl, hb3⟩
  | true =>
  obtain ⟨k1, k2, k3⟩ := hbt rfl
  have hm : MsgOk m := hm0.ok (by omega) (by omega) (by omega)
  clear hbt k1 k2 k3 hm0
  have sm3 : MsgSl w3 m a1 c1 a2 c2 a3 c3 := ⟨s1.later hb3, s2.later hb3, s3.later hb3⟩
  go_wp2_with (first
    | (refine wpList_load_has (by rfl) 48 _ rfl w.heap.size rfl 48 (msgC m a1 c1 a2 c2 a3 c3) _ Tryz.underlying48 rfl (msg_size m a1 a2 a3 c1 c2 c3) ?hg ?_; (case hg => exact hX))
    | fail)
  refine (wis_any m a1 a2 a3 c1 c2 c3 _ hm sm3).mono ?_
  rintro e w4 ⟨rfl, hq⟩
  replace hX := hX.later hq
  have hb4 := hb3.trans (hq.mono hb3.size)
  clear hq hb3 sm3
  cases hi : isMsg m with
  | false =>
    go_wp2
    go_ret
    exact ⟨rfl, hb4⟩
  | true =>
  replace hi : Hid _ := hi
  obtain ⟨w5, hw5, hY, hq⟩ := new_var w4 48 (msgC msg0 none 0 none 0 none 0) (msgC m a1 c1 a2 c2 a3 c3)
  have hX4 := hX
  replace hX := hX.later hq
  have hb5 := hb4.trans (hq.mono hb4.size)
  have h45 : w.heap.size ≤ w4.heap.size := hb4.size
  have hlt4 : w.heap.size < w4.heap.size := hX4.lt
  clear hq hb4
  have hcl : w5.cell? ⟨w4.heap.size, 7, none⟩ = some (.int .u8 (m.acc.who : Nat)) := hY.mc_at 7 rfl
  have hzl := hY.free 7
  have hrI : (q : Int) % 8 = 1 := by omega
  replace hr : Hid _ := hr
  obtain ⟨y, hyE⟩ : ∃ y : Nat, y = (m.acc.who + 1) % 256 := ⟨_, rfl⟩
  have hxl : m.acc.who < 256 := hm.acc.who
  have hy : y < 256 := by omega
  have hyI : (((m.acc.who : Nat) : Int) + 1) % 256 = ((y : Nat) : Int) := by omega
  have hyn : m.acc.who ≠ y := by omega
  clear hyE hxl
  have hY6 := hY.mset_o1 y
  have hB6 : But w4.heap.size w5 (w5.setCell ⟨w4.heap.size, 7, none⟩ (.int .u8 (y : Int))) := but_cell _ _ _
  have hX6 := hB6.has hX (by omega)
  have hb6 := hb5.setCell (p := ⟨w4.heap.size, 7, none⟩) h45 (.int .u8 (y : Int))
  have hm6 : MsgOk ({ m with acc := { m.acc with who := y } }) := ⟨hm.kind, hm.src, hm.dst, hm.epoch, hm.b, ⟨hm.acc.n, hy⟩, hm.inc, hm.group, hm.st, hm.diff, hm.ent, hm.n, hm.op, hm.r⟩
  have sm6 : MsgSl (w5.setCell ⟨w4.heap.size, 7, none⟩ (.int .u8 (y : Int))) ({ m with acc := { m.acc with who := y } }) a1 c1 a2 c2 a3 c3 := ⟨s1.later hb6, s2.later hb6, s3.later hb6⟩
  have hne : m ≠ { m with acc := { m.acc with who := y } } := fun e => hyn (congrArg (fun z : MsgV => z.acc.who) e)
  obtain ⟨w6, hw6⟩ : ∃ W, w5.setCell ⟨w4.heap.size, 7, none⟩ (.int .u8 (y : Int)) = W := ⟨_, rfl⟩
  rw [hw6] at hY6 hX6 hb6 sm6
  generalize { m with acc := { m.acc with who := y } } = mn at *
  have sm0 : MsgSl w6 m a1 c1 a2 c2 a3 c3 := ⟨s1.later hb6, s2.later hb6, s3.later hb6⟩
  clear hY hX hB6 hb5 hyn hy
  go_wp2_with (first
    | (refine wpList_load_has (by rfl) 48 _ rfl w.heap.size rfl 48 (msgC m a1 c1 a2 c2 a3 c3) _ Tryz.underlying48 rfl (msg_size m a1 a2 a3 c1 c2 c3) ?hg ?_; (case hg => exact hX4))
    | (refine wpList_alloc_has (by rfl) 48 rfl (msgC msg0 none 0 none 0 none 0) msg_zero ?_)
    | (refine wpList_store_to (by rfl) 48 _ _ rfl w4.heap.size rfl (msgC m a1 c1 a2 c2 a3 c3) rfl 48 (msgC msg0 none 0 none 0 none 0) (msg_size m a1 a2 a3 c1 c2 c3) (msg_same _ _ _ _ _ _ _ _ _ _ _ _ _ _) (msg_one m a1 a2 a3 c1 c2 c3) ?hg w5 ?hW ?_; (case hg => exact Has.new _ _ _); (case hW => exact hw5); clear hw5)
    | (refine wpList_load_has (by rfl) 48 _ rfl w.heap.size rfl 48 (msgC m a1 c1 a2 c2 a3 c3) _ Tryz.underlying48 rfl (msg_size m a1 a2 a3 c1 c2 c3) ?hg ?_; (case hg => exact hX6))
    | (refine wpList_load_has (by rfl) 48 _ rfl w4.heap.size rfl 48 (msgC mn a1 c1 a2 c2 a3 c3) _ Tryz.underlying48 rfl (msg_size mn a1 a2 a3 c1 c2 c3) ?hg ?_; (case hg => exact hY6))
    | fail)
  clear hw6 hyI hcl hzl hrI hr
  refine (wsame_any m mn a1 a2 a3 a1 a2 a3 c1 c2 c3 c1 c2 c3 _ hm hm6 sm0 sm6).mono ?_
  rintro e w7 ⟨rfl, hq⟩
  rw [show sameMsg m mn = false from by rw [← Bool.not_eq_true, sameMsg_is]; exact hne]
  replace hX6 := hX6.later hq
  replace hY6 := hY6.later hq
  replace sm0 := sm0.later hq
  have sm7 := sm6.later hq
  have hb7 := hb6.trans (hq.mono hb6.size)
  clear hq hb6 sm6
  have hE := wencode_yes m a1 a2 a3 c1 c2 c3 w7 hm sm0 hi.out
  replace hE : Hid _ := hE
  go_wp2_with (first
    | (refine wpList_load_has (by rfl) 48 _ rfl w.heap.size rfl 48 (msgC m a1 c1 a2 c2 a3 c3) _ Tryz.underlying48 rfl (msg_size m a1 a2 a3 c1 c2 c3) ?hg ?_; (case hg => exact hX6))
    | fail)
  refine Calls.mono hE.out ?_
  rintro e w8 ⟨g8, k8, rfl, ho8, hB8, hq⟩
  clear hE ho8
  replace hX6 := hX6.later hq
  replace hY6 := hY6.later hq
  replace sm7 := sm7.later hq
  have hb8 := hb7.trans (hq.mono hb7.size)
  clear hq hb7
  obtain ⟨l8, hl8⟩ : ∃ n, (sumB (msgB m)).length = n := ⟨_, rfl⟩
  rw [hl8]
  replace hl8 : Hid _ := hl8
  cases hin : isMsg mn with
  | false =>
    have hE := wencode_no mn a1 a2 a3 c1 c2 c3 w8 hm6 sm7 hin
    replace hE : Hid _ := hE
    replace hin : Hid _ := hin
    go_wp2_with (first
      | (refine wpList_load_has (by rfl) 48 _ rfl w4.heap.size rfl 48 (msgC mn a1 c1 a2 c2 a3 c3) _ Tryz.underlying48 rfl (msg_size mn a1 a2 a3 c1 c2 c3) ?hg ?_; (case hg => exact hY6))
      | fail)
    refine Calls.mono hE.out ?_
    rintro e w9 ⟨rfl, hq⟩
    clear hE
    replace hY6 := hY6.later hq
    replace sm7 := sm7.later hq
    have hb9 := hb8.trans (hq.mono hb8.size)
    clear hq hb8
    go_wp2_with (first
      | (refine wpList_load_has (by rfl) 48 _ rfl w4.heap.size rfl 48 (msgC mn a1 c1 a2 c2 a3 c3) _ Tryz.underlying48 rfl (msg_size mn a1 a2 a3 c1 c2 c3) ?hg ?_; (case hg => exact hY6))
      | fail)
    refine (wis_any mn a1 a2 a3 c1 c2 c3 _ hm6 sm7).mono ?_
    rintro e w10 ⟨rfl, hq⟩
    rw [hin.out]
    have hb10 := hb9.trans (hq.mono hb9.size)
    clear hq hb9
    go_wp2
    go_ret
    exact ⟨rfl, hb10⟩
  | true =>
  have hE := wencode_yes mn a1 a2 a3 c1 c2 c3 w8 hm6 sm7 hin
  have hdiff : sumB (msgB m) ≠ sumB (msgB mn) := fun e => hne ((sum_inj hm hm6 hi.out hin).1 e)
  replace hE : Hid _ := hE
  replace hin : Hid _ := hin
  go_wp2_with (first
    | (refine wpList_load_has (by rfl) 48 _ rfl w4.heap.size rfl 48 (msgC mn a1 c1 a2 c2 a3 c3) _ Tryz.underlying48 rfl (msg_size mn a1 a2 a3 c1 c2 c3) ?hg ?_; (case hg => exact hY6))
    | fail)
  refine Calls.mono hE.out ?_
  rintro e w9 ⟨g9, k9, rfl, ho9, hB9, hq⟩
  clear hE ho9
  replace hY6 := hY6.later hq
  replace sm7 := sm7.later hq
  replace hB8 := hB8.later hq
  have hb9 := hb8.trans (hq.mono hb8.size)
  clear hq hb8
  obtain ⟨l9, hl9⟩ : ∃ n, (sumB (msgB mn)).length = n := ⟨_, rfl⟩
  rw [hl9]
  replace hl9 : Hid _ := hl9
  go_wp2_with (first
    | (refine wpList_load_has (by rfl) 48 _ rfl w4.heap.size rfl 48 (msgC mn a1 c1 a2 c2 a3 c3) _ Tryz.underlying48 rfl (msg_size mn a1 a2 a3 c1 c2 c3) ?hg ?_; (case hg => exact hY6))
    | fail)
  refine (wis_any mn a1 a2 a3 c1 c2 c3 _ hm6 sm7).mono ?_
  rintro e w10 ⟨rfl, hq⟩
  rw [hin.out]
  have t8 := str_of1 (hB8.later hq) hl8.out.symm
  have t9 := str_of1 (hB9.later hq) hl9.out.symm
  have hb10 := hb9.trans (hq.mono hb9.size)
  have hs1 : ((⟨(sumB (msgB m)).toArray⟩ : ByteArray).toList == (⟨(sumB (msgB mn)).toArray⟩ : ByteArray).toList) = false := by
    rw [ByteArray.toList_eq, ByteArray.toList_eq, List.toList_toArray, List.toList_toArray]
    exact beq_false_of_ne hdiff
  clear hq hb9 hB8 hB9 hX6 hY6 hdiff
  generalize (⟨(sumB (msgB m)).toArray⟩ : ByteArray) = S8 at *
  generalize (⟨(sumB (msgB mn)).toArray⟩ : ByteArray) = S9 at *
  go_wp2
  go_ret
  exact ⟨rfl, hb10⟩
set_option maxHeartbeats 8000000 in
theorem only_walk2 (m : MsgV) (a1 a2 a3 : Option Addr) (c1 c2 c3 q : Nat) (w : World) (hm0 : MsgIn m) (s1 : Sl w a1 c1 8 (entR m.st.log)) (s2 : Sl w a2 c2 8 (entR m.diff.log)) (s3 : Sl w a3 c3 8 (entR m.diff.whole.log)) (hq256 : q < 256) (hL : Laid w) (hr : q % 8 = 2) :
    Calls Tryz.prog 8 #[.agg (msgC m a1 c1 a2 c2 a3 c3), .int .u8 (q : Nat)] w fun e w' => e = .returned (.bool true) ∧ Below w.heap.size w w' := by
  obtain ⟨w1, hw1, hX, hb1⟩ := one_var w 48 (msgC m a1 c1 a2 c2 a3 c3)
  have hk := wknown_any w1 (hL.next hb1)
  replace hk : Hid _ := hk
  go_enter Tryz.func8, Tryz.ntmps8
  go_wp2_with fail
  refine Calls.mono hk.out ?_
  rintro e w2 ⟨rfl, hq⟩
  clear hk hw1
  replace hX := hX.later hq
  have hb2 := hb1.trans (hq.mono hb1.size)
  clear hq hb1
  go_wp2_with (first
    | (refine wpList_load_has (by rfl) 48 _ rfl w.heap.size rfl 48 (msgC m a1 c1 a2 c2 a3 c3) _ Tryz.underlying48 rfl (msg_size m a1 a2 a3 c1 c2 c3) ?hg ?_; (case hg => exact hX))
    | fail)
  refine (few_any m a1 a2 a3 c1 c2 c3 _ hm0 (s1.later hb2) (s2.later hb2) (s3.later hb2)).mono ?_
  rintro e w3 ⟨⟨b, rfl, hbt⟩, hq⟩
  replace hX := hX.later hq
  have hb3 := hb2.trans (hq.mono hb2.size)
  clear hq hb2
  cases b with
  | false =>
    clear hbt
    go_wp2
    go_ret
    exact ⟨rfl, hb3⟩
  | true =>
  obtain ⟨k1, k2, k3⟩ := hbt rfl
  have hm : MsgOk m := hm0.ok (by omega) (by omega) (by omega)
  clear hbt k1 k2 k3 hm0
  have sm3 : MsgSl w3 m a1 c1 a2 c2 a3 c3 := ⟨s1.later hb3, s2.later hb3, s3.later hb3⟩
  go_wp2_with (first
    | (refine wpList_load_has (by rfl) 48 _ rfl w.heap.size rfl 48 (msgC m a1 c1 a2 c2 a3 c3) _ Tryz.underlying48 rfl (msg_size m a1 a2 a3 c1 c2 c3) ?hg ?_; (case hg => exact hX))
    | fail)
  refine (wis_any m a1 a2 a3 c1 c2 c3 _ hm sm3).mono ?_
  rintro e w4 ⟨rfl, hq⟩
  replace hX := hX.later hq
  have hb4 := hb3.trans (hq.mono hb3.size)
  clear hq hb3 sm3
  cases hi : isMsg m with
  | false =>
    go_wp2
    go_ret
    exact ⟨rfl, hb4⟩
  | true =>
  replace hi : Hid _ := hi
  obtain ⟨w5, hw5, hY, hq⟩ := new_var w4 48 (msgC msg0 none 0 none 0 none 0) (msgC m a1 c1 a2 c2 a3 c3)
  have hX4 := hX
  replace hX := hX.later hq
  have hb5 := hb4.trans (hq.mono hb4.size)
  have h45 : w.heap.size ≤ w4.heap.size := hb4.size
  have hlt4 : w.heap.size < w4.heap.size := hX4.lt
  clear hq hb4
  have hcl : w5.cell? ⟨w4.heap.size, 10, none⟩ = some (.int .u8 (m.inc.osd : Nat)) := hY.mc_at 10 rfl
  have hzl := hY.free 10
  have hrI : (q : Int) % 8 = 2 := by omega
  replace hr : Hid _ := hr
  obtain ⟨y, hyE⟩ : ∃ y : Nat, y = (m.inc.osd + 1) % 256 := ⟨_, rfl⟩
  have hxl : m.inc.osd < 256 := hm.inc.osd
  have hy : y < 256 := by omega
  have hyI : (((m.inc.osd : Nat) : Int) + 1) % 256 = ((y : Nat) : Int) := by omega
  have hyn : m.inc.osd ≠ y := by omega
  clear hyE hxl
  have hY6 := hY.mset_o2 y
  have hB6 : But w4.heap.size w5 (w5.setCell ⟨w4.heap.size, 10, none⟩ (.int .u8 (y : Int))) := but_cell _ _ _
  have hX6 := hB6.has hX (by omega)
  have hb6 := hb5.setCell (p := ⟨w4.heap.size, 10, none⟩) h45 (.int .u8 (y : Int))
  have hm6 : MsgOk ({ m with inc := { m.inc with osd := y } }) := ⟨hm.kind, hm.src, hm.dst, hm.epoch, hm.b, hm.acc, ⟨hm.inc.kind, hy, hm.inc.lo, hm.inc.hi⟩, hm.group, hm.st, hm.diff, hm.ent, hm.n, hm.op, hm.r⟩
  have sm6 : MsgSl (w5.setCell ⟨w4.heap.size, 10, none⟩ (.int .u8 (y : Int))) ({ m with inc := { m.inc with osd := y } }) a1 c1 a2 c2 a3 c3 := ⟨s1.later hb6, s2.later hb6, s3.later hb6⟩
  have hne : m ≠ { m with inc := { m.inc with osd := y } } := fun e => hyn (congrArg (fun z : MsgV => z.inc.osd) e)
  obtain ⟨w6, hw6⟩ : ∃ W, w5.setCell ⟨w4.heap.size, 10, none⟩ (.int .u8 (y : Int)) = W := ⟨_, rfl⟩
  rw [hw6] at hY6 hX6 hb6 sm6
  generalize { m with inc := { m.inc with osd := y } } = mn at *
  have sm0 : MsgSl w6 m a1 c1 a2 c2 a3 c3 := ⟨s1.later hb6, s2.later hb6, s3.later hb6⟩
  clear hY hX hB6 hb5 hyn hy
  go_wp2_with (first
    | (refine wpList_load_has (by rfl) 48 _ rfl w.heap.size rfl 48 (msgC m a1 c1 a2 c2 a3 c3) _ Tryz.underlying48 rfl (msg_size m a1 a2 a3 c1 c2 c3) ?hg ?_; (case hg => exact hX4))
    | (refine wpList_alloc_has (by rfl) 48 rfl (msgC msg0 none 0 none 0 none 0) msg_zero ?_)
    | (refine wpList_store_to (by rfl) 48 _ _ rfl w4.heap.size rfl (msgC m a1 c1 a2 c2 a3 c3) rfl 48 (msgC msg0 none 0 none 0 none 0) (msg_size m a1 a2 a3 c1 c2 c3) (msg_same _ _ _ _ _ _ _ _ _ _ _ _ _ _) (msg_one m a1 a2 a3 c1 c2 c3) ?hg w5 ?hW ?_; (case hg => exact Has.new _ _ _); (case hW => exact hw5); clear hw5)
    | (refine wpList_load_has (by rfl) 48 _ rfl w.heap.size rfl 48 (msgC m a1 c1 a2 c2 a3 c3) _ Tryz.underlying48 rfl (msg_size m a1 a2 a3 c1 c2 c3) ?hg ?_; (case hg => exact hX6))
    | (refine wpList_load_has (by rfl) 48 _ rfl w4.heap.size rfl 48 (msgC mn a1 c1 a2 c2 a3 c3) _ Tryz.underlying48 rfl (msg_size mn a1 a2 a3 c1 c2 c3) ?hg ?_; (case hg => exact hY6))
    | fail)
  clear hw6 hyI hcl hzl hrI hr
  refine (wsame_any m mn a1 a2 a3 a1 a2 a3 c1 c2 c3 c1 c2 c3 _ hm hm6 sm0 sm6).mono ?_
  rintro e w7 ⟨rfl, hq⟩
  rw [show sameMsg m mn = false from by rw [← Bool.not_eq_true, sameMsg_is]; exact hne]
  replace hX6 := hX6.later hq
  replace hY6 := hY6.later hq
  replace sm0 := sm0.later hq
  have sm7 := sm6.later hq
  have hb7 := hb6.trans (hq.mono hb6.size)
  clear hq hb6 sm6
  have hE := wencode_yes m a1 a2 a3 c1 c2 c3 w7 hm sm0 hi.out
  replace hE : Hid _ := hE
  go_wp2_with (first
    | (refine wpList_load_has (by rfl) 48 _ rfl w.heap.size rfl 48 (msgC m a1 c1 a2 c2 a3 c3) _ Tryz.underlying48 rfl (msg_size m a1 a2 a3 c1 c2 c3) ?hg ?_; (case hg => exact hX6))
    | fail)
  refine Calls.mono hE.out ?_
  rintro e w8 ⟨g8, k8, rfl, ho8, hB8, hq⟩
  clear hE ho8
  replace hX6 := hX6.later hq
  replace hY6 := hY6.later hq
  replace sm7 := sm7.later hq
  have hb8 := hb7.trans (hq.mono hb7.size)
  clear hq hb7
  obtain ⟨l8, hl8⟩ : ∃ n, (sumB (msgB m)).length = n := ⟨_, rfl⟩
  rw [hl8]
  replace hl8 : Hid _ := hl8
  cases hin : isMsg mn with
  | false =>
    have hE := wencode_no mn a1 a2 a3 c1 c2 c3 w8 hm6 sm7 hin
    replace hE : Hid _ := hE
    replace hin : Hid _ := hin
    go_wp2_with (first
      | (refine wpList_load_has (by rfl) 48 _ rfl w4.heap.size rfl 48 (msgC mn a1 c1 a2 c2 a3 c3) _ Tryz.underlying48 rfl (msg_size mn a1 a2 a3 c1 c2 c3) ?hg ?_; (case hg => exact hY6))
      | fail)
    refine Calls.mono hE.out ?_
    rintro e w9 ⟨rfl, hq⟩
    clear hE
    replace hY6 := hY6.later hq
    replace sm7 := sm7.later hq
    have hb9 := hb8.trans (hq.mono hb8.size)
    clear hq hb8
    go_wp2_with (first
      | (refine wpList_load_has (by rfl) 48 _ rfl w4.heap.size rfl 48 (msgC mn a1 c1 a2 c2 a3 c3) _ Tryz.underlying48 rfl (msg_size mn a1 a2 a3 c1 c2 c3) ?hg ?_; (case hg => exact hY6))
      | fail)
    refine (wis_any mn a1 a2 a3 c1 c2 c3 _ hm6 sm7).mono ?_
    rintro e w10 ⟨rfl, hq⟩
    rw [hin.out]
    have hb10 := hb9.trans (hq.mono hb9.size)
    clear hq hb9
    go_wp2
    go_ret
    exact ⟨rfl, hb10⟩
  | true =>
  have hE := wencode_yes mn a1 a2 a3 c1 c2 c3 w8 hm6 sm7 hin
  have hdiff : sumB (msgB m) ≠ sumB (msgB mn) := fun e => hne ((sum_inj hm hm6 hi.out hin).1 e)
  replace hE : Hid _ := hE
  replace hin : Hid _ := hin
  go_wp2_with (first
    | (refine wpList_load_has (by rfl) 48 _ rfl w4.heap.size rfl 48 (msgC mn a1 c1 a2 c2 a3 c3) _ Tryz.underlying48 rfl (msg_size mn a1 a2 a3 c1 c2 c3) ?hg ?_; (case hg => exact hY6))
    | fail)
  refine Calls.mono hE.out ?_
  rintro e w9 ⟨g9, k9, rfl, ho9, hB9, hq⟩
  clear hE ho9
  replace hY6 := hY6.later hq
  replace sm7 := sm7.later hq
  replace hB8 := hB8.later hq
  have hb9 := hb8.trans (hq.mono hb8.size)
  clear hq hb8
  obtain ⟨l9, hl9⟩ : ∃ n, (sumB (msgB mn)).length = n := ⟨_, rfl⟩
  rw [hl9]
  replace hl9 : Hid _ := hl9
  go_wp2_with (first
    | (refine wpList_load_has (by rfl) 48 _ rfl w4.heap.size rfl 48 (msgC mn a1 c1 a2 c2 a3 c3) _ Tryz.underlying48 rfl (msg_size mn a1 a2 a3 c1 c2 c3) ?hg ?_; (case hg => exact hY6))
    | fail)
  refine (wis_any mn a1 a2 a3 c1 c2 c3 _ hm6 sm7).mono ?_
  rintro e w10 ⟨rfl, hq⟩
  rw [hin.out]
  have t8 := str_of1 (hB8.later hq) hl8.out.symm
  have t9 := str_of1 (hB9.later hq) hl9.out.symm
  have hb10 := hb9.trans (hq.mono hb9.size)
  have hs1 : ((⟨(sumB (msgB m)).toArray⟩ : ByteArray).toList == (⟨(sumB (msgB mn)).toArray⟩ : ByteArray).toList) = false := by
    rw [ByteArray.toList_eq, ByteArray.toList_eq, List.toList_toArray, List.toList_toArray]
    exact beq_false_of_ne hdiff
  clear hq hb9 hB8 hB9 hX6 hY6 hdiff
  generalize (⟨(sumB (msgB m)).toArray⟩ : ByteArray) = S8 at *
  generalize (⟨(sumB (msgB mn)).toArray⟩ : ByteArray) = S9 at *
  go_wp2
  go_ret
  exact ⟨rfl, hb10⟩
set_option maxHeartbeats 8000000 in
theorem only_walk3 (m : MsgV) (a1 a2 a3 : Option Addr) (c1 c2 c3 q : Nat) (w : World) (hm0 : MsgIn m) (s1 : Sl w a1 c1 8 (entR m.st.log)) (s2 : Sl w a2 c2 8 (entR m.diff.log)) (s3 : Sl w a3 c3 8 (entR m.diff.whole.log)) (hq256 : q < 256) (hL : Laid w) (hr : q % 8 = 3) :
    Calls Tryz.prog 8 #[.agg (msgC m a1 c1 a2 c2 a3 c3), .int .u8 (q : Nat)] w fun e w' => e = .returned (.bool true) ∧ Below w.heap.size w w' := by
  obtain ⟨w1, hw1, hX, hb1⟩ := one_var w 48 (msgC m a1 c1 a2 c2 a3 c3)
  have hk := wknown_any w1 (hL.next hb1)
  replace hk : Hid _ := hk
  go_enter Tryz.func8, Tryz.ntmps8
  go_wp2_with fail
  refine Calls.mono hk.out ?_
  rintro e w2 ⟨rfl, hq⟩
  clear hk hw1
  replace hX := hX.later hq
  have hb2 := hb1.trans (hq.mono hb1.size)
  clear hq hb1
  go_wp2_with (first
    | (refine wpList_load_has (by rfl) 48 _ rfl w.heap.size rfl 48 (msgC m a1 c1 a2 c2 a3 c3) _ Tryz.underlying48 rfl (msg_size m a1 a2 a3 c1 c2 c3) ?hg ?_; (case hg => exact hX))
    | fail)
  refine (few_any m a1 a2 a3 c1 c2 c3 _ hm0 (s1.later hb2) (s2.later hb2) (s3.later hb2)).mono ?_
  rintro e w3 ⟨⟨b, rfl, hbt⟩, hq⟩
  replace hX := hX.later hq
  have hb3 := hb2.trans (hq.mono hb2.size)
  clear hq hb2
  cases b with
  | false =>
    clear hbt
    go_wp2
    go_ret
    exact ⟨rfl, hb3⟩
  | true =>
  obtain ⟨k1, k2, k3⟩ := hbt rfl
  have hm : MsgOk m := hm0.ok (by omega) (by omega) (by omega)
  clear hbt k1 k2 k3 hm0
  have sm3 : MsgSl w3 m a1 c1 a2 c2 a3 c3 := ⟨s1.later hb3, s2.later hb3, s3.later hb3⟩
  go_wp2_with (first
    | (refine wpList_load_has (by rfl) 48 _ rfl w.heap.size rfl 48 (msgC m a1 c1 a2 c2 a3 c3) _ Tryz.underlying48 rfl (msg_size m a1 a2 a3 c1 c2 c3) ?hg ?_; (case hg => exact hX))
    | fail)
  refine (wis_any m a1 a2 a3 c1 c2 c3 _ hm sm3).mono ?_
  rintro e w4 ⟨rfl, hq⟩
  replace hX := hX.later hq
  have hb4 := hb3.trans (hq.mono hb3.size)
  clear hq hb3 sm3
  cases hi : isMsg m with
  | false =>
    go_wp2
    go_ret
    exact ⟨rfl, hb4⟩
  | true =>
  replace hi : Hid _ := hi
  obtain ⟨w5, hw5, hY, hq⟩ := new_var w4 48 (msgC msg0 none 0 none 0 none 0) (msgC m a1 c1 a2 c2 a3 c3)
  have hX4 := hX
  replace hX := hX.later hq
  have hb5 := hb4.trans (hq.mono hb4.size)
  have h45 : w.heap.size ≤ w4.heap.size := hb4.size
  have hlt4 : w.heap.size < w4.heap.size := hX4.lt
  clear hq hb4
  have hcl : w5.cell? ⟨w4.heap.size, 12, none⟩ = some (.int .u8 (m.group : Nat)) := hY.mc_at 12 rfl
  have hzl := hY.free 12
  have hrI : (q : Int) % 8 = 3 := by omega
  replace hr : Hid _ := hr
  obtain ⟨y, hyE⟩ : ∃ y : Nat, y = (m.group + 1) % 256 := ⟨_, rfl⟩
  have hxl : m.group < 256 := hm.group
  have hy : y < 256 := by omega
  have hyI : (((m.group : Nat) : Int) + 1) % 256 = ((y : Nat) : Int) := by omega
  have hyn : m.group ≠ y := by omega
  clear hyE hxl
  have hY6 := hY.mset_o3 y
  have hB6 : But w4.heap.size w5 (w5.setCell ⟨w4.heap.size, 12, none⟩ (.int .u8 (y : Int))) := but_cell _ _ _
  have hX6 := hB6.has hX (by omega)
  have hb6 := hb5.setCell (p := ⟨w4.heap.size, 12, none⟩) h45 (.int .u8 (y : Int))
  have hm6 : MsgOk ({ m with group := y }) := ⟨hm.kind, hm.src, hm.dst, hm.epoch, hm.b, hm.acc, hm.inc, hy, hm.st, hm.diff, hm.ent, hm.n, hm.op, hm.r⟩
  have sm6 : MsgSl (w5.setCell ⟨w4.heap.size, 12, none⟩ (.int .u8 (y : Int))) ({ m with group := y }) a1 c1 a2 c2 a3 c3 := ⟨s1.later hb6, s2.later hb6, s3.later hb6⟩
  have hne : m ≠ { m with group := y } := fun e => hyn (congrArg (fun z : MsgV => z.group) e)
  obtain ⟨w6, hw6⟩ : ∃ W, w5.setCell ⟨w4.heap.size, 12, none⟩ (.int .u8 (y : Int)) = W := ⟨_, rfl⟩
  rw [hw6] at hY6 hX6 hb6 sm6
  generalize { m with group := y } = mn at *
  have sm0 : MsgSl w6 m a1 c1 a2 c2 a3 c3 := ⟨s1.later hb6, s2.later hb6, s3.later hb6⟩
  clear hY hX hB6 hb5 hyn hy
  go_wp2_with (first
    | (refine wpList_load_has (by rfl) 48 _ rfl w.heap.size rfl 48 (msgC m a1 c1 a2 c2 a3 c3) _ Tryz.underlying48 rfl (msg_size m a1 a2 a3 c1 c2 c3) ?hg ?_; (case hg => exact hX4))
    | (refine wpList_alloc_has (by rfl) 48 rfl (msgC msg0 none 0 none 0 none 0) msg_zero ?_)
    | (refine wpList_store_to (by rfl) 48 _ _ rfl w4.heap.size rfl (msgC m a1 c1 a2 c2 a3 c3) rfl 48 (msgC msg0 none 0 none 0 none 0) (msg_size m a1 a2 a3 c1 c2 c3) (msg_same _ _ _ _ _ _ _ _ _ _ _ _ _ _) (msg_one m a1 a2 a3 c1 c2 c3) ?hg w5 ?hW ?_; (case hg => exact Has.new _ _ _); (case hW => exact hw5); clear hw5)
    | (refine wpList_load_has (by rfl) 48 _ rfl w.heap.size rfl 48 (msgC m a1 c1 a2 c2 a3 c3) _ Tryz.underlying48 rfl (msg_size m a1 a2 a3 c1 c2 c3) ?hg ?_; (case hg => exact hX6))
    | (refine wpList_load_has (by rfl) 48 _ rfl w4.heap.size rfl 48 (msgC mn a1 c1 a2 c2 a3 c3) _ Tryz.underlying48 rfl (msg_size mn a1 a2 a3 c1 c2 c3) ?hg ?_; (case hg => exact hY6))
    | fail)
  clear hw6 hyI hcl hzl hrI hr
  refine (wsame_any m mn a1 a2 a3 a1 a2 a3 c1 c2 c3 c1 c2 c3 _ hm hm6 sm0 sm6).mono ?_
  rintro e w7 ⟨rfl, hq⟩
  rw [show sameMsg m mn = false from by rw [← Bool.not_eq_true, sameMsg_is]; exact hne]
  replace hX6 := hX6.later hq
  replace hY6 := hY6.later hq
  replace sm0 := sm0.later hq
  have sm7 := sm6.later hq
  have hb7 := hb6.trans (hq.mono hb6.size)
  clear hq hb6 sm6
  have hE := wencode_yes m a1 a2 a3 c1 c2 c3 w7 hm sm0 hi.out
  replace hE : Hid _ := hE
  go_wp2_with (first
    | (refine wpList_load_has (by rfl) 48 _ rfl w.heap.size rfl 48 (msgC m a1 c1 a2 c2 a3 c3) _ Tryz.underlying48 rfl (msg_size m a1 a2 a3 c1 c2 c3) ?hg ?_; (case hg => exact hX6))
    | fail)
  refine Calls.mono hE.out ?_
  rintro e w8 ⟨g8, k8, rfl, ho8, hB8, hq⟩
  clear hE ho8
  replace hX6 := hX6.later hq
  replace hY6 := hY6.later hq
  replace sm7 := sm7.later hq
  have hb8 := hb7.trans (hq.mono hb7.size)
  clear hq hb7
  obtain ⟨l8, hl8⟩ : ∃ n, (sumB (msgB m)).length = n := ⟨_, rfl⟩
  rw [hl8]
  replace hl8 : Hid _ := hl8
  cases hin : isMsg mn with
  | false =>
    have hE := wencode_no mn a1 a2 a3 c1 c2 c3 w8 hm6 sm7 hin
    replace hE : Hid _ := hE
    replace hin : Hid _ := hin
    go_wp2_with (first
      | (refine wpList_load_has (by rfl) 48 _ rfl w4.heap.size rfl 48 (msgC mn a1 c1 a2 c2 a3 c3) _ Tryz.underlying48 rfl (msg_size mn a1 a2 a3 c1 c2 c3) ?hg ?_; (case hg => exact hY6))
      | fail)
    refine Calls.mono hE.out ?_
    rintro e w9 ⟨rfl, hq⟩
    clear hE
    replace hY6 := hY6.later hq
    replace sm7 := sm7.later hq
    have hb9 := hb8.trans (hq.mono hb8.size)
    clear hq hb8
    go_wp2_with (first
      | (refine wpList_load_has (by rfl) 48 _ rfl w4.heap.size rfl 48 (msgC mn a1 c1 a2 c2 a3 c3) _ Tryz.underlying48 rfl (msg_size mn a1 a2 a3 c1 c2 c3) ?hg ?_; (case hg => exact hY6))
      | fail)
    refine (wis_any mn a1 a2 a3 c1 c2 c3 _ hm6 sm7).mono ?_
    rintro e w10 ⟨rfl, hq⟩
    rw [hin.out]
    have hb10 := hb9.trans (hq.mono hb9.size)
    clear hq hb9
    go_wp2
    go_ret
    exact ⟨rfl, hb10⟩
  | true =>
  have hE := wencode_yes mn a1 a2 a3 c1 c2 c3 w8 hm6 sm7 hin
  have hdiff : sumB (msgB m) ≠ sumB (msgB mn) := fun e => hne ((sum_inj hm hm6 hi.out hin).1 e)
  replace hE : Hid _ := hE
  replace hin : Hid _ := hin
  go_wp2_with (first
    | (refine wpList_load_has (by rfl) 48 _ rfl w4.heap.size rfl 48 (msgC mn a1 c1 a2 c2 a3 c3) _ Tryz.underlying48 rfl (msg_size mn a1 a2 a3 c1 c2 c3) ?hg ?_; (case hg => exact hY6))
    | fail)
  refine Calls.mono hE.out ?_
  rintro e w9 ⟨g9, k9, rfl, ho9, hB9, hq⟩
  clear hE ho9
  replace hY6 := hY6.later hq
  replace sm7 := sm7.later hq
  replace hB8 := hB8.later hq
  have hb9 := hb8.trans (hq.mono hb8.size)
  clear hq hb8
  obtain ⟨l9, hl9⟩ : ∃ n, (sumB (msgB mn)).length = n := ⟨_, rfl⟩
  rw [hl9]
  replace hl9 : Hid _ := hl9
  go_wp2_with (first
    | (refine wpList_load_has (by rfl) 48 _ rfl w4.heap.size rfl 48 (msgC mn a1 c1 a2 c2 a3 c3) _ Tryz.underlying48 rfl (msg_size mn a1 a2 a3 c1 c2 c3) ?hg ?_; (case hg => exact hY6))
    | fail)
  refine (wis_any mn a1 a2 a3 c1 c2 c3 _ hm6 sm7).mono ?_
  rintro e w10 ⟨rfl, hq⟩
  rw [hin.out]
  have t8 := str_of1 (hB8.later hq) hl8.out.symm
  have t9 := str_of1 (hB9.later hq) hl9.out.symm
  have hb10 := hb9.trans (hq.mono hb9.size)
  have hs1 : ((⟨(sumB (msgB m)).toArray⟩ : ByteArray).toList == (⟨(sumB (msgB mn)).toArray⟩ : ByteArray).toList) = false := by
    rw [ByteArray.toList_eq, ByteArray.toList_eq, List.toList_toArray, List.toList_toArray]
    exact beq_false_of_ne hdiff
  clear hq hb9 hB8 hB9 hX6 hY6 hdiff
  generalize (⟨(sumB (msgB m)).toArray⟩ : ByteArray) = S8 at *
  generalize (⟨(sumB (msgB mn)).toArray⟩ : ByteArray) = S9 at *
  go_wp2
  go_ret
  exact ⟨rfl, hb10⟩
set_option maxHeartbeats 8000000 in
theorem only_walk4 (m : MsgV) (a1 a2 a3 : Option Addr) (c1 c2 c3 q : Nat) (w : World) (hm0 : MsgIn m) (s1 : Sl w a1 c1 8 (entR m.st.log)) (s2 : Sl w a2 c2 8 (entR m.diff.log)) (s3 : Sl w a3 c3 8 (entR m.diff.whole.log)) (hq256 : q < 256) (hL : Laid w) (hr : q % 8 = 4) :
    Calls Tryz.prog 8 #[.agg (msgC m a1 c1 a2 c2 a3 c3), .int .u8 (q : Nat)] w fun e w' => e = .returned (.bool true) ∧ Below w.heap.size w w' := by
  obtain ⟨w1, hw1, hX, hb1⟩ := one_var w 48 (msgC m a1 c1 a2 c2 a3 c3)
  have hk := wknown_any w1 (hL.next hb1)
  replace hk : Hid _ := hk
  go_enter Tryz.func8, Tryz.ntmps8
  go_wp2_with fail
  refine Calls.mono hk.out ?_
  rintro e w2 ⟨rfl, hq⟩
  clear hk hw1
  replace hX := hX.later hq
  have hb2 := hb1.trans (hq.mono hb1.size)
  clear hq hb1
  go_wp2_with (first
    | (refine wpList_load_has (by rfl) 48 _ rfl w.heap.size rfl 48 (msgC m a1 c1 a2 c2 a3 c3) _ Tryz.underlying48 rfl (msg_size m a1 a2 a3 c1 c2 c3) ?hg ?_; (case hg => exact hX))
    | fail)
  refine (few_any m a1 a2 a3 c1 c2 c3 _ hm0 (s1.later hb2) (s2.later hb2) (s3.later hb2)).mono ?_
  rintro e w3 ⟨⟨b, rfl, hbt⟩, hq⟩
  replace hX := hX.later hq
  have hb3 := hb2.trans (hq.mono hb2.size)
  clear hq hb2
  cases b with
  | false =>
    clear hbt
    go_wp2
    go_ret
    exact ⟨rfl, hb3⟩
  | true =>
  obtain ⟨k1, k2, k3⟩ := hbt rfl
  have hm : MsgOk m := hm0.ok (by omega) (by omega) (by omega)
  clear hbt k1 k2 k3 hm0
  have sm3 : MsgSl w3 m a1 c1 a2 c2 a3 c3 := ⟨s1.later hb3, s2.later hb3, s3.later hb3⟩
  go_wp2_with (first
    | (refine wpList_load_has (by rfl) 48 _ rfl w.heap.size rfl 48 (msgC m a1 c1 a2 c2 a3 c3) _ Tryz.underlying48 rfl (msg_size m a1 a2 a3 c1 c2 c3) ?hg ?_; (case hg => exact hX))
    | fail)
  refine (wis_any m a1 a2 a3 c1 c2 c3 _ hm sm3).mono ?_
  rintro e w4 ⟨rfl, hq⟩
  replace hX := hX.later hq
  have hb4 := hb3.trans (hq.mono hb3.size)
  clear hq hb3 sm3
  cases hi : isMsg m with
  | false =>
    go_wp2
    go_ret
    exact ⟨rfl, hb4⟩
  | true =>
  replace hi : Hid _ := hi
  obtain ⟨w5, hw5, hY, hq⟩ := new_var w4 48 (msgC msg0 none 0 none 0 none 0) (msgC m a1 c1 a2 c2 a3 c3)
  have hX4 := hX
  replace hX := hX.later hq
  have hb5 := hb4.trans (hq.mono hb4.size)
  have h45 : w.heap.size ≤ w4.heap.size := hb4.size
  have hlt4 : w.heap.size < w4.heap.size := hX4.lt
  clear hq hb4
  have hcl : w5.cell? ⟨w4.heap.size, 13, none⟩ = some (.int .u32 (m.st.started : Nat)) := hY.mc_at 13 rfl
  have hzl := hY.free 13
  have hrI : (q : Int) % 8 = 4 := by omega
  replace hr : Hid _ := hr
  obtain ⟨y, hyE⟩ : ∃ y : Nat, y = (m.st.started + 1) % 4294967296 := ⟨_, rfl⟩
  have hxl : m.st.started < 4294967296 := hm.st.started
  have hy : y < 4294967296 := by omega
  have hyI : (((m.st.started : Nat) : Int) + 1) % 4294967296 = ((y : Nat) : Int) := by omega
  have hyn : m.st.started ≠ y := by omega
  clear hyE hxl
  have hY6 := hY.mset_o4 y
  have hB6 : But w4.heap.size w5 (w5.setCell ⟨w4.heap.size, 13, none⟩ (.int .u32 (y : Int))) := but_cell _ _ _
  have hX6 := hB6.has hX (by omega)
  have hb6 := hb5.setCell (p := ⟨w4.heap.size, 13, none⟩) h45 (.int .u32 (y : Int))
  have hm6 : MsgOk ({ m with st := { m.st with started := y } }) := ⟨hm.kind, hm.src, hm.dst, hm.epoch, hm.b, hm.acc, hm.inc, hm.group, ⟨hy, hm.st.base, hm.st.tail, hm.st.log, hm.st.len⟩, hm.diff, hm.ent, hm.n, hm.op, hm.r⟩
  have sm6 : MsgSl (w5.setCell ⟨w4.heap.size, 13, none⟩ (.int .u32 (y : Int))) ({ m with st := { m.st with started := y } }) a1 c1 a2 c2 a3 c3 := ⟨s1.later hb6, s2.later hb6, s3.later hb6⟩
  have hne : m ≠ { m with st := { m.st with started := y } } := fun e => hyn (congrArg (fun z : MsgV => z.st.started) e)
  obtain ⟨w6, hw6⟩ : ∃ W, w5.setCell ⟨w4.heap.size, 13, none⟩ (.int .u32 (y : Int)) = W := ⟨_, rfl⟩
  rw [hw6] at hY6 hX6 hb6 sm6
  generalize { m with st := { m.st with started := y } } = mn at *
  have sm0 : MsgSl w6 m a1 c1 a2 c2 a3 c3 := ⟨s1.later hb6, s2.later hb6, s3.later hb6⟩
  clear hY hX hB6 hb5 hyn hy
  go_wp2_with (first
    | (refine wpList_load_has (by rfl) 48 _ rfl w.heap.size rfl 48 (msgC m a1 c1 a2 c2 a3 c3) _ Tryz.underlying48 rfl (msg_size m a1 a2 a3 c1 c2 c3) ?hg ?_; (case hg => exact hX4))
    | (refine wpList_alloc_has (by rfl) 48 rfl (msgC msg0 none 0 none 0 none 0) msg_zero ?_)
    | (refine wpList_store_to (by rfl) 48 _ _ rfl w4.heap.size rfl (msgC m a1 c1 a2 c2 a3 c3) rfl 48 (msgC msg0 none 0 none 0 none 0) (msg_size m a1 a2 a3 c1 c2 c3) (msg_same _ _ _ _ _ _ _ _ _ _ _ _ _ _) (msg_one m a1 a2 a3 c1 c2 c3) ?hg w5 ?hW ?_; (case hg => exact Has.new _ _ _); (case hW => exact hw5); clear hw5)
    | (refine wpList_load_has (by rfl) 48 _ rfl w.heap.size rfl 48 (msgC m a1 c1 a2 c2 a3 c3) _ Tryz.underlying48 rfl (msg_size m a1 a2 a3 c1 c2 c3) ?hg ?_; (case hg => exact hX6))
    | (refine wpList_load_has (by rfl) 48 _ rfl w4.heap.size rfl 48 (msgC mn a1 c1 a2 c2 a3 c3) _ Tryz.underlying48 rfl (msg_size mn a1 a2 a3 c1 c2 c3) ?hg ?_; (case hg => exact hY6))
    | fail)
  clear hw6 hyI hcl hzl hrI hr
  refine (wsame_any m mn a1 a2 a3 a1 a2 a3 c1 c2 c3 c1 c2 c3 _ hm hm6 sm0 sm6).mono ?_
  rintro e w7 ⟨rfl, hq⟩
  rw [show sameMsg m mn = false from by rw [← Bool.not_eq_true, sameMsg_is]; exact hne]
  replace hX6 := hX6.later hq
  replace hY6 := hY6.later hq
  replace sm0 := sm0.later hq
  have sm7 := sm6.later hq
  have hb7 := hb6.trans (hq.mono hb6.size)
  clear hq hb6 sm6
  have hE := wencode_yes m a1 a2 a3 c1 c2 c3 w7 hm sm0 hi.out
  replace hE : Hid _ := hE
  go_wp2_with (first
    | (refine wpList_load_has (by rfl) 48 _ rfl w.heap.size rfl 48 (msgC m a1 c1 a2 c2 a3 c3) _ Tryz.underlying48 rfl (msg_size m a1 a2 a3 c1 c2 c3) ?hg ?_; (case hg => exact hX6))
    | fail)
  refine Calls.mono hE.out ?_
  rintro e w8 ⟨g8, k8, rfl, ho8, hB8, hq⟩
  clear hE ho8
  replace hX6 := hX6.later hq
  replace hY6 := hY6.later hq
  replace sm7 := sm7.later hq
  have hb8 := hb7.trans (hq.mono hb7.size)
  clear hq hb7
  obtain ⟨l8, hl8⟩ : ∃ n, (sumB (msgB m)).length = n := ⟨_, rfl⟩
  rw [hl8]
  replace hl8 : Hid _ := hl8
  cases hin : isMsg mn with
  | false =>
    have hE := wencode_no mn a1 a2 a3 c1 c2 c3 w8 hm6 sm7 hin
    replace hE : Hid _ := hE
    replace hin : Hid _ := hin
    go_wp2_with (first
      | (refine wpList_load_has (by rfl) 48 _ rfl w4.heap.size rfl 48 (msgC mn a1 c1 a2 c2 a3 c3) _ Tryz.underlying48 rfl (msg_size mn a1 a2 a3 c1 c2 c3) ?hg ?_; (case hg => exact hY6))
      | fail)
    refine Calls.mono hE.out ?_
    rintro e w9 ⟨rfl, hq⟩
    clear hE
    replace hY6 := hY6.later hq
    replace sm7 := sm7.later hq
    have hb9 := hb8.trans (hq.mono hb8.size)
    clear hq hb8
    go_wp2_with (first
      | (refine wpList_load_has (by rfl) 48 _ rfl w4.heap.size rfl 48 (msgC mn a1 c1 a2 c2 a3 c3) _ Tryz.underlying48 rfl (msg_size mn a1 a2 a3 c1 c2 c3) ?hg ?_; (case hg => exact hY6))
      | fail)
    refine (wis_any mn a1 a2 a3 c1 c2 c3 _ hm6 sm7).mono ?_
    rintro e w10 ⟨rfl, hq⟩
    rw [hin.out]
    have hb10 := hb9.trans (hq.mono hb9.size)
    clear hq hb9
    go_wp2
    go_ret
    exact ⟨rfl, hb10⟩
  | true =>
  have hE := wencode_yes mn a1 a2 a3 c1 c2 c3 w8 hm6 sm7 hin
  have hdiff : sumB (msgB m) ≠ sumB (msgB mn) := fun e => hne ((sum_inj hm hm6 hi.out hin).1 e)
  replace hE : Hid _ := hE
  replace hin : Hid _ := hin
  go_wp2_with (first
    | (refine wpList_load_has (by rfl) 48 _ rfl w4.heap.size rfl 48 (msgC mn a1 c1 a2 c2 a3 c3) _ Tryz.underlying48 rfl (msg_size mn a1 a2 a3 c1 c2 c3) ?hg ?_; (case hg => exact hY6))
    | fail)
  refine Calls.mono hE.out ?_
  rintro e w9 ⟨g9, k9, rfl, ho9, hB9, hq⟩
  clear hE ho9
  replace hY6 := hY6.later hq
  replace sm7 := sm7.later hq
  replace hB8 := hB8.later hq
  have hb9 := hb8.trans (hq.mono hb8.size)
  clear hq hb8
  obtain ⟨l9, hl9⟩ : ∃ n, (sumB (msgB mn)).length = n := ⟨_, rfl⟩
  rw [hl9]
  replace hl9 : Hid _ := hl9
  go_wp2_with (first
    | (refine wpList_load_has (by rfl) 48 _ rfl w4.heap.size rfl 48 (msgC mn a1 c1 a2 c2 a3 c3) _ Tryz.underlying48 rfl (msg_size mn a1 a2 a3 c1 c2 c3) ?hg ?_; (case hg => exact hY6))
    | fail)
  refine (wis_any mn a1 a2 a3 c1 c2 c3 _ hm6 sm7).mono ?_
  rintro e w10 ⟨rfl, hq⟩
  rw [hin.out]
  have t8 := str_of1 (hB8.later hq) hl8.out.symm
  have t9 := str_of1 (hB9.later hq) hl9.out.symm
  have hb10 := hb9.trans (hq.mono hb9.size)
  have hs1 : ((⟨(sumB (msgB m)).toArray⟩ : ByteArray).toList == (⟨(sumB (msgB mn)).toArray⟩ : ByteArray).toList) = false := by
    rw [ByteArray.toList_eq, ByteArray.toList_eq, List.toList_toArray, List.toList_toArray]
    exact beq_false_of_ne hdiff
  clear hq hb9 hB8 hB9 hX6 hY6 hdiff
  generalize (⟨(sumB (msgB m)).toArray⟩ : ByteArray) = S8 at *
  generalize (⟨(sumB (msgB mn)).toArray⟩ : ByteArray) = S9 at *
  go_wp2
  go_ret
  exact ⟨rfl, hb10⟩
set_option maxHeartbeats 8000000 in
theorem only_walk5 (m : MsgV) (a1 a2 a3 : Option Addr) (c1 c2 c3 q : Nat) (w : World) (hm0 : MsgIn m) (s1 : Sl w a1 c1 8 (entR m.st.log)) (s2 : Sl w a2 c2 8 (entR m.diff.log)) (s3 : Sl w a3 c3 8 (entR m.diff.whole.log)) (hq256 : q < 256) (hL : Laid w) (hr : q % 8 = 5) :
    Calls Tryz.prog 8 #[.agg (msgC m a1 c1 a2 c2 a3 c3), .int .u8 (q : Nat)] w fun e w' => e = .returned (.bool true) ∧ Below w.heap.size w w' := by
  obtain ⟨w1, hw1, hX, hb1⟩ := one_var w 48 (msgC m a1 c1 a2 c2 a3 c3)
  have hk := wknown_any w1 (hL.next hb1)
  replace hk : Hid _ := hk
  go_enter Tryz.func8, Tryz.ntmps8
  go_wp2_with fail
  refine Calls.mono hk.out ?_
  rintro e w2 ⟨rfl, hq⟩
  clear hk hw1
  replace hX := hX.later hq
  have hb2 := hb1.trans (hq.mono hb1.size)
  clear hq hb1
  go_wp2_with (first
    | (refine wpList_load_has (by rfl) 48 _ rfl w.heap.size rfl 48 (msgC m a1 c1 a2 c2 a3 c3) _ Tryz.underlying48 rfl (msg_size m a1 a2 a3 c1 c2 c3) ?hg ?_; (case hg => exact hX))
    | fail)
  refine (few_any m a1 a2 a3 c1 c2 c3 _ hm0 (s1.later hb2) (s2.later hb2) (s3.later hb2)).mono ?_
  rintro e w3 ⟨⟨b, rfl, hbt⟩, hq⟩
  replace hX := hX.later hq
  have hb3 := hb2.trans (hq.mono hb2.size)
  clear hq hb2
  cases b with
  | false =>
    clear hbt
    go_wp2
    go_ret
    exact ⟨rfl, hb3⟩
  | true =>
  obtain ⟨k1, k2, k3⟩ := hbt rfl
  have hm : MsgOk m := hm0.ok (by omega) (by omega) (by omega)
  clear hbt k1 k2 k3 hm0
  have sm3 : MsgSl w3 m a1 c1 a2 c2 a3 c3 := ⟨s1.later hb3, s2.later hb3, s3.later hb3⟩
  go_wp2_with (first
    | (refine wpList_load_has (by rfl) 48 _ rfl w.heap.size rfl 48 (msgC m a1 c1 a2 c2 a3 c3) _ Tryz.underlying48 rfl (msg_size m a1 a2 a3 c1 c2 c3) ?hg ?_; (case hg => exact hX))
    | fail)
  refine (wis_any m a1 a2 a3 c1 c2 c3 _ hm sm3).mono ?_
  rintro e w4 ⟨rfl, hq⟩
  replace hX := hX.later hq
  have hb4 := hb3.trans (hq.mono hb3.size)
  clear hq hb3 sm3
  cases hi : isMsg m with
  | false =>
    go_wp2
    go_ret
    exact ⟨rfl, hb4⟩
  | true =>
  replace hi : Hid _ := hi
  obtain ⟨w5, hw5, hY, hq⟩ := new_var w4 48 (msgC msg0 none 0 none 0 none 0) (msgC m a1 c1 a2 c2 a3 c3)
  have hX4 := hX
  replace hX := hX.later hq
  have hb5 := hb4.trans (hq.mono hb4.size)
  have h45 : w.heap.size ≤ w4.heap.size := hb4.size
  have hlt4 : w.heap.size < w4.heap.size := hX4.lt
  clear hq hb4
  have hcl : w5.cell? ⟨w4.heap.size, 63, none⟩ = some (.int .u32 (m.diff.fr : Nat)) := hY.mc_at 63 rfl
  have hzl := hY.free 63
  have hrI : (q : Int) % 8 = 5 := by omega
  replace hr : Hid _ := hr
  obtain ⟨y, hyE⟩ : ∃ y : Nat, y = (m.diff.fr + 1) % 4294967296 := ⟨_, rfl⟩
  have hxl : m.diff.fr < 4294967296 := hm.diff.fr
  have hy : y < 4294967296 := by omega
  have hyI : (((m.diff.fr : Nat) : Int) + 1) % 4294967296 = ((y : Nat) : Int) := by omega
  have hyn : m.diff.fr ≠ y := by omega
  clear hyE hxl
  have hY6 := hY.mset_o5 y
  have hB6 : But w4.heap.size w5 (w5.setCell ⟨w4.heap.size, 63, none⟩ (.int .u32 (y : Int))) := but_cell _ _ _
  have hX6 := hB6.has hX (by omega)
  have hb6 := hb5.setCell (p := ⟨w4.heap.size, 63, none⟩) h45 (.int .u32 (y : Int))
  have hm6 : MsgOk ({ m with diff := { m.diff with fr := y } }) := ⟨hm.kind, hm.src, hm.dst, hm.epoch, hm.b, hm.acc, hm.inc, hm.group, hm.st, ⟨hm.diff.kind1, hm.diff.kind2, hy, hm.diff.log, hm.diff.len, hm.diff.whole⟩, hm.ent, hm.n, hm.op, hm.r⟩
  have sm6 : MsgSl (w5.setCell ⟨w4.heap.size, 63, none⟩ (.int .u32 (y : Int))) ({ m with diff := { m.diff with fr := y } }) a1 c1 a2 c2 a3 c3 := ⟨s1.later hb6, s2.later hb6, s3.later hb6⟩
  have hne : m ≠ { m with diff := { m.diff with fr := y } } := fun e => hyn (congrArg (fun z : MsgV => z.diff.fr) e)
  obtain ⟨w6, hw6⟩ : ∃ W, w5.setCell ⟨w4.heap.size, 63, none⟩ (.int .u32 (y : Int)) = W := ⟨_, rfl⟩
  rw [hw6] at hY6 hX6 hb6 sm6
  generalize { m with diff := { m.diff with fr := y } } = mn at *
  have sm0 : MsgSl w6 m a1 c1 a2 c2 a3 c3 := ⟨s1.later hb6, s2.later hb6, s3.later hb6⟩
  clear hY hX hB6 hb5 hyn hy
  go_wp2_with (first
    | (refine wpList_load_has (by rfl) 48 _ rfl w.heap.size rfl 48 (msgC m a1 c1 a2 c2 a3 c3) _ Tryz.underlying48 rfl (msg_size m a1 a2 a3 c1 c2 c3) ?hg ?_; (case hg => exact hX4))
    | (refine wpList_alloc_has (by rfl) 48 rfl (msgC msg0 none 0 none 0 none 0) msg_zero ?_)
    | (refine wpList_store_to (by rfl) 48 _ _ rfl w4.heap.size rfl (msgC m a1 c1 a2 c2 a3 c3) rfl 48 (msgC msg0 none 0 none 0 none 0) (msg_size m a1 a2 a3 c1 c2 c3) (msg_same _ _ _ _ _ _ _ _ _ _ _ _ _ _) (msg_one m a1 a2 a3 c1 c2 c3) ?hg w5 ?hW ?_; (case hg => exact Has.new _ _ _); (case hW => exact hw5); clear hw5)
    | (refine wpList_load_has (by rfl) 48 _ rfl w.heap.size rfl 48 (msgC m a1 c1 a2 c2 a3 c3) _ Tryz.underlying48 rfl (msg_size m a1 a2 a3 c1 c2 c3) ?hg ?_; (case hg => exact hX6))
    | (refine wpList_load_has (by rfl) 48 _ rfl w4.heap.size rfl 48 (msgC mn a1 c1 a2 c2 a3 c3) _ Tryz.underlying48 rfl (msg_size mn a1 a2 a3 c1 c2 c3) ?hg ?_; (case hg => exact hY6))
    | fail)
  clear hw6 hyI hcl hzl hrI hr
  refine (wsame_any m mn a1 a2 a3 a1 a2 a3 c1 c2 c3 c1 c2 c3 _ hm hm6 sm0 sm6).mono ?_
  rintro e w7 ⟨rfl, hq⟩
  rw [show sameMsg m mn = false from by rw [← Bool.not_eq_true, sameMsg_is]; exact hne]
  replace hX6 := hX6.later hq
  replace hY6 := hY6.later hq
  replace sm0 := sm0.later hq
  have sm7 := sm6.later hq
  have hb7 := hb6.trans (hq.mono hb6.size)
  clear hq hb6 sm6
  have hE := wencode_yes m a1 a2 a3 c1 c2 c3 w7 hm sm0 hi.out
  replace hE : Hid _ := hE
  go_wp2_with (first
    | (refine wpList_load_has (by rfl) 48 _ rfl w.heap.size rfl 48 (msgC m a1 c1 a2 c2 a3 c3) _ Tryz.underlying48 rfl (msg_size m a1 a2 a3 c1 c2 c3) ?hg ?_; (case hg => exact hX6))
    | fail)
  refine Calls.mono hE.out ?_
  rintro e w8 ⟨g8, k8, rfl, ho8, hB8, hq⟩
  clear hE ho8
  replace hX6 := hX6.later hq
  replace hY6 := hY6.later hq
  replace sm7 := sm7.later hq
  have hb8 := hb7.trans (hq.mono hb7.size)
  clear hq hb7
  obtain ⟨l8, hl8⟩ : ∃ n, (sumB (msgB m)).length = n := ⟨_, rfl⟩
  rw [hl8]
  replace hl8 : Hid _ := hl8
  cases hin : isMsg mn with
  | false =>
    have hE := wencode_no mn a1 a2 a3 c1 c2 c3 w8 hm6 sm7 hin
    replace hE : Hid _ := hE
    replace hin : Hid _ := hin
    go_wp2_with (first
      | (refine wpList_load_has (by rfl) 48 _ rfl w4.heap.size rfl 48 (msgC mn a1 c1 a2 c2 a3 c3) _ Tryz.underlying48 rfl (msg_size mn a1 a2 a3 c1 c2 c3) ?hg ?_; (case hg => exact hY6))
      | fail)
    refine Calls.mono hE.out ?_
    rintro e w9 ⟨rfl, hq⟩
    clear hE
    replace hY6 := hY6.later hq
    replace sm7 := sm7.later hq
    have hb9 := hb8.trans (hq.mono hb8.size)
    clear hq hb8
    go_wp2_with (first
      | (refine wpList_load_has (by rfl) 48 _ rfl w4.heap.size rfl 48 (msgC mn a1 c1 a2 c2 a3 c3) _ Tryz.underlying48 rfl (msg_size mn a1 a2 a3 c1 c2 c3) ?hg ?_; (case hg => exact hY6))
      | fail)
    refine (wis_any mn a1 a2 a3 c1 c2 c3 _ hm6 sm7).mono ?_
    rintro e w10 ⟨rfl, hq⟩
    rw [hin.out]
    have hb10 := hb9.trans (hq.mono hb9.size)
    clear hq hb9
    go_wp2
    go_ret
    exact ⟨rfl, hb10⟩
  | true =>
  have hE := wencode_yes mn a1 a2 a3 c1 c2 c3 w8 hm6 sm7 hin
  have hdiff : sumB (msgB m) ≠ sumB (msgB mn) := fun e => hne ((sum_inj hm hm6 hi.out hin).1 e)
  replace hE : Hid _ := hE
  replace hin : Hid _ := hin
  go_wp2_with (first
    | (refine wpList_load_has (by rfl) 48 _ rfl w4.heap.size rfl 48 (msgC mn a1 c1 a2 c2 a3 c3) _ Tryz.underlying48 rfl (msg_size mn a1 a2 a3 c1 c2 c3) ?hg ?_; (case hg => exact hY6))
    | fail)
  refine Calls.mono hE.out ?_
  rintro e w9 ⟨g9, k9, rfl, ho9, hB9, hq⟩
  clear hE ho9
  replace hY6 := hY6.later hq
  replace sm7 := sm7.later hq
  replace hB8 := hB8.later hq
  have hb9 := hb8.trans (hq.mono hb8.size)
  clear hq hb8
  obtain ⟨l9, hl9⟩ : ∃ n, (sumB (msgB mn)).length = n := ⟨_, rfl⟩
  rw [hl9]
  replace hl9 : Hid _ := hl9
  go_wp2_with (first
    | (refine wpList_load_has (by rfl) 48 _ rfl w4.heap.size rfl 48 (msgC mn a1 c1 a2 c2 a3 c3) _ Tryz.underlying48 rfl (msg_size mn a1 a2 a3 c1 c2 c3) ?hg ?_; (case hg => exact hY6))
    | fail)
  refine (wis_any mn a1 a2 a3 c1 c2 c3 _ hm6 sm7).mono ?_
  rintro e w10 ⟨rfl, hq⟩
  rw [hin.out]
  have t8 := str_of1 (hB8.later hq) hl8.out.symm
  have t9 := str_of1 (hB9.later hq) hl9.out.symm
  have hb10 := hb9.trans (hq.mono hb9.size)
  have hs1 : ((⟨(sumB (msgB m)).toArray⟩ : ByteArray).toList == (⟨(sumB (msgB mn)).toArray⟩ : ByteArray).toList) = false := by
    rw [ByteArray.toList_eq, ByteArray.toList_eq, List.toList_toArray, List.toList_toArray]
    exact beq_false_of_ne hdiff
  clear hq hb9 hB8 hB9 hX6 hY6 hdiff
  generalize (⟨(sumB (msgB m)).toArray⟩ : ByteArray) = S8 at *
  generalize (⟨(sumB (msgB mn)).toArray⟩ : ByteArray) = S9 at *
  go_wp2
  go_ret
  exact ⟨rfl, hb10⟩
set_option maxHeartbeats 8000000 in
theorem only_walk6 (m : MsgV) (a1 a2 a3 : Option Addr) (c1 c2 c3 q : Nat) (w : World) (hm0 : MsgIn m) (s1 : Sl w a1 c1 8 (entR m.st.log)) (s2 : Sl w a2 c2 8 (entR m.diff.log)) (s3 : Sl w a3 c3 8 (entR m.diff.whole.log)) (hq256 : q < 256) (hL : Laid w) (hr : q % 8 = 6) :
    Calls Tryz.prog 8 #[.agg (msgC m a1 c1 a2 c2 a3 c3), .int .u8 (q : Nat)] w fun e w' => e = .returned (.bool true) ∧ Below w.heap.size w w' := by
  obtain ⟨w1, hw1, hX, hb1⟩ := one_var w 48 (msgC m a1 c1 a2 c2 a3 c3)
  have hk := wknown_any w1 (hL.next hb1)
  replace hk : Hid _ := hk
  go_enter Tryz.func8, Tryz.ntmps8
  go_wp2_with fail
  refine Calls.mono hk.out ?_
  rintro e w2 ⟨rfl, hq⟩
  clear hk hw1
  replace hX := hX.later hq
  have hb2 := hb1.trans (hq.mono hb1.size)
  clear hq hb1
  go_wp2_with (first
    | (refine wpList_load_has (by rfl) 48 _ rfl w.heap.size rfl 48 (msgC m a1 c1 a2 c2 a3 c3) _ Tryz.underlying48 rfl (msg_size m a1 a2 a3 c1 c2 c3) ?hg ?_; (case hg => exact hX))
    | fail)
  refine (few_any m a1 a2 a3 c1 c2 c3 _ hm0 (s1.later hb2) (s2.later hb2) (s3.later hb2)).mono ?_
  rintro e w3 ⟨⟨b, rfl, hbt⟩, hq⟩
  replace hX := hX.later hq
  have hb3 := hb2.trans (hq.mono hb2.size)
  clear hq hb2
  cases b with
  | false =>
    clear hbt
    go_wp2
    go_ret
    exact ⟨rfl, hb3⟩
  | true =>
  obtain ⟨k1, k2, k3⟩ := hbt rfl
  have hm : MsgOk m := hm0.ok (by omega) (by omega) (by omega)
  clear hbt k1 k2 k3 hm0
  have sm3 : MsgSl w3 m a1 c1 a2 c2 a3 c3 := ⟨s1.later hb3, s2.later hb3, s3.later hb3⟩
  go_wp2_with (first
    | (refine wpList_load_has (by rfl) 48 _ rfl w.heap.size rfl 48 (msgC m a1 c1 a2 c2 a3 c3) _ Tryz.underlying48 rfl (msg_size m a1 a2 a3 c1 c2 c3) ?hg ?_; (case hg => exact hX))
    | fail)
  refine (wis_any m a1 a2 a3 c1 c2 c3 _ hm sm3).mono ?_
  rintro e w4 ⟨rfl, hq⟩
  replace hX := hX.later hq
  have hb4 := hb3.trans (hq.mono hb3.size)
  clear hq hb3 sm3
  cases hi : isMsg m with
  | false =>
    go_wp2
    go_ret
    exact ⟨rfl, hb4⟩
  | true =>
  replace hi : Hid _ := hi
  obtain ⟨w5, hw5, hY, hq⟩ := new_var w4 48 (msgC msg0 none 0 none 0 none 0) (msgC m a1 c1 a2 c2 a3 c3)
  have hX4 := hX
  replace hX := hX.later hq
  have hb5 := hb4.trans (hq.mono hb4.size)
  have h45 : w.heap.size ≤ w4.heap.size := hb4.size
  have hlt4 : w.heap.size < w4.heap.size := hX4.lt
  clear hq hb4
  have hcl : w5.cell? ⟨w4.heap.size, 115, none⟩ = some (.int .u32 (m.ent.n : Nat)) := hY.mc_at 115 rfl
  have hzl := hY.free 115
  have hrI : (q : Int) % 8 = 6 := by omega
  replace hr : Hid _ := hr
  obtain ⟨y, hyE⟩ : ∃ y : Nat, y = (m.ent.n + 1) % 4294967296 := ⟨_, rfl⟩
  have hxl : m.ent.n < 4294967296 := hm.ent.n
  have hy : y < 4294967296 := by omega
  have hyI : (((m.ent.n : Nat) : Int) + 1) % 4294967296 = ((y : Nat) : Int) := by omega
  have hyn : m.ent.n ≠ y := by omega
  clear hyE hxl
  have hY6 := hY.mset_o6 y
  have hB6 : But w4.heap.size w5 (w5.setCell ⟨w4.heap.size, 115, none⟩ (.int .u32 (y : Int))) := but_cell _ _ _
  have hX6 := hB6.has hX (by omega)
  have hb6 := hb5.setCell (p := ⟨w4.heap.size, 115, none⟩) h45 (.int .u32 (y : Int))
  have hm6 : MsgOk ({ m with ent := { m.ent with n := y } }) := ⟨hm.kind, hm.src, hm.dst, hm.epoch, hm.b, hm.acc, hm.inc, hm.group, hm.st, hm.diff, ⟨hm.ent.since, hy, hm.ent.op⟩, hm.n, hm.op, hm.r⟩
  have sm6 : MsgSl (w5.setCell ⟨w4.heap.size, 115, none⟩ (.int .u32 (y : Int))) ({ m with ent := { m.ent with n := y } }) a1 c1 a2 c2 a3 c3 := ⟨s1.later hb6, s2.later hb6, s3.later hb6⟩
  have hne : m ≠ { m with ent := { m.ent with n := y } } := fun e => hyn (congrArg (fun z : MsgV => z.ent.n) e)
  obtain ⟨w6, hw6⟩ : ∃ W, w5.setCell ⟨w4.heap.size, 115, none⟩ (.int .u32 (y : Int)) = W := ⟨_, rfl⟩
  rw [hw6] at hY6 hX6 hb6 sm6
  generalize { m with ent := { m.ent with n := y } } = mn at *
  have sm0 : MsgSl w6 m a1 c1 a2 c2 a3 c3 := ⟨s1.later hb6, s2.later hb6, s3.later hb6⟩
  clear hY hX hB6 hb5 hyn hy
  go_wp2_with (first
    | (refine wpList_load_has (by rfl) 48 _ rfl w.heap.size rfl 48 (msgC m a1 c1 a2 c2 a3 c3) _ Tryz.underlying48 rfl (msg_size m a1 a2 a3 c1 c2 c3) ?hg ?_; (case hg => exact hX4))
    | (refine wpList_alloc_has (by rfl) 48 rfl (msgC msg0 none 0 none 0 none 0) msg_zero ?_)
    | (refine wpList_store_to (by rfl) 48 _ _ rfl w4.heap.size rfl (msgC m a1 c1 a2 c2 a3 c3) rfl 48 (msgC msg0 none 0 none 0 none 0) (msg_size m a1 a2 a3 c1 c2 c3) (msg_same _ _ _ _ _ _ _ _ _ _ _ _ _ _) (msg_one m a1 a2 a3 c1 c2 c3) ?hg w5 ?hW ?_; (case hg => exact Has.new _ _ _); (case hW => exact hw5); clear hw5)
    | (refine wpList_load_has (by rfl) 48 _ rfl w.heap.size rfl 48 (msgC m a1 c1 a2 c2 a3 c3) _ Tryz.underlying48 rfl (msg_size m a1 a2 a3 c1 c2 c3) ?hg ?_; (case hg => exact hX6))
    | (refine wpList_load_has (by rfl) 48 _ rfl w4.heap.size rfl 48 (msgC mn a1 c1 a2 c2 a3 c3) _ Tryz.underlying48 rfl (msg_size mn a1 a2 a3 c1 c2 c3) ?hg ?_; (case hg => exact hY6))
    | fail)
  clear hw6 hyI hcl hzl hrI hr
  refine (wsame_any m mn a1 a2 a3 a1 a2 a3 c1 c2 c3 c1 c2 c3 _ hm hm6 sm0 sm6).mono ?_
  rintro e w7 ⟨rfl, hq⟩
  rw [show sameMsg m mn = false from by rw [← Bool.not_eq_true, sameMsg_is]; exact hne]
  replace hX6 := hX6.later hq
  replace hY6 := hY6.later hq
  replace sm0 := sm0.later hq
  have sm7 := sm6.later hq
  have hb7 := hb6.trans (hq.mono hb6.size)
  clear hq hb6 sm6
  have hE := wencode_yes m a1 a2 a3 c1 c2 c3 w7 hm sm0 hi.out
  replace hE : Hid _ := hE
  go_wp2_with (first
    | (refine wpList_load_has (by rfl) 48 _ rfl w.heap.size rfl 48 (msgC m a1 c1 a2 c2 a3 c3) _ Tryz.underlying48 rfl (msg_size m a1 a2 a3 c1 c2 c3) ?hg ?_; (case hg => exact hX6))
    | fail)
  refine Calls.mono hE.out ?_
  rintro e w8 ⟨g8, k8, rfl, ho8, hB8, hq⟩
  clear hE ho8
  replace hX6 := hX6.later hq
  replace hY6 := hY6.later hq
  replace sm7 := sm7.later hq
  have hb8 := hb7.trans (hq.mono hb7.size)
  clear hq hb7
  obtain ⟨l8, hl8⟩ : ∃ n, (sumB (msgB m)).length = n := ⟨_, rfl⟩
  rw [hl8]
  replace hl8 : Hid _ := hl8
  cases hin : isMsg mn with
  | false =>
    have hE := wencode_no mn a1 a2 a3 c1 c2 c3 w8 hm6 sm7 hin
    replace hE : Hid _ := hE
    replace hin : Hid _ := hin
    go_wp2_with (first
      | (refine wpList_load_has (by rfl) 48 _ rfl w4.heap.size rfl 48 (msgC mn a1 c1 a2 c2 a3 c3) _ Tryz.underlying48 rfl (msg_size mn a1 a2 a3 c1 c2 c3) ?hg ?_; (case hg => exact hY6))
      | fail)
    refine Calls.mono hE.out ?_
    rintro e w9 ⟨rfl, hq⟩
    clear hE
    replace hY6 := hY6.later hq
    replace sm7 := sm7.later hq
    have hb9 := hb8.trans (hq.mono hb8.size)
    clear hq hb8
    go_wp2_with (first
      | (refine wpList_load_has (by rfl) 48 _ rfl w4.heap.size rfl 48 (msgC mn a1 c1 a2 c2 a3 c3) _ Tryz.underlying48 rfl (msg_size mn a1 a2 a3 c1 c2 c3) ?hg ?_; (case hg => exact hY6))
      | fail)
    refine (wis_any mn a1 a2 a3 c1 c2 c3 _ hm6 sm7).mono ?_
    rintro e w10 ⟨rfl, hq⟩
    rw [hin.out]
    have hb10 := hb9.trans (hq.mono hb9.size)
    clear hq hb9
    go_wp2
    go_ret
    exact ⟨rfl, hb10⟩
  | true =>
  have hE := wencode_yes mn a1 a2 a3 c1 c2 c3 w8 hm6 sm7 hin
  have hdiff : sumB (msgB m) ≠ sumB (msgB mn) := fun e => hne ((sum_inj hm hm6 hi.out hin).1 e)
  replace hE : Hid _ := hE
  replace hin : Hid _ := hin
  go_wp2_with (first
    | (refine wpList_load_has (by rfl) 48 _ rfl w4.heap.size rfl 48 (msgC mn a1 c1 a2 c2 a3 c3) _ Tryz.underlying48 rfl (msg_size mn a1 a2 a3 c1 c2 c3) ?hg ?_; (case hg => exact hY6))
    | fail)
  refine Calls.mono hE.out ?_
  rintro e w9 ⟨g9, k9, rfl, ho9, hB9, hq⟩
  clear hE ho9
  replace hY6 := hY6.later hq
  replace sm7 := sm7.later hq
  replace hB8 := hB8.later hq
  have hb9 := hb8.trans (hq.mono hb8.size)
  clear hq hb8
  obtain ⟨l9, hl9⟩ : ∃ n, (sumB (msgB mn)).length = n := ⟨_, rfl⟩
  rw [hl9]
  replace hl9 : Hid _ := hl9
  go_wp2_with (first
    | (refine wpList_load_has (by rfl) 48 _ rfl w4.heap.size rfl 48 (msgC mn a1 c1 a2 c2 a3 c3) _ Tryz.underlying48 rfl (msg_size mn a1 a2 a3 c1 c2 c3) ?hg ?_; (case hg => exact hY6))
    | fail)
  refine (wis_any mn a1 a2 a3 c1 c2 c3 _ hm6 sm7).mono ?_
  rintro e w10 ⟨rfl, hq⟩
  rw [hin.out]
  have t8 := str_of1 (hB8.later hq) hl8.out.symm
  have t9 := str_of1 (hB9.later hq) hl9.out.symm
  have hb10 := hb9.trans (hq.mono hb9.size)
  have hs1 : ((⟨(sumB (msgB m)).toArray⟩ : ByteArray).toList == (⟨(sumB (msgB mn)).toArray⟩ : ByteArray).toList) = false := by
    rw [ByteArray.toList_eq, ByteArray.toList_eq, List.toList_toArray, List.toList_toArray]
    exact beq_false_of_ne hdiff
  clear hq hb9 hB8 hB9 hX6 hY6 hdiff
  generalize (⟨(sumB (msgB m)).toArray⟩ : ByteArray) = S8 at *
  generalize (⟨(sumB (msgB mn)).toArray⟩ : ByteArray) = S9 at *
  go_wp2
  go_ret
  exact ⟨rfl, hb10⟩
set_option maxHeartbeats 8000000 in
theorem only_walk7 (m : MsgV) (a1 a2 a3 : Option Addr) (c1 c2 c3 q : Nat) (w : World) (hm0 : MsgIn m) (s1 : Sl w a1 c1 8 (entR m.st.log)) (s2 : Sl w a2 c2 8 (entR m.diff.log)) (s3 : Sl w a3 c3 8 (entR m.diff.whole.log)) (hq256 : q < 256) (hL : Laid w) (hr : q % 8 = 7) :
    Calls Tryz.prog 8 #[.agg (msgC m a1 c1 a2 c2 a3 c3), .int .u8 (q : Nat)] w fun e w' => e = .returned (.bool true) ∧ Below w.heap.size w w' := by
  obtain ⟨w1, hw1, hX, hb1⟩ := one_var w 48 (msgC m a1 c1 a2 c2 a3 c3)
  have hk := wknown_any w1 (hL.next hb1)
  replace hk : Hid _ := hk
  go_enter Tryz.func8, Tryz.ntmps8
  go_wp2_with fail
  refine Calls.mono hk.out ?_
  rintro e w2 ⟨rfl, hq⟩
  clear hk hw1
  replace hX := hX.later hq
  have hb2 := hb1.trans (hq.mono hb1.size)
  clear hq hb1
  go_wp2_with (first
    | (refine wpList_load_has (by rfl) 48 _ rfl w.heap.size rfl 48 (msgC m a1 c1 a2 c2 a3 c3) _ Tryz.underlying48 rfl (msg_size m a1 a2 a3 c1 c2 c3) ?hg ?_; (case hg => exact hX))
    | fail)
  refine (few_any m a1 a2 a3 c1 c2 c3 _ hm0 (s1.later hb2) (s2.later hb2) (s3.later hb2)).mono ?_
  rintro e w3 ⟨⟨b, rfl, hbt⟩, hq⟩
  replace hX := hX.later hq
  have hb3 := hb2.trans (hq.mono hb2.size)
  clear hq hb2
  cases b with
  | false =>
    clear hbt
    go_wp2
    go_ret
    exact ⟨rfl, hb3⟩
  | true =>
  obtain ⟨k1, k2, k3⟩ := hbt rfl
  have hm : MsgOk m := hm0.ok (by omega) (by omega) (by omega)
  clear hbt k1 k2 k3 hm0
  have sm3 : MsgSl w3 m a1 c1 a2 c2 a3 c3 := ⟨s1.later hb3, s2.later hb3, s3.later hb3⟩
  go_wp2_with (first
    | (refine wpList_load_has (by rfl) 48 _ rfl w.heap.size rfl 48 (msgC m a1 c1 a2 c2 a3 c3) _ Tryz.underlying48 rfl (msg_size m a1 a2 a3 c1 c2 c3) ?hg ?_; (case hg => exact hX))
    | fail)
  refine (wis_any m a1 a2 a3 c1 c2 c3 _ hm sm3).mono ?_
  rintro e w4 ⟨rfl, hq⟩
  replace hX := hX.later hq
  have hb4 := hb3.trans (hq.mono hb3.size)
  clear hq hb3 sm3
  cases hi : isMsg m with
  | false =>
    go_wp2
    go_ret
    exact ⟨rfl, hb4⟩
  | true =>
  replace hi : Hid _ := hi
  obtain ⟨w5, hw5, hY, hq⟩ := new_var w4 48 (msgC msg0 none 0 none 0 none 0) (msgC m a1 c1 a2 c2 a3 c3)
  have hX4 := hX
  replace hX := hX.later hq
  have hb5 := hb4.trans (hq.mono hb4.size)
  have h45 : w.heap.size ≤ w4.heap.size := hb4.size
  have hlt4 : w.heap.size < w4.heap.size := hX4.lt
  clear hq hb4
  have hcl : w5.cell? ⟨w4.heap.size, 129, none⟩ = some (.int .u8 (m.r.code : Nat)) := hY.mc_at 129 rfl
  have hzl := hY.free 129
  have hrI : (q : Int) % 8 = 7 := by omega
  replace hr : Hid _ := hr
  obtain ⟨y, hyE⟩ : ∃ y : Nat, y = (m.r.code + 1) % 256 := ⟨_, rfl⟩
  have hxl : m.r.code < 256 := hm.r.code
  have hy : y < 256 := by omega
  have hyI : (((m.r.code : Nat) : Int) + 1) % 256 = ((y : Nat) : Int) := by omega
  have hyn : m.r.code ≠ y := by omega
  clear hyE hxl
  have hY6 := hY.mset_o7 y
  have hB6 : But w4.heap.size w5 (w5.setCell ⟨w4.heap.size, 129, none⟩ (.int .u8 (y : Int))) := but_cell _ _ _
  have hX6 := hB6.has hX (by omega)
  have hb6 := hb5.setCell (p := ⟨w4.heap.size, 129, none⟩) h45 (.int .u8 (y : Int))
  have hm6 : MsgOk ({ m with r := { m.r with code := y } }) := ⟨hm.kind, hm.src, hm.dst, hm.epoch, hm.b, hm.acc, hm.inc, hm.group, hm.st, hm.diff, hm.ent, hm.n, hm.op, ⟨hy, hm.r.data⟩⟩
  have sm6 : MsgSl (w5.setCell ⟨w4.heap.size, 129, none⟩ (.int .u8 (y : Int))) ({ m with r := { m.r with code := y } }) a1 c1 a2 c2 a3 c3 := ⟨s1.later hb6, s2.later hb6, s3.later hb6⟩
  have hne : m ≠ { m with r := { m.r with code := y } } := fun e => hyn (congrArg (fun z : MsgV => z.r.code) e)
  obtain ⟨w6, hw6⟩ : ∃ W, w5.setCell ⟨w4.heap.size, 129, none⟩ (.int .u8 (y : Int)) = W := ⟨_, rfl⟩
  rw [hw6] at hY6 hX6 hb6 sm6
  generalize { m with r := { m.r with code := y } } = mn at *
  have sm0 : MsgSl w6 m a1 c1 a2 c2 a3 c3 := ⟨s1.later hb6, s2.later hb6, s3.later hb6⟩
  clear hY hX hB6 hb5 hyn hy
  go_wp2_with (first
    | (refine wpList_load_has (by rfl) 48 _ rfl w.heap.size rfl 48 (msgC m a1 c1 a2 c2 a3 c3) _ Tryz.underlying48 rfl (msg_size m a1 a2 a3 c1 c2 c3) ?hg ?_; (case hg => exact hX4))
    | (refine wpList_alloc_has (by rfl) 48 rfl (msgC msg0 none 0 none 0 none 0) msg_zero ?_)
    | (refine wpList_store_to (by rfl) 48 _ _ rfl w4.heap.size rfl (msgC m a1 c1 a2 c2 a3 c3) rfl 48 (msgC msg0 none 0 none 0 none 0) (msg_size m a1 a2 a3 c1 c2 c3) (msg_same _ _ _ _ _ _ _ _ _ _ _ _ _ _) (msg_one m a1 a2 a3 c1 c2 c3) ?hg w5 ?hW ?_; (case hg => exact Has.new _ _ _); (case hW => exact hw5); clear hw5)
    | (refine wpList_load_has (by rfl) 48 _ rfl w.heap.size rfl 48 (msgC m a1 c1 a2 c2 a3 c3) _ Tryz.underlying48 rfl (msg_size m a1 a2 a3 c1 c2 c3) ?hg ?_; (case hg => exact hX6))
    | (refine wpList_load_has (by rfl) 48 _ rfl w4.heap.size rfl 48 (msgC mn a1 c1 a2 c2 a3 c3) _ Tryz.underlying48 rfl (msg_size mn a1 a2 a3 c1 c2 c3) ?hg ?_; (case hg => exact hY6))
    | fail)
  clear hw6 hyI hcl hzl hrI hr
  refine (wsame_any m mn a1 a2 a3 a1 a2 a3 c1 c2 c3 c1 c2 c3 _ hm hm6 sm0 sm6).mono ?_
  rintro e w7 ⟨rfl, hq⟩
  rw [show sameMsg m mn = false from by rw [← Bool.not_eq_true, sameMsg_is]; exact hne]
  replace hX6 := hX6.later hq
  replace hY6 := hY6.later hq
  replace sm0 := sm0.later hq
  have sm7 := sm6.later hq
  have hb7 := hb6.trans (hq.mono hb6.size)
  clear hq hb6 sm6
  have hE := wencode_yes m a1 a2 a3 c1 c2 c3 w7 hm sm0 hi.out
  replace hE : Hid _ := hE
  go_wp2_with (first
    | (refine wpList_load_has (by rfl) 48 _ rfl w.heap.size rfl 48 (msgC m a1 c1 a2 c2 a3 c3) _ Tryz.underlying48 rfl (msg_size m a1 a2 a3 c1 c2 c3) ?hg ?_; (case hg => exact hX6))
    | fail)
  refine Calls.mono hE.out ?_
  rintro e w8 ⟨g8, k8, rfl, ho8, hB8, hq⟩
  clear hE ho8
  replace hX6 := hX6.later hq
  replace hY6 := hY6.later hq
  replace sm7 := sm7.later hq
  have hb8 := hb7.trans (hq.mono hb7.size)
  clear hq hb7
  obtain ⟨l8, hl8⟩ : ∃ n, (sumB (msgB m)).length = n := ⟨_, rfl⟩
  rw [hl8]
  replace hl8 : Hid _ := hl8
  cases hin : isMsg mn with
  | false =>
    have hE := wencode_no mn a1 a2 a3 c1 c2 c3 w8 hm6 sm7 hin
    replace hE : Hid _ := hE
    replace hin : Hid _ := hin
    go_wp2_with (first
      | (refine wpList_load_has (by rfl) 48 _ rfl w4.heap.size rfl 48 (msgC mn a1 c1 a2 c2 a3 c3) _ Tryz.underlying48 rfl (msg_size mn a1 a2 a3 c1 c2 c3) ?hg ?_; (case hg => exact hY6))
      | fail)
    refine Calls.mono hE.out ?_
    rintro e w9 ⟨rfl, hq⟩
    clear hE
    replace hY6 := hY6.later hq
    replace sm7 := sm7.later hq
    have hb9 := hb8.trans (hq.mono hb8.size)
    clear hq hb8
    go_wp2_with (first
      | (refine wpList_load_has (by rfl) 48 _ rfl w4.heap.size rfl 48 (msgC mn a1 c1 a2 c2 a3 c3) _ Tryz.underlying48 rfl (msg_size mn a1 a2 a3 c1 c2 c3) ?hg ?_; (case hg => exact hY6))
      | fail)
    refine (wis_any mn a1 a2 a3 c1 c2 c3 _ hm6 sm7).mono ?_
    rintro e w10 ⟨rfl, hq⟩
    rw [hin.out]
    have hb10 := hb9.trans (hq.mono hb9.size)
    clear hq hb9
    go_wp2
    go_ret
    exact ⟨rfl, hb10⟩
  | true =>
  have hE := wencode_yes mn a1 a2 a3 c1 c2 c3 w8 hm6 sm7 hin
  have hdiff : sumB (msgB m) ≠ sumB (msgB mn) := fun e => hne ((sum_inj hm hm6 hi.out hin).1 e)
  replace hE : Hid _ := hE
  replace hin : Hid _ := hin
  go_wp2_with (first
    | (refine wpList_load_has (by rfl) 48 _ rfl w4.heap.size rfl 48 (msgC mn a1 c1 a2 c2 a3 c3) _ Tryz.underlying48 rfl (msg_size mn a1 a2 a3 c1 c2 c3) ?hg ?_; (case hg => exact hY6))
    | fail)
  refine Calls.mono hE.out ?_
  rintro e w9 ⟨g9, k9, rfl, ho9, hB9, hq⟩
  clear hE ho9
  replace hY6 := hY6.later hq
  replace sm7 := sm7.later hq
  replace hB8 := hB8.later hq
  have hb9 := hb8.trans (hq.mono hb8.size)
  clear hq hb8
  obtain ⟨l9, hl9⟩ : ∃ n, (sumB (msgB mn)).length = n := ⟨_, rfl⟩
  rw [hl9]
  replace hl9 : Hid _ := hl9
  go_wp2_with (first
    | (refine wpList_load_has (by rfl) 48 _ rfl w4.heap.size rfl 48 (msgC mn a1 c1 a2 c2 a3 c3) _ Tryz.underlying48 rfl (msg_size mn a1 a2 a3 c1 c2 c3) ?hg ?_; (case hg => exact hY6))
    | fail)
  refine (wis_any mn a1 a2 a3 c1 c2 c3 _ hm6 sm7).mono ?_
  rintro e w10 ⟨rfl, hq⟩
  rw [hin.out]
  have t8 := str_of1 (hB8.later hq) hl8.out.symm
  have t9 := str_of1 (hB9.later hq) hl9.out.symm
  have hb10 := hb9.trans (hq.mono hb9.size)
  have hs1 : ((⟨(sumB (msgB m)).toArray⟩ : ByteArray).toList == (⟨(sumB (msgB mn)).toArray⟩ : ByteArray).toList) = false := by
    rw [ByteArray.toList_eq, ByteArray.toList_eq, List.toList_toArray, List.toList_toArray]
    exact beq_false_of_ne hdiff
  clear hq hb9 hB8 hB9 hX6 hY6 hdiff
  generalize (⟨(sumB (msgB m)).toArray⟩ : ByteArray) = S8 at *
  generalize (⟨(sumB (msgB mn)).toArray⟩ : ByteArray) = S9 at *
  go_wp2
  go_ret
  exact ⟨rfl, hb10⟩
theorem only_walk (m : MsgV) (a1 a2 a3 : Option Addr) (c1 c2 c3 q : Nat) (w : World) (hm0 : MsgIn m) (s1 : Sl w a1 c1 8 (entR m.st.log)) (s2 : Sl w a2 c2 8 (entR m.diff.log)) (s3 : Sl w a3 c3 8 (entR m.diff.whole.log)) (hq256 : q < 256) (hL : Laid w) :
    Calls Tryz.prog 8 #[.agg (msgC m a1 c1 a2 c2 a3 c3), .int .u8 (q : Nat)] w fun e w' => e = .returned (.bool true) ∧ Below w.heap.size w w' := by
  have h8 : q % 8 = 0 ∨ q % 8 = 1 ∨ q % 8 = 2 ∨ q % 8 = 3 ∨ q % 8 = 4 ∨ q % 8 = 5 ∨ q % 8 = 6 ∨ q % 8 = 7 := by omega
  rcases h8 with h | h | h | h | h | h | h | h
  · exact only_walk0 m a1 a2 a3 c1 c2 c3 q w hm0 s1 s2 s3 hq256 hL h
  · exact only_walk1 m a1 a2 a3 c1 c2 c3 q w hm0 s1 s2 s3 hq256 hL h
  · exact only_walk2 m a1 a2 a3 c1 c2 c3 q w hm0 s1 s2 s3 hq256 hL h
  · exact only_walk3 m a1 a2 a3 c1 c2 c3 q w hm0 s1 s2 s3 hq256 hL h
  · exact only_walk4 m a1 a2 a3 c1 c2 c3 q w hm0 s1 s2 s3 hq256 hL h
  · exact only_walk5 m a1 a2 a3 c1 c2 c3 q w hm0 s1 s2 s3 hq256 hL h
  · exact only_walk6 m a1 a2 a3 c1 c2 c3 q w hm0 s1 s2 s3 hq256 hL h
  · exact only_walk7 m a1 a2 a3 c1 c2 c3 q w hm0 s1 s2 s3 hq256 hL h
end Go.Proofs.YtmkmlfdgakcidaaGreatDoor
