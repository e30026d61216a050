/- DocIsA, DocIsB, DocIsC, DocIsD, DocIsE, DocIsF, DocIs, joined. -/
import Derived.Test.YtecilienolabfaaGreatDoorDocBase
import Derived.Deep.CutRange
namespace Go.Proofs.YtecilienolabfaaGreatDoor
set_option linter.unusedSimpArgs false
set_option linter.unusedVariables false
set_option maxRecDepth 100000
open Go.RowKit
set_option maxHeartbeats 40000000 in
theorem docis_A (m:MsgV) (a1 a2 a3:Option Addr) (c1 c2 c3:Nat) (w:World) (hm:MsgOk m) (hkk:m.kind = 1 ∨ m.kind = 4 ∨ m.kind = 18 ∨ m.kind = 3) (sm:MsgSl w m a1 c1 a2 c2 a3 c3) :
  Calls Tryz.prog 14 #[.agg (msgC m a1 c1 a2 c2 a3 c3)] w fun e w'=>e = .returned (.bool (isD m)) ∧ Below w.heap.size w w':=by
 obtain ⟨w1,hw1,hX,hb⟩:=xbr w 48 (msgC m a1 c1 a2 c2 a3 c3)
 replace sm:=sm.later hb
 have hk:1 ≤ m.kind ∧ m.kind ≤ 18:=by omega
 have hkd:decide (1 ≤ m.kind ∧ m.kind ≤ 18) = true:=decide_eq_true hk
 obtain ⟨kk,hkE⟩:∃ k,m.kind = k:=⟨_,rfl⟩
 rw [hkE] at hkk
 have x0:=hX.mc_kind
 rw [hkE] at x0
 have n1:¬ (kk:Int) < 1:=by omega
 have n2:¬ (18:Int) < (kk:Int):=by omega
 replace hkE:Hid _:=hkE
 replace hkk:Hid _:=hkk
 replace hkd:Hid _:=hkd
 replace hk:Hid _:=hk
 have hms:Hid (m.src < 256 ∧ m.dst < 256 ∧ m.epoch < 4294967296 ∧ m.group < 256):=⟨hm.src,hm.dst,hm.epoch,hm.group⟩
 go_enter Tryz.func14,Tryz.ntmps14
 go_wp2_with (first
  | (refine xab (by rfl) 48 _ rfl w.heap.size rfl 48 (msgC m a1 c1 a2 c2 a3 c3) _ Tryz.underlying48 rfl (xah m a1 a2 a3 c1 c2 c3) ?hg ?_;(case hg=>exact hX))
  | fail)
 refine (ends_any m a1 a2 a3 c1 c2 c3 _ hk.out).mono ?_
 rintro e w2 ⟨rfl,hq⟩
 clear hw1
 replace hX:=hX.later hq
 replace sm:=sm.later hq
 replace hb:=hb.trans (hq.mono hb.size)
 have y_src:=hX.mc_src
 have y_dst:=hX.mc_dst
 clear hq x0
 have hI0:isD m = (decide (1 ≤ m.kind ∧ m.kind ≤ 18) && (endsD m.kind m.src m.dst && (decide (m.src ≠ m.dst) && (zeroD (restD m) && condD m)))):=rfl
 rw [hkd.out] at hI0
 cases hE:endsD m.kind m.src m.dst with
 | false =>
  have hD:Hid (isD m = false):=by show _ = _;rw [hI0,hE];rfl
  go_wp2
  go_ret
  exact ⟨by rw [hD.out];rfl,hb⟩
 | true =>
 rw [hE] at hI0
 have hE':Hid _:=hE
 clear hE
 by_cases hsd:m.src = m.dst
 ·have hD:Hid (isD m = false):=by show _ = _;rw [hI0,decide_eq_false (by simpa using hsd)];rfl
  have hsI:(m.src:Int) = (m.dst:Int):=by omega
  have hsB:((m.src:Int) == (m.dst:Int)) = true:=by simp;omega
  clear hsd
  go_wp2
  go_ret
  exact ⟨by rw [hD.out];rfl,hb⟩
 have hsI:¬ (m.src:Int) = (m.dst:Int):=by omega
 have hsB:((m.src:Int) == (m.dst:Int)) = false:=by simp;omega
 rw [decide_eq_true hsd] at hI0
 clear hsd
 go_wp2_with (first
  | (refine xab (by rfl) 48 _ rfl w.heap.size rfl 48 (msgC m a1 c1 a2 c2 a3 c3) _ Tryz.underlying48 rfl (xah m a1 a2 a3 c1 c2 c3) ?hg ?_;(case hg=>exact hX))
  | fail)
 refine (rest_any m a1 a2 a3 c1 c2 c3 _ hk.out sm).mono ?_
 rintro e w3 ⟨b1,d1,b2,d2,b3,d3,rfl,sr,hq⟩
 replace hX:=hX.later hq
 replace sm:=sm.later hq
 replace hb:=hb.trans (hq.mono hb.size)
 clear hq y_src y_dst
 go_wp2_with fail
 refine (zero_any (restD m) b1 b2 b3 d1 d2 d3 _ (rest_ok hm) sr).mono ?_
 rintro e w4 ⟨rfl,hq⟩
 replace hX:=hX.later hq
 replace sm:=sm.later hq
 replace hb:=hb.trans (hq.mono hb.size)
 clear hq sr hsI hsB
 cases hZ:zeroD (restD m) with
 | false =>
  have hD:Hid (isD m = false):=by show _ = _;rw [hI0,hZ];rfl
  clear hZ
  go_wp2
  go_ret
  exact ⟨by rw [hD.out];rfl,hb⟩
 | true =>
 rw [hZ] at hI0
 have hI:Hid (isD m = condD m):=hI0
 clear hI0 hZ
 obtain ⟨w9,hw9⟩:∃ W,W = w4:=⟨_,rfl⟩
 subst hw9
 have y_epoch:=hX.mc_epoch
 obtain ⟨sl,h_sl⟩:∃ b,slotD m = b:=⟨_,rfl⟩
 obtain ⟨ep,h_ep⟩:∃ b,epD m = b:=⟨_,rfl⟩
 obtain ⟨gr,h_gr⟩:∃ b,grpD m = b:=⟨_,rfl⟩
 go_upto_region 3 with fail
 go_cut [3] from 33 to 40 (fun s3 wc=>s3 = .bool sl ∧ wc = w9)
 case first =>
  by_cases e1:2 ≤ m.epoch
  ·have e1I:(2:Int) ≤ (m.epoch:Int):=by omega
   by_cases e2:m.epoch ≤ 60
   ·have e2I:(m.epoch:Int) ≤ 60:=by omega
    obtain rfl:sl = true:=by rw [← h_sl];unfold slotD;rw [decide_eq_true e1,decide_eq_true e2];rfl
    clear h_sl e1 e2
    go_wp2
    go_meet
    exact ⟨rfl,rfl⟩
   ·have e2I:¬ (m.epoch:Int) ≤ 60:=by omega
    obtain rfl:sl = false:=by rw [← h_sl];unfold slotD;rw [decide_eq_false e2,Bool.and_false]
    clear h_sl e1 e2
    go_wp2
    go_meet
    exact ⟨rfl,rfl⟩
  ·have e1I:¬ (2:Int) ≤ (m.epoch:Int):=by omega
   obtain rfl:sl = false:=by rw [← h_sl];unfold slotD;rw [decide_eq_false e1,Bool.false_and]
   clear h_sl e1
   go_wp2
   go_meet
   exact ⟨rfl,rfl⟩
 case rest =>
 obtain ⟨rfl,rfl⟩:=hcut
 go_upto_region 4 with fail
 go_cut [4] from 41 to 48 (fun s4 wx=>s4 = .bool ep ∧ wx = wc)
 case first =>
  by_cases e1:1 ≤ m.epoch
  ·have e1I:(1:Int) ≤ (m.epoch:Int):=by omega
   by_cases e2:m.epoch ≤ 60
   ·have e2I:(m.epoch:Int) ≤ 60:=by omega
    obtain rfl:ep = true:=by rw [← h_ep];unfold epD;rw [decide_eq_true e1,decide_eq_true e2];rfl
    clear h_ep e1 e2
    go_wp2
    go_meet
    exact ⟨rfl,rfl⟩
   ·have e2I:¬ (m.epoch:Int) ≤ 60:=by omega
    obtain rfl:ep = false:=by rw [← h_ep];unfold epD;rw [decide_eq_false e2,Bool.and_false]
    clear h_ep e1 e2
    go_wp2
    go_meet
    exact ⟨rfl,rfl⟩
  ·have e1I:¬ (1:Int) ≤ (m.epoch:Int):=by omega
   obtain rfl:ep = false:=by rw [← h_ep];unfold epD;rw [decide_eq_false e1,Bool.false_and]
   clear h_ep e1
   go_wp2
   go_meet
   exact ⟨rfl,rfl⟩
 case rest =>
 rename_i wc0 _ _
 obtain ⟨rfl,rfl⟩:=hcut
 clear y_epoch
 have y_group:=hX.mc_group
 go_upto_region 5 with fail
 go_cut [5] from 49 to 54 (fun s5 wy=>s5 = .bool gr ∧ wy = wc)
 case first =>
  cases ep with
  | false =>
   obtain rfl:gr = false:=by rw [← h_gr];unfold grpD;rw [h_ep,Bool.false_and]
   go_wp2
   go_meet
   exact ⟨rfl,rfl⟩
  | true =>
   by_cases e1:m.group < 4
   ·have e1I:(m.group:Int) < 4:=by omega
    obtain rfl:gr = true:=by rw [← h_gr];unfold grpD;rw [h_ep,decide_eq_true e1];rfl
    clear h_gr e1
    go_wp2
    go_meet
    exact ⟨rfl,rfl⟩
   ·have e1I:¬ (m.group:Int) < 4:=by omega
    obtain rfl:gr = false:=by rw [← h_gr];unfold grpD;rw [decide_eq_false e1,Bool.and_false]
    clear h_gr e1
    go_wp2
    go_meet
    exact ⟨rfl,rfl⟩
 case rest =>
 obtain ⟨rfl,rfl⟩:=hcut
 clear y_group
 have x0:=hX.mc_kind
 rw [hkE.out] at x0
 rcases hkk.out with rfl | rfl | rfl | rfl
 ·replace hkE:=hkE.out
  clear hkk hkd hk n1 n2
  have y_bwho:=hX.mc_bwho
  have y_src:=hX.mc_src
  cases sl with
  | false =>
   have hD:Hid (isD m = false):=by show _ = _;rw [hI.out];unfold condD;simp [hkE,h_sl]
   go_wp2
   go_ret
   exact ⟨by rw [hD.out];rfl,hb⟩
  | true =>
   go_wp2_with (first
    | (refine xae (by rfl) 24 _ rfl w.heap.size 4 rfl ((balC m.b).toList) _ ?hc Tryz.underlying24 rfl (xbx m.b) ?_;(case hc=>exact hX.m_b))
    | fail)
   refine (docB_any m.b _ hm.b).mono ?_
   rintro en w21 ⟨rfl,hq⟩
   replace hX:=hX.later hq
   replace sm:=sm.later hq
   replace hb:=hb.trans (hq.mono hb.size)
   clear hq
   replace y_bwho:=hX.mc_bwho
   replace y_src:=hX.mc_src
   cases hb_1:isB m.b with
   | false =>
    have hD:Hid (isD m = false):=by show _ = _;rw [hI.out];unfold condD;simp [hkE,h_sl,hb_1]
    clear hb_1
    go_wp2
    go_ret
    exact ⟨by rw [hD.out];rfl,hb⟩
   | true =>
    by_cases hn_2:m.b.who = m.src
    ·have f2_0:((m.b.who:Int) = (m.src:Int)):=by omega
     have f2_1:((m.b.who:Int) == (m.src:Int)) = true:=by simp;omega
     have hD:Hid (isD m = true):=by show _ = _;rw [hI.out];unfold condD;simp [hkE,h_sl,hb_1,hn_2]
     clear hb_1 hn_2
     go_wp2
     go_ret
     exact ⟨by rw [hD.out];rfl,hb⟩
    ·have f2_0:¬ ((m.b.who:Int) = (m.src:Int)):=by omega
     have f2_1:((m.b.who:Int) == (m.src:Int)) = false:=by simp;omega
     have hD:Hid (isD m = false):=by show _ = _;rw [hI.out];unfold condD;simp [hkE,h_sl,hb_1,hn_2]
     clear hb_1 hn_2
     go_wp2
     go_ret
     exact ⟨by rw [hD.out];rfl,hb⟩
 ·replace hkE:=hkE.out
  clear hkk hkd hk n1 n2
  have y_bwho:=hX.mc_bwho
  have y_dst:=hX.mc_dst
  cases sl with
  | false =>
   have hD:Hid (isD m = false):=by show _ = _;rw [hI.out];unfold condD;simp [hkE,h_sl]
   go_wp2
   go_ret
   exact ⟨by rw [hD.out];rfl,hb⟩
  | true =>
   go_wp2_with (first
    | (refine xae (by rfl) 24 _ rfl w.heap.size 4 rfl ((balC m.b).toList) _ ?hc Tryz.underlying24 rfl (xbx m.b) ?_;(case hc=>exact hX.m_b))
    | fail)
   refine (docB_any m.b _ hm.b).mono ?_
   rintro en w23 ⟨rfl,hq⟩
   replace hX:=hX.later hq
   replace sm:=sm.later hq
   replace hb:=hb.trans (hq.mono hb.size)
   clear hq
   replace y_bwho:=hX.mc_bwho
   replace y_dst:=hX.mc_dst
   cases hb_3:isB m.b with
   | false =>
    have hD:Hid (isD m = false):=by show _ = _;rw [hI.out];unfold condD;simp [hkE,h_sl,hb_3]
    clear hb_3
    go_wp2
    go_ret
    exact ⟨by rw [hD.out];rfl,hb⟩
   | true =>
    by_cases hn_4:m.b.who = m.dst
    ·have f4_0:((m.b.who:Int) = (m.dst:Int)):=by omega
     have f4_1:((m.b.who:Int) == (m.dst:Int)) = true:=by simp;omega
     have hD:Hid (isD m = true):=by show _ = _;rw [hI.out];unfold condD;simp [hkE,h_sl,hb_3,hn_4]
     clear hb_3 hn_4
     go_wp2
     go_ret
     exact ⟨by rw [hD.out];rfl,hb⟩
    ·have f4_0:¬ ((m.b.who:Int) = (m.dst:Int)):=by omega
     have f4_1:((m.b.who:Int) == (m.dst:Int)) = false:=by simp;omega
     have hD:Hid (isD m = false):=by show _ = _;rw [hI.out];unfold condD;simp [hkE,h_sl,hb_3,hn_4]
     clear hb_3 hn_4
     go_wp2
     go_ret
     exact ⟨by rw [hD.out];rfl,hb⟩
 ·replace hkE:=hkE.out
  clear hkk hkd hk n1 n2
  cases sl with
  | false =>
   have hD:Hid (isD m = false):=by show _ = _;rw [hI.out];unfold condD;simp [hkE,h_sl]
   go_wp2
   go_ret
   exact ⟨by rw [hD.out];rfl,hb⟩
  | true =>
   go_wp2_with (first
    | (refine xae (by rfl) 24 _ rfl w.heap.size 4 rfl ((balC m.b).toList) _ ?hc Tryz.underlying24 rfl (xbx m.b) ?_;(case hc=>exact hX.m_b))
    | fail)
   refine (docB_any m.b _ hm.b).mono ?_
   rintro en w25 ⟨rfl,hq⟩
   replace hX:=hX.later hq
   replace sm:=sm.later hq
   replace hb:=hb.trans (hq.mono hb.size)
   clear hq
   cases hb_5:isB m.b with
   | false =>
    have hD:Hid (isD m = false):=by show _ = _;rw [hI.out];unfold condD;simp [hkE,h_sl,hb_5]
    clear hb_5
    go_wp2
    go_ret
    exact ⟨by rw [hD.out];rfl,hb⟩
   | true =>
    have hD:Hid (isD m = true):=by show _ = _;rw [hI.out];unfold condD;simp [hkE,h_sl,hb_5]
    clear hb_5
    go_wp2
    go_ret
    exact ⟨by rw [hD.out];rfl,hb⟩
 ·replace hkE:=hkE.out
  clear hkk hkd hk n1 n2
  have y_bwho:=hX.mc_bwho
  have y_src:=hX.mc_src
  cases sl with
  | false =>
   have hD:Hid (isD m = false):=by show _ = _;rw [hI.out];unfold condD;simp [hkE,h_sl]
   go_wp2
   go_ret
   exact ⟨by rw [hD.out];rfl,hb⟩
  | true =>
   go_wp2_with (first
    | (refine xae (by rfl) 24 _ rfl w.heap.size 4 rfl ((balC m.b).toList) _ ?hc Tryz.underlying24 rfl (xbx m.b) ?_;(case hc=>exact hX.m_b))
    | fail)
   refine (docB_any m.b _ hm.b).mono ?_
   rintro en w26 ⟨rfl,hq⟩
   replace hX:=hX.later hq
   replace sm:=sm.later hq
   replace hb:=hb.trans (hq.mono hb.size)
   clear hq
   replace y_bwho:=hX.mc_bwho
   replace y_src:=hX.mc_src
   cases hb_6:isB m.b with
   | false =>
    have hD:Hid (isD m = false):=by show _ = _;rw [hI.out];unfold condD;simp [hkE,h_sl,hb_6]
    clear hb_6
    go_wp2
    go_ret
    exact ⟨by rw [hD.out];rfl,hb⟩
   | true =>
    by_cases hn_7:m.b.who = m.src
    ·have f7_0:((m.b.who:Int) = (m.src:Int)):=by omega
     have f7_1:((m.b.who:Int) == (m.src:Int)) = true:=by simp;omega
     go_wp2_with (first
      | (refine xae (by rfl) 26 _ rfl w.heap.size 9 rfl ((incC m.inc).toList) _ ?hc Tryz.underlying26 rfl (ws_inc m.inc) ?_;(case hc=>exact hX.m_inc))
      | fail)
     refine (refisinc_any m.inc _ hm.inc).mono ?_
     rintro en w28 ⟨rfl,hq⟩
     replace hX:=hX.later hq
     replace sm:=sm.later hq
     replace hb:=hb.trans (hq.mono hb.size)
     clear hq
     replace y_bwho:=hX.mc_bwho
     replace y_src:=hX.mc_src
     cases hb_8:isInc m.inc with
     | false =>
      have hD:Hid (isD m = false):=by show _ = _;rw [hI.out];unfold condD;simp [hkE,h_sl,hb_6,hn_7,hb_8]
      clear hb_6 hn_7 hb_8
      go_wp2
      go_ret
      exact ⟨by rw [hD.out];rfl,hb⟩
     | true =>
      have hD:Hid (isD m = true):=by show _ = _;rw [hI.out];unfold condD;simp [hkE,h_sl,hb_6,hn_7,hb_8]
      clear hb_6 hn_7 hb_8
      go_wp2
      go_ret
      exact ⟨by rw [hD.out];rfl,hb⟩
    ·have f7_0:¬ ((m.b.who:Int) = (m.src:Int)):=by omega
     have f7_1:((m.b.who:Int) == (m.src:Int)) = false:=by simp;omega
     have hD:Hid (isD m = false):=by show _ = _;rw [hI.out];unfold condD;simp [hkE,h_sl,hb_6,hn_7]
     clear hb_6 hn_7
     go_wp2
     go_ret
     exact ⟨by rw [hD.out];rfl,hb⟩

set_option maxHeartbeats 40000000 in
theorem docis_B (m:MsgV) (a1 a2 a3:Option Addr) (c1 c2 c3:Nat) (w:World) (hm:MsgOk m) (hkk:m.kind = 2) (sm:MsgSl w m a1 c1 a2 c2 a3 c3) :
  Calls Tryz.prog 14 #[.agg (msgC m a1 c1 a2 c2 a3 c3)] w fun e w'=>e = .returned (.bool (isD m)) ∧ Below w.heap.size w w':=by
 obtain ⟨w1,hw1,hX,hb⟩:=xbr w 48 (msgC m a1 c1 a2 c2 a3 c3)
 replace sm:=sm.later hb
 have hk:1 ≤ m.kind ∧ m.kind ≤ 18:=by omega
 have hkd:decide (1 ≤ m.kind ∧ m.kind ≤ 18) = true:=decide_eq_true hk
 obtain ⟨kk,hkE⟩:∃ k,m.kind = k:=⟨_,rfl⟩
 rw [hkE] at hkk
 have x0:=hX.mc_kind
 rw [hkE] at x0
 have n1:¬ (kk:Int) < 1:=by omega
 have n2:¬ (18:Int) < (kk:Int):=by omega
 replace hkE:Hid _:=hkE
 replace hkk:Hid _:=hkk
 replace hkd:Hid _:=hkd
 replace hk:Hid _:=hk
 have hms:Hid (m.src < 256 ∧ m.dst < 256 ∧ m.epoch < 4294967296 ∧ m.group < 256):=⟨hm.src,hm.dst,hm.epoch,hm.group⟩
 go_enter Tryz.func14,Tryz.ntmps14
 go_wp2_with (first
  | (refine xab (by rfl) 48 _ rfl w.heap.size rfl 48 (msgC m a1 c1 a2 c2 a3 c3) _ Tryz.underlying48 rfl (xah m a1 a2 a3 c1 c2 c3) ?hg ?_;(case hg=>exact hX))
  | fail)
 refine (ends_any m a1 a2 a3 c1 c2 c3 _ hk.out).mono ?_
 rintro e w2 ⟨rfl,hq⟩
 clear hw1
 replace hX:=hX.later hq
 replace sm:=sm.later hq
 replace hb:=hb.trans (hq.mono hb.size)
 have y_src:=hX.mc_src
 have y_dst:=hX.mc_dst
 clear hq x0
 have hI0:isD m = (decide (1 ≤ m.kind ∧ m.kind ≤ 18) && (endsD m.kind m.src m.dst && (decide (m.src ≠ m.dst) && (zeroD (restD m) && condD m)))):=rfl
 rw [hkd.out] at hI0
 cases hE:endsD m.kind m.src m.dst with
 | false =>
  have hD:Hid (isD m = false):=by show _ = _;rw [hI0,hE];rfl
  go_wp2
  go_ret
  exact ⟨by rw [hD.out];rfl,hb⟩
 | true =>
 rw [hE] at hI0
 have hE':Hid _:=hE
 clear hE
 by_cases hsd:m.src = m.dst
 ·have hD:Hid (isD m = false):=by show _ = _;rw [hI0,decide_eq_false (by simpa using hsd)];rfl
  have hsI:(m.src:Int) = (m.dst:Int):=by omega
  have hsB:((m.src:Int) == (m.dst:Int)) = true:=by simp;omega
  clear hsd
  go_wp2
  go_ret
  exact ⟨by rw [hD.out];rfl,hb⟩
 have hsI:¬ (m.src:Int) = (m.dst:Int):=by omega
 have hsB:((m.src:Int) == (m.dst:Int)) = false:=by simp;omega
 rw [decide_eq_true hsd] at hI0
 clear hsd
 go_wp2_with (first
  | (refine xab (by rfl) 48 _ rfl w.heap.size rfl 48 (msgC m a1 c1 a2 c2 a3 c3) _ Tryz.underlying48 rfl (xah m a1 a2 a3 c1 c2 c3) ?hg ?_;(case hg=>exact hX))
  | fail)
 refine (rest_any m a1 a2 a3 c1 c2 c3 _ hk.out sm).mono ?_
 rintro e w3 ⟨b1,d1,b2,d2,b3,d3,rfl,sr,hq⟩
 replace hX:=hX.later hq
 replace sm:=sm.later hq
 replace hb:=hb.trans (hq.mono hb.size)
 clear hq y_src y_dst
 go_wp2_with fail
 refine (zero_any (restD m) b1 b2 b3 d1 d2 d3 _ (rest_ok hm) sr).mono ?_
 rintro e w4 ⟨rfl,hq⟩
 replace hX:=hX.later hq
 replace sm:=sm.later hq
 replace hb:=hb.trans (hq.mono hb.size)
 clear hq sr hsI hsB
 cases hZ:zeroD (restD m) with
 | false =>
  have hD:Hid (isD m = false):=by show _ = _;rw [hI0,hZ];rfl
  clear hZ
  go_wp2
  go_ret
  exact ⟨by rw [hD.out];rfl,hb⟩
 | true =>
 rw [hZ] at hI0
 have hI:Hid (isD m = condD m):=hI0
 clear hI0 hZ
 obtain ⟨w9,hw9⟩:∃ W,W = w4:=⟨_,rfl⟩
 subst hw9
 have y_epoch:=hX.mc_epoch
 obtain ⟨sl,h_sl⟩:∃ b,slotD m = b:=⟨_,rfl⟩
 obtain ⟨ep,h_ep⟩:∃ b,epD m = b:=⟨_,rfl⟩
 obtain ⟨gr,h_gr⟩:∃ b,grpD m = b:=⟨_,rfl⟩
 go_upto_region 3 with fail
 go_cut [3] from 33 to 40 (fun s3 wc=>s3 = .bool sl ∧ wc = w9)
 case first =>
  by_cases e1:2 ≤ m.epoch
  ·have e1I:(2:Int) ≤ (m.epoch:Int):=by omega
   by_cases e2:m.epoch ≤ 60
   ·have e2I:(m.epoch:Int) ≤ 60:=by omega
    obtain rfl:sl = true:=by rw [← h_sl];unfold slotD;rw [decide_eq_true e1,decide_eq_true e2];rfl
    clear h_sl e1 e2
    go_wp2
    go_meet
    exact ⟨rfl,rfl⟩
   ·have e2I:¬ (m.epoch:Int) ≤ 60:=by omega
    obtain rfl:sl = false:=by rw [← h_sl];unfold slotD;rw [decide_eq_false e2,Bool.and_false]
    clear h_sl e1 e2
    go_wp2
    go_meet
    exact ⟨rfl,rfl⟩
  ·have e1I:¬ (2:Int) ≤ (m.epoch:Int):=by omega
   obtain rfl:sl = false:=by rw [← h_sl];unfold slotD;rw [decide_eq_false e1,Bool.false_and]
   clear h_sl e1
   go_wp2
   go_meet
   exact ⟨rfl,rfl⟩
 case rest =>
 obtain ⟨rfl,rfl⟩:=hcut
 go_upto_region 4 with fail
 go_cut [4] from 41 to 48 (fun s4 wx=>s4 = .bool ep ∧ wx = wc)
 case first =>
  by_cases e1:1 ≤ m.epoch
  ·have e1I:(1:Int) ≤ (m.epoch:Int):=by omega
   by_cases e2:m.epoch ≤ 60
   ·have e2I:(m.epoch:Int) ≤ 60:=by omega
    obtain rfl:ep = true:=by rw [← h_ep];unfold epD;rw [decide_eq_true e1,decide_eq_true e2];rfl
    clear h_ep e1 e2
    go_wp2
    go_meet
    exact ⟨rfl,rfl⟩
   ·have e2I:¬ (m.epoch:Int) ≤ 60:=by omega
    obtain rfl:ep = false:=by rw [← h_ep];unfold epD;rw [decide_eq_false e2,Bool.and_false]
    clear h_ep e1 e2
    go_wp2
    go_meet
    exact ⟨rfl,rfl⟩
  ·have e1I:¬ (1:Int) ≤ (m.epoch:Int):=by omega
   obtain rfl:ep = false:=by rw [← h_ep];unfold epD;rw [decide_eq_false e1,Bool.false_and]
   clear h_ep e1
   go_wp2
   go_meet
   exact ⟨rfl,rfl⟩
 case rest =>
 rename_i wc0 _ _
 obtain ⟨rfl,rfl⟩:=hcut
 clear y_epoch
 have y_group:=hX.mc_group
 go_upto_region 5 with fail
 go_cut [5] from 49 to 54 (fun s5 wy=>s5 = .bool gr ∧ wy = wc)
 case first =>
  cases ep with
  | false =>
   obtain rfl:gr = false:=by rw [← h_gr];unfold grpD;rw [h_ep,Bool.false_and]
   go_wp2
   go_meet
   exact ⟨rfl,rfl⟩
  | true =>
   by_cases e1:m.group < 4
   ·have e1I:(m.group:Int) < 4:=by omega
    obtain rfl:gr = true:=by rw [← h_gr];unfold grpD;rw [h_ep,decide_eq_true e1];rfl
    clear h_gr e1
    go_wp2
    go_meet
    exact ⟨rfl,rfl⟩
   ·have e1I:¬ (m.group:Int) < 4:=by omega
    obtain rfl:gr = false:=by rw [← h_gr];unfold grpD;rw [decide_eq_false e1,Bool.and_false]
    clear h_gr e1
    go_wp2
    go_meet
    exact ⟨rfl,rfl⟩
 case rest =>
 obtain ⟨rfl,rfl⟩:=hcut
 clear y_group
 have x0:=hX.mc_kind
 rw [hkE.out] at x0
 rcases hkk.out with rfl
 ·replace hkE:=hkE.out
  clear hkk hkd hk n1 n2
  have y_bwho:=hX.mc_bwho
  have y_dst:=hX.mc_dst
  have y_has:=hX.mc_has
  have eqa:Hid (∀ W,(binOp .eql 24 (.agg (balC m.acc)) (.agg (balC bal0))).run Tryz.prog W = .ok (.bool (xcr m.acc bal0)) W):=fun W=>eq_bal m.acc bal0 hm.acc bal0_okZ W
  have eqi:Hid (∀ W,(binOp .eql 26 (.agg (incC m.inc)) (.agg (incC inc0))).run Tryz.prog W = .ok (.bool (xea m.inc inc0)) W):=fun W=>eq_inc m.inc inc0 hm.inc inc0_G.ok W
  obtain ⟨no,h_no⟩:∃ b,(!m.has && (xcr m.acc bal0 && xea m.inc inc0)) = b:=⟨_,rfl⟩
  have h_no':Hid _:=h_no
  obtain ⟨hs,h_hs⟩:∃ b,m.has = b:=⟨_,rfl⟩
  rw [h_hs] at y_has
  go_upto_region 10 with fail
  go_cut [6] from 75 to 89 (fun s6 wd=>s6 = .bool no ∧ wd = wc)
  case first =>
   cases hs with
   | true =>
    have hn:no = false:=by rw [← h_no,h_hs];rfl
    subst hn
    clear h_no
    go_wp2
    go_meet
    exact ⟨rfl,rfl⟩
   | false =>
    refine wp_region_list ?_
    show wpList Tryz.prog _ _ [_,_,_,_,_,_,_,_,_,_,_,_,_,_,_,_] _ _
    iterate 4
     refine xaf _ (.inl ⟨by rfl,fun W hS=>by subst hS;go_simp;try with_reducible rfl⟩) ?_
     try simp only [qp,qa,qb,qc]
    refine xaf _ (.inl ⟨by rfl,fun W hS=>by subst hS;go_simp;try with_reducible rfl⟩) ?_
    try simp only [qp,qa,qb,qc]
    refine xaf (.agg ((balC m.acc).toList).toArray) (xaj (by rfl) 24 _ rfl (w.heap.size) 6 rfl ((balC m.acc).toList) _ Tryz.underlying24 rfl (xbx m.acc) (fun W hS=>by subst hS;exact hX.m_acc)) ?_
    try simp only [qp,qa,qb,qc]
    refine xaf (.agg (balC bal0)) (xat (by rfl) 24 [] rfl [] rfl (balC bal0) z_bal) ?_
    try simp only [qp,qa,qb,qc]
    obtain ⟨ca,h_ca⟩:∃ b,xcr m.acc bal0 = b:=⟨_,rfl⟩
    rw [h_ca] at eqa
    refine xaf (.bool ca) (xbh (by rfl) .eql 24 _ _ _ rfl (balC m.acc) (balC bal0) rfl rfl (.bool ca) xfn (fun W=>by rw [eqa.out W])) ?_
    try simp only [qp,qa,qb,qc]
    iterate 2
     refine xaf _ (.inl ⟨by rfl,fun W hS=>by subst hS;go_simp;try with_reducible rfl⟩) ?_
     try simp only [qp,qa,qb,qc]
    cases ca with
    | false =>
     have hn:no = false:=by rw [← h_no,h_ca];simp
     subst hn
     clear h_no eqa
     go_wp2
     go_meet
     exact ⟨rfl,rfl⟩
    | true =>
     refine xaf _ (.inl ⟨by rfl,fun W hS=>by subst hS;go_simp;try with_reducible rfl⟩) ?_
     try simp only [qp,qa,qb,qc]
     refine xaf (.agg ((incC m.inc).toList).toArray) (xaj (by rfl) 26 _ rfl (w.heap.size) 9 rfl ((incC m.inc).toList) _ Tryz.underlying26 rfl (ws_inc m.inc) (fun W hS=>by subst hS;exact hX.m_inc)) ?_
     try simp only [qp,qa,qb,qc]
     refine xaf (.agg (incC inc0)) (xat (by rfl) 26 [] rfl [] rfl (incC inc0) z_inc) ?_
     try simp only [qp,qa,qb,qc]
     obtain ⟨ci,h_ci⟩:∃ b,xea m.inc inc0 = b:=⟨_,rfl⟩
     rw [h_ci] at eqi
     refine xaf (.bool ci) (xbh (by rfl) .eql 26 _ _ _ rfl (incC m.inc) (incC inc0) rfl rfl (.bool ci) guard_inc (fun W=>by rw [eqi.out W])) ?_
     try simp only [qp,qa,qb,qc]
     have hn:no = ci:=by rw [← h_no,h_hs,h_ca,h_ci];rfl
     subst hn
     iterate 2
      refine xaf _ (.inl ⟨by rfl,fun W hS=>by subst hS;go_simp;try with_reducible rfl⟩) ?_
      try simp only [qp,qa,qb,qc]
     refine wpList_nil ?_
     go_wp2
     go_meet
     exact ⟨rfl,rfl⟩
  case rest =>
   obtain ⟨rfl,rfl⟩:=hcut
   clear eqa eqi h_no
   cases sl with
   | false =>
    have hD:Hid (isD m = false):=by show _ = _;rw [hI.out];unfold condD;simp [hkE,h_sl]
    go_wp2
    go_ret
    exact ⟨by rw [hD.out];rfl,hb⟩
   | true =>
    go_wp2_with (first
     | (refine xae (by rfl) 24 _ rfl w.heap.size 4 rfl ((balC m.b).toList) _ ?hc Tryz.underlying24 rfl (xbx m.b) ?_;(case hc=>exact hX.m_b))
     | fail)
    refine (docB_any m.b _ hm.b).mono ?_
    rintro en w20 ⟨rfl,hq⟩
    replace hX:=hX.later hq
    replace sm:=sm.later hq
    replace hb:=hb.trans (hq.mono hb.size)
    clear hq
    replace y_bwho:=hX.mc_bwho
    replace y_dst:=hX.mc_dst
    replace y_has:=hX.mc_has
    rw [h_hs] at y_has
    cases hb_a:isB m.b with
    | false =>
     have hD:Hid (isD m = false):=by show _ = _;rw [hI.out];unfold condD;simp [hkE,h_sl,hb_a]
     clear hb_a
     go_wp2
     go_ret
     exact ⟨by rw [hD.out];rfl,hb⟩
    | true =>
     by_cases hn_w:m.b.who = m.dst
     ·have f1:((m.b.who:Int) = (m.dst:Int)):=by omega
      have f2:((m.b.who:Int) == (m.dst:Int)) = true:=by simp;omega
      cases no with
      | true =>
       have hD:Hid (isD m = true):=by show _ = _;rw [hI.out];unfold condD;rw [h_no'.out];simp [hkE,h_sl,hb_a,hn_w]
       go_wp2
       go_ret
       exact ⟨by rw [hD.out];rfl,hb⟩
      | false =>
       cases hs with
       | false =>
        have hD:Hid (isD m = false):=by show _ = _;rw [hI.out];unfold condD;rw [h_no'.out];simp [hkE,h_sl,hb_a,hn_w,h_hs]
        go_wp2
        go_ret
        exact ⟨by rw [hD.out];rfl,hb⟩
       | true =>
        go_wp2_with (first
         | (refine xae (by rfl) 24 _ rfl w.heap.size 6 rfl ((balC m.acc).toList) _ ?hc Tryz.underlying24 rfl (xbx m.acc) ?_;(case hc=>exact hX.m_acc))
         | fail)
        refine (docB_any m.acc _ hm.acc).mono ?_
        rintro en w21 ⟨rfl,hq⟩
        replace hX:=hX.later hq
        replace sm:=sm.later hq
        replace hb:=hb.trans (hq.mono hb.size)
        clear hq
        cases hb_c:isB m.acc with
        | false =>
         have hD:Hid (isD m = false):=by show _ = _;rw [hI.out];unfold condD;rw [h_no'.out];simp [hkE,h_sl,hb_a,hn_w,h_hs,hb_c]
         go_wp2
         go_ret
         exact ⟨by rw [hD.out];rfl,hb⟩
        | true =>
         go_wp2_with (first
          | (refine xae (by rfl) 26 _ rfl w.heap.size 9 rfl ((incC m.inc).toList) _ ?hc Tryz.underlying26 rfl (ws_inc m.inc) ?_;(case hc=>exact hX.m_inc))
          | fail)
         refine (refisinc_any m.inc _ hm.inc).mono ?_
         rintro en w22 ⟨rfl,hq⟩
         replace hb:=hb.trans (hq.mono hb.size)
         clear hq
         cases hb_d:isInc m.inc with
         | false =>
          have hD:Hid (isD m = false):=by show _ = _;rw [hI.out];unfold condD;rw [h_no'.out];simp [hkE,h_sl,hb_a,hn_w,h_hs,hb_c,hb_d]
          go_wp2
          go_ret
          exact ⟨by rw [hD.out];rfl,hb⟩
         | true =>
          have hD:Hid (isD m = true):=by show _ = _;rw [hI.out];unfold condD;rw [h_no'.out];simp [hkE,h_sl,hb_a,hn_w,h_hs,hb_c,hb_d]
          go_wp2
          go_ret
          exact ⟨by rw [hD.out];rfl,hb⟩
     ·have f1:¬ ((m.b.who:Int) = (m.dst:Int)):=by omega
      have f2:((m.b.who:Int) == (m.dst:Int)) = false:=by simp;omega
      have hD:Hid (isD m = false):=by show _ = _;rw [hI.out];unfold condD;simp [hkE,h_sl,hb_a,hn_w]
      clear hb_a hn_w
      go_wp2
      go_ret
      exact ⟨by rw [hD.out];rfl,hb⟩

set_option maxHeartbeats 40000000 in
theorem docis_C (m:MsgV) (a1 a2 a3:Option Addr) (c1 c2 c3:Nat) (w:World) (hm:MsgOk m) (hkk:m.kind = 5 ∨ m.kind = 6 ∨ m.kind = 7 ∨ m.kind = 10 ∨ m.kind = 12 ∨ m.kind = 8) (sm:MsgSl w m a1 c1 a2 c2 a3 c3) :
  Calls Tryz.prog 14 #[.agg (msgC m a1 c1 a2 c2 a3 c3)] w fun e w'=>e = .returned (.bool (isD m)) ∧ Below w.heap.size w w':=by
 obtain ⟨w1,hw1,hX,hb⟩:=xbr w 48 (msgC m a1 c1 a2 c2 a3 c3)
 replace sm:=sm.later hb
 have hk:1 ≤ m.kind ∧ m.kind ≤ 18:=by omega
 have hkd:decide (1 ≤ m.kind ∧ m.kind ≤ 18) = true:=decide_eq_true hk
 obtain ⟨kk,hkE⟩:∃ k,m.kind = k:=⟨_,rfl⟩
 rw [hkE] at hkk
 have x0:=hX.mc_kind
 rw [hkE] at x0
 have n1:¬ (kk:Int) < 1:=by omega
 have n2:¬ (18:Int) < (kk:Int):=by omega
 replace hkE:Hid _:=hkE
 replace hkk:Hid _:=hkk
 replace hkd:Hid _:=hkd
 replace hk:Hid _:=hk
 have hms:Hid (m.src < 256 ∧ m.dst < 256 ∧ m.epoch < 4294967296 ∧ m.group < 256):=⟨hm.src,hm.dst,hm.epoch,hm.group⟩
 go_enter Tryz.func14,Tryz.ntmps14
 go_wp2_with (first
  | (refine xab (by rfl) 48 _ rfl w.heap.size rfl 48 (msgC m a1 c1 a2 c2 a3 c3) _ Tryz.underlying48 rfl (xah m a1 a2 a3 c1 c2 c3) ?hg ?_;(case hg=>exact hX))
  | fail)
 refine (ends_any m a1 a2 a3 c1 c2 c3 _ hk.out).mono ?_
 rintro e w2 ⟨rfl,hq⟩
 clear hw1
 replace hX:=hX.later hq
 replace sm:=sm.later hq
 replace hb:=hb.trans (hq.mono hb.size)
 have y_src:=hX.mc_src
 have y_dst:=hX.mc_dst
 clear hq x0
 have hI0:isD m = (decide (1 ≤ m.kind ∧ m.kind ≤ 18) && (endsD m.kind m.src m.dst && (decide (m.src ≠ m.dst) && (zeroD (restD m) && condD m)))):=rfl
 rw [hkd.out] at hI0
 cases hE:endsD m.kind m.src m.dst with
 | false =>
  have hD:Hid (isD m = false):=by show _ = _;rw [hI0,hE];rfl
  go_wp2
  go_ret
  exact ⟨by rw [hD.out];rfl,hb⟩
 | true =>
 rw [hE] at hI0
 have hE':Hid _:=hE
 clear hE
 by_cases hsd:m.src = m.dst
 ·have hD:Hid (isD m = false):=by show _ = _;rw [hI0,decide_eq_false (by simpa using hsd)];rfl
  have hsI:(m.src:Int) = (m.dst:Int):=by omega
  have hsB:((m.src:Int) == (m.dst:Int)) = true:=by simp;omega
  clear hsd
  go_wp2
  go_ret
  exact ⟨by rw [hD.out];rfl,hb⟩
 have hsI:¬ (m.src:Int) = (m.dst:Int):=by omega
 have hsB:((m.src:Int) == (m.dst:Int)) = false:=by simp;omega
 rw [decide_eq_true hsd] at hI0
 clear hsd
 go_wp2_with (first
  | (refine xab (by rfl) 48 _ rfl w.heap.size rfl 48 (msgC m a1 c1 a2 c2 a3 c3) _ Tryz.underlying48 rfl (xah m a1 a2 a3 c1 c2 c3) ?hg ?_;(case hg=>exact hX))
  | fail)
 refine (rest_any m a1 a2 a3 c1 c2 c3 _ hk.out sm).mono ?_
 rintro e w3 ⟨b1,d1,b2,d2,b3,d3,rfl,sr,hq⟩
 replace hX:=hX.later hq
 replace sm:=sm.later hq
 replace hb:=hb.trans (hq.mono hb.size)
 clear hq y_src y_dst
 go_wp2_with fail
 refine (zero_any (restD m) b1 b2 b3 d1 d2 d3 _ (rest_ok hm) sr).mono ?_
 rintro e w4 ⟨rfl,hq⟩
 replace hX:=hX.later hq
 replace sm:=sm.later hq
 replace hb:=hb.trans (hq.mono hb.size)
 clear hq sr hsI hsB
 cases hZ:zeroD (restD m) with
 | false =>
  have hD:Hid (isD m = false):=by show _ = _;rw [hI0,hZ];rfl
  clear hZ
  go_wp2
  go_ret
  exact ⟨by rw [hD.out];rfl,hb⟩
 | true =>
 rw [hZ] at hI0
 have hI:Hid (isD m = condD m):=hI0
 clear hI0 hZ
 obtain ⟨w9,hw9⟩:∃ W,W = w4:=⟨_,rfl⟩
 subst hw9
 have y_epoch:=hX.mc_epoch
 obtain ⟨sl,h_sl⟩:∃ b,slotD m = b:=⟨_,rfl⟩
 obtain ⟨ep,h_ep⟩:∃ b,epD m = b:=⟨_,rfl⟩
 obtain ⟨gr,h_gr⟩:∃ b,grpD m = b:=⟨_,rfl⟩
 go_upto_region 3 with fail
 go_cut [3] from 33 to 40 (fun s3 wc=>s3 = .bool sl ∧ wc = w9)
 case first =>
  by_cases e1:2 ≤ m.epoch
  ·have e1I:(2:Int) ≤ (m.epoch:Int):=by omega
   by_cases e2:m.epoch ≤ 60
   ·have e2I:(m.epoch:Int) ≤ 60:=by omega
    obtain rfl:sl = true:=by rw [← h_sl];unfold slotD;rw [decide_eq_true e1,decide_eq_true e2];rfl
    clear h_sl e1 e2
    go_wp2
    go_meet
    exact ⟨rfl,rfl⟩
   ·have e2I:¬ (m.epoch:Int) ≤ 60:=by omega
    obtain rfl:sl = false:=by rw [← h_sl];unfold slotD;rw [decide_eq_false e2,Bool.and_false]
    clear h_sl e1 e2
    go_wp2
    go_meet
    exact ⟨rfl,rfl⟩
  ·have e1I:¬ (2:Int) ≤ (m.epoch:Int):=by omega
   obtain rfl:sl = false:=by rw [← h_sl];unfold slotD;rw [decide_eq_false e1,Bool.false_and]
   clear h_sl e1
   go_wp2
   go_meet
   exact ⟨rfl,rfl⟩
 case rest =>
 obtain ⟨rfl,rfl⟩:=hcut
 go_upto_region 4 with fail
 go_cut [4] from 41 to 48 (fun s4 wx=>s4 = .bool ep ∧ wx = wc)
 case first =>
  by_cases e1:1 ≤ m.epoch
  ·have e1I:(1:Int) ≤ (m.epoch:Int):=by omega
   by_cases e2:m.epoch ≤ 60
   ·have e2I:(m.epoch:Int) ≤ 60:=by omega
    obtain rfl:ep = true:=by rw [← h_ep];unfold epD;rw [decide_eq_true e1,decide_eq_true e2];rfl
    clear h_ep e1 e2
    go_wp2
    go_meet
    exact ⟨rfl,rfl⟩
   ·have e2I:¬ (m.epoch:Int) ≤ 60:=by omega
    obtain rfl:ep = false:=by rw [← h_ep];unfold epD;rw [decide_eq_false e2,Bool.and_false]
    clear h_ep e1 e2
    go_wp2
    go_meet
    exact ⟨rfl,rfl⟩
  ·have e1I:¬ (1:Int) ≤ (m.epoch:Int):=by omega
   obtain rfl:ep = false:=by rw [← h_ep];unfold epD;rw [decide_eq_false e1,Bool.false_and]
   clear h_ep e1
   go_wp2
   go_meet
   exact ⟨rfl,rfl⟩
 case rest =>
 rename_i wc0 _ _
 obtain ⟨rfl,rfl⟩:=hcut
 clear y_epoch
 have y_group:=hX.mc_group
 go_upto_region 5 with fail
 go_cut [5] from 49 to 54 (fun s5 wy=>s5 = .bool gr ∧ wy = wc)
 case first =>
  cases ep with
  | false =>
   obtain rfl:gr = false:=by rw [← h_gr];unfold grpD;rw [h_ep,Bool.false_and]
   go_wp2
   go_meet
   exact ⟨rfl,rfl⟩
  | true =>
   by_cases e1:m.group < 4
   ·have e1I:(m.group:Int) < 4:=by omega
    obtain rfl:gr = true:=by rw [← h_gr];unfold grpD;rw [h_ep,decide_eq_true e1];rfl
    clear h_gr e1
    go_wp2
    go_meet
    exact ⟨rfl,rfl⟩
   ·have e1I:¬ (m.group:Int) < 4:=by omega
    obtain rfl:gr = false:=by rw [← h_gr];unfold grpD;rw [decide_eq_false e1,Bool.and_false]
    clear h_gr e1
    go_wp2
    go_meet
    exact ⟨rfl,rfl⟩
 case rest =>
 obtain ⟨rfl,rfl⟩:=hcut
 clear y_group
 have x0:=hX.mc_kind
 rw [hkE.out] at x0
 rcases hkk.out with rfl | rfl | rfl | rfl | rfl | rfl
 ·replace hkE:=hkE.out
  clear hkk hkd hk n1 n2
  cases sl with
  | false =>
   have hD:Hid (isD m = false):=by show _ = _;rw [hI.out];unfold condD;simp [hkE,h_sl]
   go_wp2
   go_ret
   exact ⟨by rw [hD.out];rfl,hb⟩
  | true =>
   go_wp2_with (first
    | (refine xae (by rfl) 26 _ rfl w.heap.size 9 rfl ((incC m.inc).toList) _ ?hc Tryz.underlying26 rfl (ws_inc m.inc) ?_;(case hc=>exact hX.m_inc))
    | fail)
   refine (refisinc_any m.inc _ hm.inc).mono ?_
   rintro en w21 ⟨rfl,hq⟩
   replace hX:=hX.later hq
   replace sm:=sm.later hq
   replace hb:=hb.trans (hq.mono hb.size)
   clear hq
   cases hb_1:isInc m.inc with
   | false =>
    have hD:Hid (isD m = false):=by show _ = _;rw [hI.out];unfold condD;simp [hkE,h_sl,hb_1]
    clear hb_1
    go_wp2
    go_ret
    exact ⟨by rw [hD.out];rfl,hb⟩
   | true =>
    have hD:Hid (isD m = true):=by show _ = _;rw [hI.out];unfold condD;simp [hkE,h_sl,hb_1]
    clear hb_1
    go_wp2
    go_ret
    exact ⟨by rw [hD.out];rfl,hb⟩
 ·replace hkE:=hkE.out
  clear hkk hkd hk n1 n2
  have hD:Hid (isD m = ep):=by show _ = _;rw [hI.out];unfold condD;simp [hkE,h_ep]
  go_wp2
  go_ret
  exact ⟨by rw [hD.out];rfl,hb⟩
 ·replace hkE:=hkE.out
  clear hkk hkd hk n1 n2
  have hD:Hid (isD m = gr):=by show _ = _;rw [hI.out];unfold condD;simp [hkE,h_gr]
  go_wp2
  go_ret
  exact ⟨by rw [hD.out];rfl,hb⟩
 ·replace hkE:=hkE.out
  clear hkk hkd hk n1 n2
  have hD:Hid (isD m = gr):=by show _ = _;rw [hI.out];unfold condD;simp [hkE,h_gr]
  go_wp2
  go_ret
  exact ⟨by rw [hD.out];rfl,hb⟩
 ·replace hkE:=hkE.out
  clear hkk hkd hk n1 n2
  have hD:Hid (isD m = gr):=by show _ = _;rw [hI.out];unfold condD;simp [hkE,h_gr]
  go_wp2
  go_ret
  exact ⟨by rw [hD.out];rfl,hb⟩
 ·replace hkE:=hkE.out
  clear hkk hkd hk n1 n2
  cases gr with
  | false =>
   have hD:Hid (isD m = false):=by show _ = _;rw [hI.out];unfold condD;simp [hkE,h_gr]
   go_wp2
   go_ret
   exact ⟨by rw [hD.out];rfl,hb⟩
  | true =>
   go_wp2_with (first
    | (refine xae (by rfl) 44 _ rfl w.heap.size 13 rfl (stL m.st a1 c1) _ ?hc Tryz.underlying44 rfl (xcg m.st a1 c1) ?_;(case hc=>exact hX.m_st))
    | fail)
   refine (xgw m.st a1 c1 _ hm.st sm.st).mono ?_
   rintro en w22 ⟨rfl,hq⟩
   replace hX:=hX.later hq
   replace sm:=sm.later hq
   replace hb:=hb.trans (hq.mono hb.size)
   clear hq
   cases hb_2:isSt m.st with
   | false =>
    have hD:Hid (isD m = false):=by show _ = _;rw [hI.out];unfold condD;simp [hkE,h_gr,hb_2]
    clear hb_2
    go_wp2
    go_ret
    exact ⟨by rw [hD.out];rfl,hb⟩
   | true =>
    have hD:Hid (isD m = true):=by show _ = _;rw [hI.out];unfold condD;simp [hkE,h_gr,hb_2]
    clear hb_2
    go_wp2
    go_ret
    exact ⟨by rw [hD.out];rfl,hb⟩

set_option maxHeartbeats 40000000 in
theorem docis_D (m:MsgV) (a1 a2 a3:Option Addr) (c1 c2 c3:Nat) (w:World) (hm:MsgOk m) (hkk:m.kind = 9 ∨ m.kind = 11 ∨ m.kind = 13 ∨ m.kind = 14) (sm:MsgSl w m a1 c1 a2 c2 a3 c3) :
  Calls Tryz.prog 14 #[.agg (msgC m a1 c1 a2 c2 a3 c3)] w fun e w'=>e = .returned (.bool (isD m)) ∧ Below w.heap.size w w':=by
 obtain ⟨w1,hw1,hX,hb⟩:=xbr w 48 (msgC m a1 c1 a2 c2 a3 c3)
 replace sm:=sm.later hb
 have hk:1 ≤ m.kind ∧ m.kind ≤ 18:=by omega
 have hkd:decide (1 ≤ m.kind ∧ m.kind ≤ 18) = true:=decide_eq_true hk
 obtain ⟨kk,hkE⟩:∃ k,m.kind = k:=⟨_,rfl⟩
 rw [hkE] at hkk
 have x0:=hX.mc_kind
 rw [hkE] at x0
 have n1:¬ (kk:Int) < 1:=by omega
 have n2:¬ (18:Int) < (kk:Int):=by omega
 replace hkE:Hid _:=hkE
 replace hkk:Hid _:=hkk
 replace hkd:Hid _:=hkd
 replace hk:Hid _:=hk
 have hms:Hid (m.src < 256 ∧ m.dst < 256 ∧ m.epoch < 4294967296 ∧ m.group < 256):=⟨hm.src,hm.dst,hm.epoch,hm.group⟩
 go_enter Tryz.func14,Tryz.ntmps14
 go_wp2_with (first
  | (refine xab (by rfl) 48 _ rfl w.heap.size rfl 48 (msgC m a1 c1 a2 c2 a3 c3) _ Tryz.underlying48 rfl (xah m a1 a2 a3 c1 c2 c3) ?hg ?_;(case hg=>exact hX))
  | fail)
 refine (ends_any m a1 a2 a3 c1 c2 c3 _ hk.out).mono ?_
 rintro e w2 ⟨rfl,hq⟩
 clear hw1
 replace hX:=hX.later hq
 replace sm:=sm.later hq
 replace hb:=hb.trans (hq.mono hb.size)
 have y_src:=hX.mc_src
 have y_dst:=hX.mc_dst
 clear hq x0
 have hI0:isD m = (decide (1 ≤ m.kind ∧ m.kind ≤ 18) && (endsD m.kind m.src m.dst && (decide (m.src ≠ m.dst) && (zeroD (restD m) && condD m)))):=rfl
 rw [hkd.out] at hI0
 cases hE:endsD m.kind m.src m.dst with
 | false =>
  have hD:Hid (isD m = false):=by show _ = _;rw [hI0,hE];rfl
  go_wp2
  go_ret
  exact ⟨by rw [hD.out];rfl,hb⟩
 | true =>
 rw [hE] at hI0
 have hE':Hid _:=hE
 clear hE
 by_cases hsd:m.src = m.dst
 ·have hD:Hid (isD m = false):=by show _ = _;rw [hI0,decide_eq_false (by simpa using hsd)];rfl
  have hsI:(m.src:Int) = (m.dst:Int):=by omega
  have hsB:((m.src:Int) == (m.dst:Int)) = true:=by simp;omega
  clear hsd
  go_wp2
  go_ret
  exact ⟨by rw [hD.out];rfl,hb⟩
 have hsI:¬ (m.src:Int) = (m.dst:Int):=by omega
 have hsB:((m.src:Int) == (m.dst:Int)) = false:=by simp;omega
 rw [decide_eq_true hsd] at hI0
 clear hsd
 go_wp2_with (first
  | (refine xab (by rfl) 48 _ rfl w.heap.size rfl 48 (msgC m a1 c1 a2 c2 a3 c3) _ Tryz.underlying48 rfl (xah m a1 a2 a3 c1 c2 c3) ?hg ?_;(case hg=>exact hX))
  | fail)
 refine (rest_any m a1 a2 a3 c1 c2 c3 _ hk.out sm).mono ?_
 rintro e w3 ⟨b1,d1,b2,d2,b3,d3,rfl,sr,hq⟩
 replace hX:=hX.later hq
 replace sm:=sm.later hq
 replace hb:=hb.trans (hq.mono hb.size)
 clear hq y_src y_dst
 go_wp2_with fail
 refine (zero_any (restD m) b1 b2 b3 d1 d2 d3 _ (rest_ok hm) sr).mono ?_
 rintro e w4 ⟨rfl,hq⟩
 replace hX:=hX.later hq
 replace sm:=sm.later hq
 replace hb:=hb.trans (hq.mono hb.size)
 clear hq sr hsI hsB
 cases hZ:zeroD (restD m) with
 | false =>
  have hD:Hid (isD m = false):=by show _ = _;rw [hI0,hZ];rfl
  clear hZ
  go_wp2
  go_ret
  exact ⟨by rw [hD.out];rfl,hb⟩
 | true =>
 rw [hZ] at hI0
 have hI:Hid (isD m = condD m):=hI0
 clear hI0 hZ
 obtain ⟨w9,hw9⟩:∃ W,W = w4:=⟨_,rfl⟩
 subst hw9
 have y_epoch:=hX.mc_epoch
 obtain ⟨sl,h_sl⟩:∃ b,slotD m = b:=⟨_,rfl⟩
 obtain ⟨ep,h_ep⟩:∃ b,epD m = b:=⟨_,rfl⟩
 obtain ⟨gr,h_gr⟩:∃ b,grpD m = b:=⟨_,rfl⟩
 go_upto_region 3 with fail
 go_cut [3] from 33 to 40 (fun s3 wc=>s3 = .bool sl ∧ wc = w9)
 case first =>
  by_cases e1:2 ≤ m.epoch
  ·have e1I:(2:Int) ≤ (m.epoch:Int):=by omega
   by_cases e2:m.epoch ≤ 60
   ·have e2I:(m.epoch:Int) ≤ 60:=by omega
    obtain rfl:sl = true:=by rw [← h_sl];unfold slotD;rw [decide_eq_true e1,decide_eq_true e2];rfl
    clear h_sl e1 e2
    go_wp2
    go_meet
    exact ⟨rfl,rfl⟩
   ·have e2I:¬ (m.epoch:Int) ≤ 60:=by omega
    obtain rfl:sl = false:=by rw [← h_sl];unfold slotD;rw [decide_eq_false e2,Bool.and_false]
    clear h_sl e1 e2
    go_wp2
    go_meet
    exact ⟨rfl,rfl⟩
  ·have e1I:¬ (2:Int) ≤ (m.epoch:Int):=by omega
   obtain rfl:sl = false:=by rw [← h_sl];unfold slotD;rw [decide_eq_false e1,Bool.false_and]
   clear h_sl e1
   go_wp2
   go_meet
   exact ⟨rfl,rfl⟩
 case rest =>
 obtain ⟨rfl,rfl⟩:=hcut
 go_upto_region 4 with fail
 go_cut [4] from 41 to 48 (fun s4 wx=>s4 = .bool ep ∧ wx = wc)
 case first =>
  by_cases e1:1 ≤ m.epoch
  ·have e1I:(1:Int) ≤ (m.epoch:Int):=by omega
   by_cases e2:m.epoch ≤ 60
   ·have e2I:(m.epoch:Int) ≤ 60:=by omega
    obtain rfl:ep = true:=by rw [← h_ep];unfold epD;rw [decide_eq_true e1,decide_eq_true e2];rfl
    clear h_ep e1 e2
    go_wp2
    go_meet
    exact ⟨rfl,rfl⟩
   ·have e2I:¬ (m.epoch:Int) ≤ 60:=by omega
    obtain rfl:ep = false:=by rw [← h_ep];unfold epD;rw [decide_eq_false e2,Bool.and_false]
    clear h_ep e1 e2
    go_wp2
    go_meet
    exact ⟨rfl,rfl⟩
  ·have e1I:¬ (1:Int) ≤ (m.epoch:Int):=by omega
   obtain rfl:ep = false:=by rw [← h_ep];unfold epD;rw [decide_eq_false e1,Bool.false_and]
   clear h_ep e1
   go_wp2
   go_meet
   exact ⟨rfl,rfl⟩
 case rest =>
 rename_i wc0 _ _
 obtain ⟨rfl,rfl⟩:=hcut
 clear y_epoch
 have y_group:=hX.mc_group
 go_upto_region 5 with fail
 go_cut [5] from 49 to 54 (fun s5 wy=>s5 = .bool gr ∧ wy = wc)
 case first =>
  cases ep with
  | false =>
   obtain rfl:gr = false:=by rw [← h_gr];unfold grpD;rw [h_ep,Bool.false_and]
   go_wp2
   go_meet
   exact ⟨rfl,rfl⟩
  | true =>
   by_cases e1:m.group < 4
   ·have e1I:(m.group:Int) < 4:=by omega
    obtain rfl:gr = true:=by rw [← h_gr];unfold grpD;rw [h_ep,decide_eq_true e1];rfl
    clear h_gr e1
    go_wp2
    go_meet
    exact ⟨rfl,rfl⟩
   ·have e1I:¬ (m.group:Int) < 4:=by omega
    obtain rfl:gr = false:=by rw [← h_gr];unfold grpD;rw [decide_eq_false e1,Bool.and_false]
    clear h_gr e1
    go_wp2
    go_meet
    exact ⟨rfl,rfl⟩
 case rest =>
 obtain ⟨rfl,rfl⟩:=hcut
 clear y_group
 have x0:=hX.mc_kind
 rw [hkE.out] at x0
 rcases hkk.out with rfl | rfl | rfl | rfl
 ·replace hkE:=hkE.out
  clear hkk hkd hk n1 n2
  cases gr with
  | false =>
   have hD:Hid (isD m = false):=by show _ = _;rw [hI.out];unfold condD;simp [hkE,h_gr]
   go_wp2
   go_ret
   exact ⟨by rw [hD.out];rfl,hb⟩
  | true =>
   go_wp2_with (first
    | (refine xae (by rfl) 46 _ rfl w.heap.size 62 rfl (diffL m.diff a2 c2 a3 c3) _ ?hc Tryz.underlying46 rfl (xdw m.diff a2 a3 c2 c3) ?_;(case hc=>exact hX.m_diff))
    | fail)
   refine (docdiff_any m.diff a2 a3 c2 c3 _ hm.diff ⟨sm.log,sm.whole⟩).mono ?_
   rintro en w21 ⟨rfl,hq⟩
   replace hX:=hX.later hq
   replace sm:=sm.later hq
   replace hb:=hb.trans (hq.mono hb.size)
   clear hq
   cases hb_1:diffD m.diff with
   | false =>
    have hD:Hid (isD m = false):=by show _ = _;rw [hI.out];unfold condD;simp [hkE,h_gr,hb_1]
    clear hb_1
    go_wp2
    go_ret
    exact ⟨by rw [hD.out];rfl,hb⟩
   | true =>
    have hD:Hid (isD m = true):=by show _ = _;rw [hI.out];unfold condD;simp [hkE,h_gr,hb_1]
    clear hb_1
    go_wp2
    go_ret
    exact ⟨by rw [hD.out];rfl,hb⟩
 ·replace hkE:=hkE.out
  clear hkk hkd hk n1 n2
  have y_entn:=hX.mc_entn
  have y_entsince:=hX.mc_entsince
  have hs1:=hm.ent.since
  have hs2:=hm.ent.n
  cases gr with
  | false =>
   have hD:Hid (isD m = false):=by show _ = _;rw [hI.out];unfold condD;simp [hkE,h_gr]
   go_wp2
   go_ret
   exact ⟨by rw [hD.out];rfl,hb⟩
  | true =>
   go_wp2_with (first
    | (refine xae (by rfl) 39 _ rfl w.heap.size 116 rfl (opL m.ent.op) _ ?hc Tryz.underlying39 rfl (xca m.ent.op) ?_;(case hc=>exact hX.m_entop))
    | fail)
   refine (refwrites_any m.ent.op _ hm.ent.op).mono ?_
   rintro en w22 ⟨rfl,hq⟩
   replace hX:=hX.later hq
   replace sm:=sm.later hq
   replace hb:=hb.trans (hq.mono hb.size)
   clear hq
   replace y_entn:=hX.mc_entn
   replace y_entsince:=hX.mc_entsince
   cases hb_2:xdz m.ent.op with
   | false =>
    have hD:Hid (isD m = false):=by show _ = _;rw [hI.out];unfold condD;simp [hkE,h_gr,hb_2]
    clear hb_2
    go_wp2
    go_ret
    exact ⟨by rw [hD.out];rfl,hb⟩
   | true =>
    by_cases hn_3:0 < m.ent.n
    ·have f3_0:((0:Int) < (m.ent.n:Int)):=by omega
     by_cases hn_4:1 ≤ m.ent.since
     ·have f4_0:((1:Int) ≤ (m.ent.since:Int)):=by omega
      by_cases hn_5:m.ent.since ≤ 60
      ·have f5_0:((m.ent.since:Int) ≤ 60):=by omega
       have hD:Hid (isD m = true):=by show _ = _;rw [hI.out];unfold condD;simp [hkE,h_gr,hb_2,hn_3,hn_4,hn_5]
       clear hb_2 hn_3 hn_4 hn_5
       go_wp2
       go_ret
       exact ⟨by rw [hD.out];rfl,hb⟩
      ·have f5_0:¬ ((m.ent.since:Int) ≤ 60):=by omega
       have hD:Hid (isD m = false):=by show _ = _;rw [hI.out];unfold condD;simp [hkE,h_gr,hb_2,hn_3,hn_4,hn_5]
       clear hb_2 hn_3 hn_4 hn_5
       go_wp2
       go_ret
       exact ⟨by rw [hD.out];exact congrArg (fun b=>Ending.returned (Value.bool b)) (decide_eq_false (by omega:¬ (m.ent.since:Int) ≤ 60)),hb⟩
     ·have f4_0:¬ ((1:Int) ≤ (m.ent.since:Int)):=by omega
      have hD:Hid (isD m = false):=by show _ = _;rw [hI.out];unfold condD;simp [hkE,h_gr,hb_2,hn_3,hn_4]
      clear hb_2 hn_3 hn_4
      go_wp2
      go_ret
      exact ⟨by rw [hD.out];rfl,hb⟩
    ·have f3_0:¬ ((0:Int) < (m.ent.n:Int)):=by omega
     have hD:Hid (isD m = false):=by show _ = _;rw [hI.out];unfold condD;simp [hkE,h_gr,hb_2,hn_3]
     clear hb_2 hn_3
     go_wp2
     go_ret
     exact ⟨by rw [hD.out];rfl,hb⟩
 ·replace hkE:=hkE.out
  clear hkk hkd hk n1 n2
  have y_opkind:=hX.mc_opkind
  cases gr with
  | false =>
   have hD:Hid (isD m = false):=by show _ = _;rw [hI.out];unfold condD;simp [hkE,h_gr]
   go_wp2
   go_ret
   exact ⟨by rw [hD.out];rfl,hb⟩
  | true =>
   go_wp2_with (first
    | (refine xae (by rfl) 39 _ rfl w.heap.size 123 rfl (opL m.op) _ ?hc Tryz.underlying39 rfl (xca m.op) ?_;(case hc=>exact hX.m_op))
    | fail)
   refine (xga m.op _ hm.op).mono ?_
   rintro en w26 ⟨rfl,hq⟩
   replace hX:=hX.later hq
   replace sm:=sm.later hq
   replace hb:=hb.trans (hq.mono hb.size)
   clear hq
   replace y_opkind:=hX.mc_opkind
   cases hb_6:isOpM m.op with
   | false =>
    have hD:Hid (isD m = false):=by show _ = _;rw [hI.out];unfold condD;simp [hkE,h_gr,hb_6]
    clear hb_6
    go_wp2
    go_ret
    exact ⟨by rw [hD.out];rfl,hb⟩
   | true =>
    by_cases hn_7:m.op.kind = 5
    ·have f7_0:((m.op.kind:Int) = 5):=by omega
     have f7_1:((m.op.kind:Int) == 5) = true:=by simp;omega
     have hD:Hid (isD m = true):=by show _ = _;rw [hI.out];unfold condD;simp [hkE,h_gr,hb_6,hn_7]
     clear hb_6 hn_7
     go_wp2
     go_ret
     exact ⟨by rw [hD.out];rfl,hb⟩
    ·have f7_0:¬ ((m.op.kind:Int) = 5):=by omega
     have f7_1:((m.op.kind:Int) == 5) = false:=by simp;omega
     have hD:Hid (isD m = false):=by show _ = _;rw [hI.out];unfold condD;simp [hkE,h_gr,hb_6,hn_7]
     clear hb_6 hn_7
     go_wp2
     go_ret
     exact ⟨by rw [hD.out];rfl,hb⟩
 ·replace hkE:=hkE.out
  clear hkk hkd hk n1 n2
  have y_opkind:=hX.mc_opkind
  cases gr with
  | false =>
   have hD:Hid (isD m = false):=by show _ = _;rw [hI.out];unfold condD;simp [hkE,h_gr]
   go_wp2
   go_ret
   exact ⟨by rw [hD.out];rfl,hb⟩
  | true =>
   go_wp2_with (first
    | (refine xae (by rfl) 39 _ rfl w.heap.size 123 rfl (opL m.op) _ ?hc Tryz.underlying39 rfl (xca m.op) ?_;(case hc=>exact hX.m_op))
    | fail)
   refine (xga m.op _ hm.op).mono ?_
   rintro en w28 ⟨rfl,hq⟩
   replace hX:=hX.later hq
   replace sm:=sm.later hq
   replace hb:=hb.trans (hq.mono hb.size)
   clear hq
   replace y_opkind:=hX.mc_opkind
   cases hb_8:isOpM m.op with
   | false =>
    have hD:Hid (isD m = false):=by show _ = _;rw [hI.out];unfold condD;simp [hkE,h_gr,hb_8]
    clear hb_8
    go_wp2
    go_ret
    exact ⟨by rw [hD.out];rfl,hb⟩
   | true =>
    by_cases hn_9:m.op.kind = 5
    ·have f9_0:((m.op.kind:Int) = 5):=by omega
     have f9_1:((m.op.kind:Int) == 5) = true:=by simp;omega
     have hD:Hid (isD m = true):=by show _ = _;rw [hI.out];unfold condD;simp [hkE,h_gr,hb_8,hn_9]
     clear hb_8 hn_9
     go_wp2
     go_ret
     exact ⟨by rw [hD.out];rfl,hb⟩
    ·have f9_0:¬ ((m.op.kind:Int) = 5):=by omega
     have f9_1:((m.op.kind:Int) == 5) = false:=by simp;omega
     have hD:Hid (isD m = false):=by show _ = _;rw [hI.out];unfold condD;simp [hkE,h_gr,hb_8,hn_9]
     clear hb_8 hn_9
     go_wp2
     go_ret
     exact ⟨by rw [hD.out];rfl,hb⟩

set_option maxHeartbeats 40000000 in
theorem docis_E (m:MsgV) (a1 a2 a3:Option Addr) (c1 c2 c3:Nat) (w:World) (hm:MsgOk m) (hkk:m.kind = 15 ∨ m.kind = 17) (sm:MsgSl w m a1 c1 a2 c2 a3 c3) :
  Calls Tryz.prog 14 #[.agg (msgC m a1 c1 a2 c2 a3 c3)] w fun e w'=>e = .returned (.bool (isD m)) ∧ Below w.heap.size w w':=by
 obtain ⟨w1,hw1,hX,hb⟩:=xbr w 48 (msgC m a1 c1 a2 c2 a3 c3)
 replace sm:=sm.later hb
 have hk:1 ≤ m.kind ∧ m.kind ≤ 18:=by omega
 have hkd:decide (1 ≤ m.kind ∧ m.kind ≤ 18) = true:=decide_eq_true hk
 obtain ⟨kk,hkE⟩:∃ k,m.kind = k:=⟨_,rfl⟩
 rw [hkE] at hkk
 have x0:=hX.mc_kind
 rw [hkE] at x0
 have n1:¬ (kk:Int) < 1:=by omega
 have n2:¬ (18:Int) < (kk:Int):=by omega
 replace hkE:Hid _:=hkE
 replace hkk:Hid _:=hkk
 replace hkd:Hid _:=hkd
 replace hk:Hid _:=hk
 have hms:Hid (m.src < 256 ∧ m.dst < 256 ∧ m.epoch < 4294967296 ∧ m.group < 256):=⟨hm.src,hm.dst,hm.epoch,hm.group⟩
 go_enter Tryz.func14,Tryz.ntmps14
 go_wp2_with (first
  | (refine xab (by rfl) 48 _ rfl w.heap.size rfl 48 (msgC m a1 c1 a2 c2 a3 c3) _ Tryz.underlying48 rfl (xah m a1 a2 a3 c1 c2 c3) ?hg ?_;(case hg=>exact hX))
  | fail)
 refine (ends_any m a1 a2 a3 c1 c2 c3 _ hk.out).mono ?_
 rintro e w2 ⟨rfl,hq⟩
 clear hw1
 replace hX:=hX.later hq
 replace sm:=sm.later hq
 replace hb:=hb.trans (hq.mono hb.size)
 have y_src:=hX.mc_src
 have y_dst:=hX.mc_dst
 clear hq x0
 have hI0:isD m = (decide (1 ≤ m.kind ∧ m.kind ≤ 18) && (endsD m.kind m.src m.dst && (decide (m.src ≠ m.dst) && (zeroD (restD m) && condD m)))):=rfl
 rw [hkd.out] at hI0
 cases hE:endsD m.kind m.src m.dst with
 | false =>
  have hD:Hid (isD m = false):=by show _ = _;rw [hI0,hE];rfl
  go_wp2
  go_ret
  exact ⟨by rw [hD.out];rfl,hb⟩
 | true =>
 rw [hE] at hI0
 have hE':Hid _:=hE
 clear hE
 by_cases hsd:m.src = m.dst
 ·have hD:Hid (isD m = false):=by show _ = _;rw [hI0,decide_eq_false (by simpa using hsd)];rfl
  have hsI:(m.src:Int) = (m.dst:Int):=by omega
  have hsB:((m.src:Int) == (m.dst:Int)) = true:=by simp;omega
  clear hsd
  go_wp2
  go_ret
  exact ⟨by rw [hD.out];rfl,hb⟩
 have hsI:¬ (m.src:Int) = (m.dst:Int):=by omega
 have hsB:((m.src:Int) == (m.dst:Int)) = false:=by simp;omega
 rw [decide_eq_true hsd] at hI0
 clear hsd
 go_wp2_with (first
  | (refine xab (by rfl) 48 _ rfl w.heap.size rfl 48 (msgC m a1 c1 a2 c2 a3 c3) _ Tryz.underlying48 rfl (xah m a1 a2 a3 c1 c2 c3) ?hg ?_;(case hg=>exact hX))
  | fail)
 refine (rest_any m a1 a2 a3 c1 c2 c3 _ hk.out sm).mono ?_
 rintro e w3 ⟨b1,d1,b2,d2,b3,d3,rfl,sr,hq⟩
 replace hX:=hX.later hq
 replace sm:=sm.later hq
 replace hb:=hb.trans (hq.mono hb.size)
 clear hq y_src y_dst
 go_wp2_with fail
 refine (zero_any (restD m) b1 b2 b3 d1 d2 d3 _ (rest_ok hm) sr).mono ?_
 rintro e w4 ⟨rfl,hq⟩
 replace hX:=hX.later hq
 replace sm:=sm.later hq
 replace hb:=hb.trans (hq.mono hb.size)
 clear hq sr hsI hsB
 cases hZ:zeroD (restD m) with
 | false =>
  have hD:Hid (isD m = false):=by show _ = _;rw [hI0,hZ];rfl
  clear hZ
  go_wp2
  go_ret
  exact ⟨by rw [hD.out];rfl,hb⟩
 | true =>
 rw [hZ] at hI0
 have hI:Hid (isD m = condD m):=hI0
 clear hI0 hZ
 obtain ⟨w9,hw9⟩:∃ W,W = w4:=⟨_,rfl⟩
 subst hw9
 have y_epoch:=hX.mc_epoch
 obtain ⟨sl,h_sl⟩:∃ b,slotD m = b:=⟨_,rfl⟩
 obtain ⟨ep,h_ep⟩:∃ b,epD m = b:=⟨_,rfl⟩
 obtain ⟨gr,h_gr⟩:∃ b,grpD m = b:=⟨_,rfl⟩
 go_upto_region 3 with fail
 go_cut [3] from 33 to 40 (fun s3 wc=>s3 = .bool sl ∧ wc = w9)
 case first =>
  by_cases e1:2 ≤ m.epoch
  ·have e1I:(2:Int) ≤ (m.epoch:Int):=by omega
   by_cases e2:m.epoch ≤ 60
   ·have e2I:(m.epoch:Int) ≤ 60:=by omega
    obtain rfl:sl = true:=by rw [← h_sl];unfold slotD;rw [decide_eq_true e1,decide_eq_true e2];rfl
    clear h_sl e1 e2
    go_wp2
    go_meet
    exact ⟨rfl,rfl⟩
   ·have e2I:¬ (m.epoch:Int) ≤ 60:=by omega
    obtain rfl:sl = false:=by rw [← h_sl];unfold slotD;rw [decide_eq_false e2,Bool.and_false]
    clear h_sl e1 e2
    go_wp2
    go_meet
    exact ⟨rfl,rfl⟩
  ·have e1I:¬ (2:Int) ≤ (m.epoch:Int):=by omega
   obtain rfl:sl = false:=by rw [← h_sl];unfold slotD;rw [decide_eq_false e1,Bool.false_and]
   clear h_sl e1
   go_wp2
   go_meet
   exact ⟨rfl,rfl⟩
 case rest =>
 obtain ⟨rfl,rfl⟩:=hcut
 go_upto_region 4 with fail
 go_cut [4] from 41 to 48 (fun s4 wx=>s4 = .bool ep ∧ wx = wc)
 case first =>
  by_cases e1:1 ≤ m.epoch
  ·have e1I:(1:Int) ≤ (m.epoch:Int):=by omega
   by_cases e2:m.epoch ≤ 60
   ·have e2I:(m.epoch:Int) ≤ 60:=by omega
    obtain rfl:ep = true:=by rw [← h_ep];unfold epD;rw [decide_eq_true e1,decide_eq_true e2];rfl
    clear h_ep e1 e2
    go_wp2
    go_meet
    exact ⟨rfl,rfl⟩
   ·have e2I:¬ (m.epoch:Int) ≤ 60:=by omega
    obtain rfl:ep = false:=by rw [← h_ep];unfold epD;rw [decide_eq_false e2,Bool.and_false]
    clear h_ep e1 e2
    go_wp2
    go_meet
    exact ⟨rfl,rfl⟩
  ·have e1I:¬ (1:Int) ≤ (m.epoch:Int):=by omega
   obtain rfl:ep = false:=by rw [← h_ep];unfold epD;rw [decide_eq_false e1,Bool.false_and]
   clear h_ep e1
   go_wp2
   go_meet
   exact ⟨rfl,rfl⟩
 case rest =>
 rename_i wc0 _ _
 obtain ⟨rfl,rfl⟩:=hcut
 clear y_epoch
 have y_group:=hX.mc_group
 go_upto_region 5 with fail
 go_cut [5] from 49 to 54 (fun s5 wy=>s5 = .bool gr ∧ wy = wc)
 case first =>
  cases ep with
  | false =>
   obtain rfl:gr = false:=by rw [← h_gr];unfold grpD;rw [h_ep,Bool.false_and]
   go_wp2
   go_meet
   exact ⟨rfl,rfl⟩
  | true =>
   by_cases e1:m.group < 4
   ·have e1I:(m.group:Int) < 4:=by omega
    obtain rfl:gr = true:=by rw [← h_gr];unfold grpD;rw [h_ep,decide_eq_true e1];rfl
    clear h_gr e1
    go_wp2
    go_meet
    exact ⟨rfl,rfl⟩
   ·have e1I:¬ (m.group:Int) < 4:=by omega
    obtain rfl:gr = false:=by rw [← h_gr];unfold grpD;rw [decide_eq_false e1,Bool.and_false]
    clear h_gr e1
    go_wp2
    go_meet
    exact ⟨rfl,rfl⟩
 case rest =>
 obtain ⟨rfl,rfl⟩:=hcut
 clear y_group
 have x0:=hX.mc_kind
 rw [hkE.out] at x0
 rcases hkk.out with rfl | rfl
 ·replace hkE:=hkE.out
  clear hkk hkd hk n1 n2
  have y_opclient:=hX.mc_opclient
  have y_src:=hX.mc_src
  obtain ⟨m1,m2,-,-⟩:=hms.out
  have hE1:=hE'.out
  rw [hkE] at hE1
  unfold endsD at hE1
  simp [osdD,cliD] at hE1
  have hcl:=hm.op.client
  go_wp2_with (first
   | (refine xae (by rfl) 39 _ rfl w.heap.size 123 rfl (opL m.op) _ ?hc Tryz.underlying39 rfl (xca m.op) ?_;(case hc=>exact hX.m_op))
   | fail)
  refine (xga m.op _ hm.op).mono ?_
  rintro en w21 ⟨rfl,hq⟩
  replace hX:=hX.later hq
  replace sm:=sm.later hq
  replace hb:=hb.trans (hq.mono hb.size)
  clear hq
  replace y_opclient:=hX.mc_opclient
  replace y_src:=hX.mc_src
  cases hb_1:isOpM m.op with
  | false =>
   have hD:Hid (isD m = false):=by show _ = _;rw [hI.out];unfold condD;simp [hkE,hb_1]
   clear hb_1
   go_wp2
   go_ret
   exact ⟨by rw [hD.out];rfl,hb⟩
  | true =>
   by_cases hn_2:m.op.client = (m.src + 236) % 256
   ·have f2_0:((m.op.client:Int) == (m.src:Int) - 20) = true:=by simp;omega
    have f2_0a:((m.op.client:Int) = (m.src:Int) - 20):=by omega
    have hD:Hid (isD m = true):=by show _ = _;rw [hI.out];unfold condD;simp [hkE,hb_1,hn_2]
    clear hb_1 hn_2
    go_wp2
    go_ret
    exact ⟨by rw [hD.out];rfl,hb⟩
   ·have f2_0:((m.op.client:Int) == (m.src:Int) - 20) = false:=by simp;omega
    have f2_0a:¬ ((m.op.client:Int) = (m.src:Int) - 20):=by omega
    have hD:Hid (isD m = false):=by show _ = _;rw [hI.out];unfold condD;simp [hkE,hb_1,hn_2]
    clear hb_1 hn_2
    go_wp2
    go_ret
    exact ⟨by rw [hD.out];rfl,hb⟩
 ·replace hkE:=hkE.out
  clear hkk hkd hk n1 n2
  have y_n:=hX.mc_n
  have hs1:=hm.n
  by_cases hn_3:m.n < 5
  ·have f3_0:((m.n:Int) < 5):=by omega
   have hD:Hid (isD m = true):=by show _ = _;rw [hI.out];unfold condD;simp [hkE,hn_3]
   clear hn_3
   go_wp2
   go_ret
   exact ⟨by rw [hD.out];rfl,hb⟩
  ·have f3_0:¬ ((m.n:Int) < 5):=by omega
   have hD:Hid (isD m = false):=by show _ = _;rw [hI.out];unfold condD;simp [hkE,hn_3]
   clear hn_3
   go_wp2
   go_ret
   exact ⟨by rw [hD.out];rfl,hb⟩

theorem Has.mc_rstr {w:World} {g:Nat} {t:TypeId} {m:MsgV} {a1 a2 a3:Option Addr} {c1 c2 c3:Nat} (h:Has w g t (msgC m a1 c1 a2 c2 a3 c3)):w.cell? ⟨g,130,none⟩ = some (.string (mkS m.r.data)):=h.mc_rdata
set_option maxHeartbeats 40000000 in
theorem docis_F (m:MsgV) (a1 a2 a3:Option Addr) (c1 c2 c3:Nat) (w:World) (hm:MsgOk m) (hkk:m.kind = 16) (sm:MsgSl w m a1 c1 a2 c2 a3 c3) :
  Calls Tryz.prog 14 #[.agg (msgC m a1 c1 a2 c2 a3 c3)] w fun e w'=>e = .returned (.bool (isD m)) ∧ Below w.heap.size w w':=by
 obtain ⟨w1,hw1,hX,hb⟩:=xbr w 48 (msgC m a1 c1 a2 c2 a3 c3)
 replace sm:=sm.later hb
 have hk:1 ≤ m.kind ∧ m.kind ≤ 18:=by omega
 have hkd:decide (1 ≤ m.kind ∧ m.kind ≤ 18) = true:=decide_eq_true hk
 obtain ⟨kk,hkE⟩:∃ k,m.kind = k:=⟨_,rfl⟩
 rw [hkE] at hkk
 have x0:=hX.mc_kind
 rw [hkE] at x0
 have n1:¬ (kk:Int) < 1:=by omega
 have n2:¬ (18:Int) < (kk:Int):=by omega
 replace hkE:Hid _:=hkE
 replace hkk:Hid _:=hkk
 replace hkd:Hid _:=hkd
 replace hk:Hid _:=hk
 have hms:Hid (m.src < 256 ∧ m.dst < 256 ∧ m.epoch < 4294967296 ∧ m.group < 256):=⟨hm.src,hm.dst,hm.epoch,hm.group⟩
 go_enter Tryz.func14,Tryz.ntmps14
 go_wp2_with (first
  | (refine xab (by rfl) 48 _ rfl w.heap.size rfl 48 (msgC m a1 c1 a2 c2 a3 c3) _ Tryz.underlying48 rfl (xah m a1 a2 a3 c1 c2 c3) ?hg ?_;(case hg=>exact hX))
  | fail)
 refine (ends_any m a1 a2 a3 c1 c2 c3 _ hk.out).mono ?_
 rintro e w2 ⟨rfl,hq⟩
 clear hw1
 replace hX:=hX.later hq
 replace sm:=sm.later hq
 replace hb:=hb.trans (hq.mono hb.size)
 have y_src:=hX.mc_src
 have y_dst:=hX.mc_dst
 clear hq x0
 have hI0:isD m = (decide (1 ≤ m.kind ∧ m.kind ≤ 18) && (endsD m.kind m.src m.dst && (decide (m.src ≠ m.dst) && (zeroD (restD m) && condD m)))):=rfl
 rw [hkd.out] at hI0
 cases hE:endsD m.kind m.src m.dst with
 | false =>
  have hD:Hid (isD m = false):=by show _ = _;rw [hI0,hE];rfl
  go_wp2
  go_ret
  exact ⟨by rw [hD.out];rfl,hb⟩
 | true =>
 rw [hE] at hI0
 have hE':Hid _:=hE
 clear hE
 by_cases hsd:m.src = m.dst
 ·have hD:Hid (isD m = false):=by show _ = _;rw [hI0,decide_eq_false (by simpa using hsd)];rfl
  have hsI:(m.src:Int) = (m.dst:Int):=by omega
  have hsB:((m.src:Int) == (m.dst:Int)) = true:=by simp;omega
  clear hsd
  go_wp2
  go_ret
  exact ⟨by rw [hD.out];rfl,hb⟩
 have hsI:¬ (m.src:Int) = (m.dst:Int):=by omega
 have hsB:((m.src:Int) == (m.dst:Int)) = false:=by simp;omega
 rw [decide_eq_true hsd] at hI0
 clear hsd
 go_wp2_with (first
  | (refine xab (by rfl) 48 _ rfl w.heap.size rfl 48 (msgC m a1 c1 a2 c2 a3 c3) _ Tryz.underlying48 rfl (xah m a1 a2 a3 c1 c2 c3) ?hg ?_;(case hg=>exact hX))
  | fail)
 refine (rest_any m a1 a2 a3 c1 c2 c3 _ hk.out sm).mono ?_
 rintro e w3 ⟨b1,d1,b2,d2,b3,d3,rfl,sr,hq⟩
 replace hX:=hX.later hq
 replace sm:=sm.later hq
 replace hb:=hb.trans (hq.mono hb.size)
 clear hq y_src y_dst
 go_wp2_with fail
 refine (zero_any (restD m) b1 b2 b3 d1 d2 d3 _ (rest_ok hm) sr).mono ?_
 rintro e w4 ⟨rfl,hq⟩
 replace hX:=hX.later hq
 replace sm:=sm.later hq
 replace hb:=hb.trans (hq.mono hb.size)
 clear hq sr hsI hsB
 cases hZ:zeroD (restD m) with
 | false =>
  have hD:Hid (isD m = false):=by show _ = _;rw [hI0,hZ];rfl
  clear hZ
  go_wp2
  go_ret
  exact ⟨by rw [hD.out];rfl,hb⟩
 | true =>
 rw [hZ] at hI0
 have hI:Hid (isD m = condD m):=hI0
 clear hI0 hZ
 obtain ⟨w9,hw9⟩:∃ W,W = w4:=⟨_,rfl⟩
 subst hw9
 have y_epoch:=hX.mc_epoch
 obtain ⟨sl,h_sl⟩:∃ b,slotD m = b:=⟨_,rfl⟩
 obtain ⟨ep,h_ep⟩:∃ b,epD m = b:=⟨_,rfl⟩
 obtain ⟨gr,h_gr⟩:∃ b,grpD m = b:=⟨_,rfl⟩
 go_upto_region 3 with fail
 go_cut [3] from 33 to 40 (fun s3 wc=>s3 = .bool sl ∧ wc = w9)
 case first =>
  by_cases e1:2 ≤ m.epoch
  ·have e1I:(2:Int) ≤ (m.epoch:Int):=by omega
   by_cases e2:m.epoch ≤ 60
   ·have e2I:(m.epoch:Int) ≤ 60:=by omega
    obtain rfl:sl = true:=by rw [← h_sl];unfold slotD;rw [decide_eq_true e1,decide_eq_true e2];rfl
    clear h_sl e1 e2
    go_wp2
    go_meet
    exact ⟨rfl,rfl⟩
   ·have e2I:¬ (m.epoch:Int) ≤ 60:=by omega
    obtain rfl:sl = false:=by rw [← h_sl];unfold slotD;rw [decide_eq_false e2,Bool.and_false]
    clear h_sl e1 e2
    go_wp2
    go_meet
    exact ⟨rfl,rfl⟩
  ·have e1I:¬ (2:Int) ≤ (m.epoch:Int):=by omega
   obtain rfl:sl = false:=by rw [← h_sl];unfold slotD;rw [decide_eq_false e1,Bool.false_and]
   clear h_sl e1
   go_wp2
   go_meet
   exact ⟨rfl,rfl⟩
 case rest =>
 obtain ⟨rfl,rfl⟩:=hcut
 go_upto_region 4 with fail
 go_cut [4] from 41 to 48 (fun s4 wx=>s4 = .bool ep ∧ wx = wc)
 case first =>
  by_cases e1:1 ≤ m.epoch
  ·have e1I:(1:Int) ≤ (m.epoch:Int):=by omega
   by_cases e2:m.epoch ≤ 60
   ·have e2I:(m.epoch:Int) ≤ 60:=by omega
    obtain rfl:ep = true:=by rw [← h_ep];unfold epD;rw [decide_eq_true e1,decide_eq_true e2];rfl
    clear h_ep e1 e2
    go_wp2
    go_meet
    exact ⟨rfl,rfl⟩
   ·have e2I:¬ (m.epoch:Int) ≤ 60:=by omega
    obtain rfl:ep = false:=by rw [← h_ep];unfold epD;rw [decide_eq_false e2,Bool.and_false]
    clear h_ep e1 e2
    go_wp2
    go_meet
    exact ⟨rfl,rfl⟩
  ·have e1I:¬ (1:Int) ≤ (m.epoch:Int):=by omega
   obtain rfl:ep = false:=by rw [← h_ep];unfold epD;rw [decide_eq_false e1,Bool.false_and]
   clear h_ep e1
   go_wp2
   go_meet
   exact ⟨rfl,rfl⟩
 case rest =>
 rename_i wc0 _ _
 obtain ⟨rfl,rfl⟩:=hcut
 clear y_epoch
 have y_group:=hX.mc_group
 go_upto_region 5 with fail
 go_cut [5] from 49 to 54 (fun s5 wy=>s5 = .bool gr ∧ wy = wc)
 case first =>
  cases ep with
  | false =>
   obtain rfl:gr = false:=by rw [← h_gr];unfold grpD;rw [h_ep,Bool.false_and]
   go_wp2
   go_meet
   exact ⟨rfl,rfl⟩
  | true =>
   by_cases e1:m.group < 4
   ·have e1I:(m.group:Int) < 4:=by omega
    obtain rfl:gr = true:=by rw [← h_gr];unfold grpD;rw [h_ep,decide_eq_true e1];rfl
    clear h_gr e1
    go_wp2
    go_meet
    exact ⟨rfl,rfl⟩
   ·have e1I:¬ (m.group:Int) < 4:=by omega
    obtain rfl:gr = false:=by rw [← h_gr];unfold grpD;rw [decide_eq_false e1,Bool.and_false]
    clear h_gr e1
    go_wp2
    go_meet
    exact ⟨rfl,rfl⟩
 case rest =>
 obtain ⟨rfl,rfl⟩:=hcut
 clear y_group
 have x0:=hX.mc_kind
 rw [hkE.out] at x0
 rcases hkk.out with rfl
 ·replace hkE:=hkE.out
  clear hkk hkd hk n1 n2
  have y_opclient:=hX.mc_opclient
  have y_dst:=hX.mc_dst
  have y_rcode:=hX.mc_rcode
  have y_rstr:=hX.mc_rstr
  obtain ⟨m1,m2,-,-⟩:=hms.out
  have hE1:=hE'.out
  rw [hkE] at hE1
  unfold endsD at hE1
  simp [osdD,cliD] at hE1
  have hcl:=hm.op.client
  go_wp2_with (first
   | (refine xae (by rfl) 39 _ rfl w.heap.size 123 rfl (opL m.op) _ ?hc Tryz.underlying39 rfl (xca m.op) ?_;(case hc=>exact hX.m_op))
   | fail)
  refine (xga m.op _ hm.op).mono ?_
  rintro en w21 ⟨rfl,hq⟩
  replace hX:=hX.later hq
  replace sm:=sm.later hq
  replace hb:=hb.trans (hq.mono hb.size)
  clear hq
  replace y_opclient:=hX.mc_opclient
  replace y_dst:=hX.mc_dst
  replace y_rcode:=hX.mc_rcode
  replace y_rstr:=hX.mc_rstr
  cases hb_1:isOpM m.op with
  | false =>
   have hD:Hid (isD m = false):=by show _ = _;rw [hI.out];unfold condD;simp [hkE,hb_1]
   clear hb_1
   go_wp2
   go_ret
   exact ⟨by rw [hD.out];rfl,hb⟩
  | true =>
   by_cases hn_2:m.op.client = (m.dst + 236) % 256
   ·have f2_0:((m.op.client:Int) == (m.dst:Int) - 20) = true:=by simp;omega
    have f2_0a:((m.op.client:Int) = (m.dst:Int) - 20):=by omega
    by_cases hn_3:m.r.code ≤ 3
    ·have f3_0:((m.r.code:Int) ≤ 3):=by omega
     by_cases hn_4:m.r.data.length ≤ 80
     ·have f4_0z:=xde m.r.data
      have f4_0:((m.r.data.length:Nat):Int) ≤ 80:=by omega
      have hD:Hid (isD m = true):=by show _ = _;rw [hI.out];unfold condD;simp [hkE,hb_1,hn_2,hn_3,hn_4]
      clear hb_1 hn_2 hn_3 hn_4
      go_wp2
      go_ret
      exact ⟨by rw [hD.out];rfl,hb⟩
     ·have f4_0z:=xde m.r.data
      have f4_0:¬ ((m.r.data.length:Nat):Int) ≤ 80:=by omega
      have hD:Hid (isD m = false):=by show _ = _;rw [hI.out];unfold condD;simp [hkE,hb_1,hn_2,hn_3,hn_4]
      clear hb_1 hn_2 hn_3 hn_4
      go_wp2
      go_ret
      exact ⟨by rw [hD.out];exact congrArg (fun b=>Ending.returned (Value.bool b)) (decide_eq_false (by omega:¬ ((m.r.data.length:Nat):Int) ≤ 80)),hb⟩
    ·have f3_0:¬ ((m.r.code:Int) ≤ 3):=by omega
     have hD:Hid (isD m = false):=by show _ = _;rw [hI.out];unfold condD;simp [hkE,hb_1,hn_2,hn_3]
     clear hb_1 hn_2 hn_3
     go_wp2
     go_ret
     exact ⟨by rw [hD.out];rfl,hb⟩
   ·have f2_0:((m.op.client:Int) == (m.dst:Int) - 20) = false:=by simp;omega
    have f2_0a:¬ ((m.op.client:Int) = (m.dst:Int) - 20):=by omega
    have hD:Hid (isD m = false):=by show _ = _;rw [hI.out];unfold condD;simp [hkE,hb_1,hn_2]
    clear hb_1 hn_2
    go_wp2
    go_ret
    exact ⟨by rw [hD.out];rfl,hb⟩

set_option maxHeartbeats 4000000 in
theorem docis_out (m:MsgV) (a1 a2 a3:Option Addr) (c1 c2 c3:Nat) (w:World) (hk:¬ (1 ≤ m.kind ∧ m.kind ≤ 18)) :
  Calls Tryz.prog 14 #[.agg (msgC m a1 c1 a2 c2 a3 c3)] w fun e w'=>e = .returned (.bool (isD m)) ∧ Below w.heap.size w w':=by
 obtain ⟨w1,hw1,hX,hb⟩:=xbr w 48 (msgC m a1 c1 a2 c2 a3 c3)
 have hD:Hid (isD m = false):=by
  show _ = _
  have h:isD m = (decide (1 ≤ m.kind ∧ m.kind ≤ 18) && (endsD m.kind m.src m.dst && (decide (m.src ≠ m.dst) && (zeroD (restD m) && condD m)))):=rfl
  rw [h,decide_eq_false hk,Bool.false_and]
 have x0:=hX.mc_kind
 go_enter Tryz.func14,Tryz.ntmps14
 by_cases h1:m.kind < 1
 ·have n1:(m.kind:Int) < 1:=by omega
  clear hk h1
  go_wp2
  go_ret
  exact ⟨by rw [hD.out];rfl,hb⟩
 ·have n1:¬ (m.kind:Int) < 1:=by omega
  have n2:(18:Int) < (m.kind:Int):=by omega
  clear hk h1
  go_wp2
  go_ret
  exact ⟨by rw [hD.out];rfl,hb⟩
theorem xfp (m:MsgV) (a1 a2 a3:Option Addr) (c1 c2 c3:Nat) (w:World) (hm:MsgOk m) (sm:MsgSl w m a1 c1 a2 c2 a3 c3) :
  Calls Tryz.prog 14 #[.agg (msgC m a1 c1 a2 c2 a3 c3)] w fun e w'=>e = .returned (.bool (isMsg m)) ∧ Below w.heap.size w w':=by
 rw [← isD_is m hm]
 by_cases hk:1 ≤ m.kind ∧ m.kind ≤ 18
 ·have h:(m.kind = 1 ∨ m.kind = 4 ∨ m.kind = 18 ∨ m.kind = 3) ∨ m.kind = 2 ∨ (m.kind = 5 ∨ m.kind = 6 ∨ m.kind = 7 ∨ m.kind = 10 ∨ m.kind = 12 ∨ m.kind = 8) ∨ (m.kind = 9 ∨ m.kind = 11 ∨ m.kind = 13 ∨ m.kind = 14) ∨ (m.kind = 15 ∨ m.kind = 17) ∨ m.kind = 16:=by omega
  rcases h with h | h | h | h | h | h
  ·exact docis_A m a1 a2 a3 c1 c2 c3 w hm h sm
  ·exact docis_B m a1 a2 a3 c1 c2 c3 w hm h sm
  ·exact docis_C m a1 a2 a3 c1 c2 c3 w hm h sm
  ·exact docis_D m a1 a2 a3 c1 c2 c3 w hm h sm
  ·exact docis_E m a1 a2 a3 c1 c2 c3 w hm h sm
  ·exact docis_F m a1 a2 a3 c1 c2 c3 w hm h sm
 ·exact docis_out m a1 a2 a3 c1 c2 c3 w hk
end Go.Proofs.YtecilienolabfaaGreatDoor
