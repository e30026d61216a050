/- The contracts of wire.isDiff, of what a shape asks. Written by tools/ffgen2.py. -/
import Derived.Test.YtecilienolabfaaGreatDoorWireForms
namespace Go.Proofs.YtecilienolabfaaGreatDoor
set_option linter.unusedSimpArgs false
set_option linter.unusedVariables false
set_option maxRecDepth 100000
open Go.RowKit
set_option maxHeartbeats 8000000 in
theorem isDiff_any (d:DiffV) (a2 a3:Option Addr) (c2 c3:Nat) (w:World) (hd:DiffOk d) (h:DiffSl w d a2 c2 a3 c3):Calls Tryz.prog 80 #[.agg (diffC d a2 c2 a3 c3)] w fun en w'=>en = .returned (.bool (xcq d)) ∧ Below w.heap.size w w':=by
 obtain ⟨w1,hw1,hX,hb⟩:=xbr w 46 (diffC d a2 c2 a3 c3)
 have x0:=hX.d_kind
 have x2:=hX.d_log
 replace h:=h.later hb
 by_cases k0:d.kind = 0
 ·have hM:Hid (xcq d = (!bearsM d && xfr d.whole)):=by show _ = _;unfold xcq;rw [if_pos k0]
  rw [k0] at x0
  clear k0
  go_enter Tryz.func80,Tryz.ntmps80
  go_wp2_with (first
   | ((with_reducible refine at_loa ?_);(with_reducible refine at_g0 ?_);refine xab (by rfl) 46 _ rfl w.heap.size rfl 46 (diffC d a2 c2 a3 c3) _ Tryz.underlying46 rfl (xdw _ _ _ _ _) ?hg ?_;(case hg=>exact hX)))
  refine (bears_any d a2 a3 c2 c3 _ hd).mono ?_
  rintro en w2 ⟨rfl,hq⟩
  replace hX:=hX.later hq
  replace h:=h.later hq
  replace hb:=hb.trans (hq.mono hb.size)
  clear hq x0 x2 hw1
  cases hc:bearsM d with
  | true =>
   rw [hc] at hM
   go_wp2
   go_ret
   exact ⟨by rw [hM.out];try rfl,hb⟩
  | false =>
   rw [hc] at hM
   go_wp2_with (first
    | ((with_reducible refine at_loa ?_);refine xae (by rfl) 44 _ rfl (w.heap.size) 3 rfl (stL d.whole a3 c3) _ ?hg Tryz.underlying44 rfl (xcg _ _ _) ?_;(case hg=>exact hX.d_whole)))
   refine (isEnds_any d.whole a3 c3 _ hd.whole h.whole).mono ?_
   rintro en w3 ⟨rfl,hq⟩
   replace hb:=hb.trans (hq.mono hb.size)
   clear hq
   go_wp2
   go_ret
   exact ⟨by rw [hM.out];try rfl,hb⟩
 ·by_cases k1:d.kind = 1
  ·have hM:Hid (xcq d = (isLgM d.log && xfr d.whole)):=by show _ = _;unfold xcq;rw [if_neg k0,if_pos k1]
   rw [k1] at x0
   clear k1 k0
   go_enter Tryz.func80,Tryz.ntmps80
   go_wp2_with fail
   refine (wisLog_any a2 c2 d.log _ h.log hd.log hd.len).mono ?_
   rintro en w2 ⟨rfl,hq⟩
   replace hX:=hX.later hq
   replace h:=h.later hq
   replace hb:=hb.trans (hq.mono hb.size)
   clear hq x0 x2 hw1
   cases hc:isLgM d.log with
   | false =>
    rw [hc] at hM
    go_wp2
    go_ret
    exact ⟨by rw [hM.out];try rfl,hb⟩
   | true =>
    rw [hc] at hM
    go_wp2_with (first
     | ((with_reducible refine at_loa ?_);refine xae (by rfl) 44 _ rfl (w.heap.size) 3 rfl (stL d.whole a3 c3) _ ?hg Tryz.underlying44 rfl (xcg _ _ _) ?_;(case hg=>exact hX.d_whole)))
    refine (isEnds_any d.whole a3 c3 _ hd.whole h.whole).mono ?_
    rintro en w3 ⟨rfl,hq⟩
    replace hb:=hb.trans (hq.mono hb.size)
    clear hq
    go_wp2
    go_ret
    exact ⟨by rw [hM.out];try rfl,hb⟩
  ·by_cases k2:d.kind = 2
   ·have hM:Hid (xcq d = (!bearsM d && isSt d.whole)):=by show _ = _;unfold xcq;rw [if_neg k0,if_neg k1,if_pos k2]
    rw [k2] at x0
    clear k2 k1 k0
    go_enter Tryz.func80,Tryz.ntmps80
    go_wp2_with (first
     | ((with_reducible refine at_loa ?_);(with_reducible refine at_g0 ?_);refine xab (by rfl) 46 _ rfl w.heap.size rfl 46 (diffC d a2 c2 a3 c3) _ Tryz.underlying46 rfl (xdw _ _ _ _ _) ?hg ?_;(case hg=>exact hX)))
    refine (bears_any d a2 a3 c2 c3 _ hd).mono ?_
    rintro en w2 ⟨rfl,hq⟩
    replace hX:=hX.later hq
    replace h:=h.later hq
    replace hb:=hb.trans (hq.mono hb.size)
    clear hq x0 x2 hw1
    cases hc:bearsM d with
    | true =>
     rw [hc] at hM
     go_wp2
     go_ret
     exact ⟨by rw [hM.out];try rfl,hb⟩
    | false =>
     rw [hc] at hM
     go_wp2_with (first
      | ((with_reducible refine at_loa ?_);refine xae (by rfl) 44 _ rfl (w.heap.size) 3 rfl (stL d.whole a3 c3) _ ?hg Tryz.underlying44 rfl (xcg _ _ _) ?_;(case hg=>exact hX.d_whole)))
     refine (is_any7 d.whole a3 c3 _ hd.whole h.whole).mono ?_
     rintro en w3 ⟨rfl,hq⟩
     replace hb:=hb.trans (hq.mono hb.size)
     clear hq
     go_wp2
     go_ret
     exact ⟨by rw [hM.out];try rfl,hb⟩
   ·have hM:Hid (xcq d = false):=by show _ = _;unfold xcq;rw [if_neg k0,if_neg k1,if_neg k2]
    have i0:(d.kind == 0) = false:=by simpa using k0
    have i1:(d.kind == 1) = false:=by simpa using k1
    have i2:(d.kind == 2) = false:=by simpa using k2
    go_enter Tryz.func80,Tryz.ntmps80
    go_wp2
    go_ret
    exact ⟨by rw [hM.out];try rfl,hb⟩
set_option maxHeartbeats 4000000 in
theorem fitsEpoch_any (s:ShV) (e:Nat) (w:World) (hs:s.least < 4294967296) (he:e < 4294967296):Calls Tryz.prog 77 #[.agg (shC s),.int .u32 (e:Nat)] w fun en w'=>en = .returned (.bool (xcv s e)) ∧ Below w.heap.size w w':=by
 obtain ⟨w1,hw1,hS,hb⟩:=xbr w 100 (shC s)
 have x2:w1.cell? ⟨w.heap.size,2,none⟩ = some (.int .u32 (s.least:Int)):=hS.cell 2
 by_cases h0:s.least = 0
 ·obtain ⟨c,hc⟩:∃ c,decide (e = 0) = c:=⟨_,rfl⟩
  have hM:Hid (xcv s e = c):=by show _ = _;unfold xcv;rw [if_pos h0,hc]
  have hv:((e:Int) == 0) = c:=by rw [← hc,Bool.eq_iff_iff];simp
  rw [h0] at x2
  clear h0 hc
  go_enter Tryz.func77,Tryz.ntmps77
  go_wp2
  go_ret
  exact ⟨by rw [hM.out];try rfl,hb⟩
 ·have i0:((s.least:Int) == 0) = false:=by simp;omega
  have j0:¬ (s.least:Int) = 0:=by omega
  by_cases h1:s.least ≤ e
  ·have i1:(e:Int) ≥ (s.least:Int):=by omega
   obtain ⟨c,hc⟩:∃ c,decide (e ≤ 60) = c:=⟨_,rfl⟩
   have hM:Hid (xcv s e = c):=by
    show _ = _
    unfold xcv
    rw [if_neg h0,← hc,Bool.eq_iff_iff]
    simp [h1]
   have hv:decide ((e:Int) ≤ 60) = c:=by rw [← hc,Bool.eq_iff_iff];simp;omega
   clear h0 h1 hc hs he
   go_enter Tryz.func77,Tryz.ntmps77
   go_wp2
   go_ret
   exact ⟨by rw [hM.out];try rfl,hb⟩
  ·have i1:¬ (e:Int) ≥ (s.least:Int):=by omega
   have hM:Hid (xcv s e = false):=by
    show _ = _
    unfold xcv
    rw [if_neg h0]
    exact decide_eq_false (fun h=>h1 h.1)
   clear h0 h1 hs he
   go_enter Tryz.func77,Tryz.ntmps77
   go_wp2
   go_ret
   exact ⟨by rw [hM.out];try rfl,hb⟩
structure ShOk (s:ShV):Prop where
 fr:s.fr < 8
 dst:s.dst < 8
 least:s.least < 4294967296
 bal:s.bal < 256
 mostN:s.mostN < 4294967296
 op:s.op < 256
theorem shape_ok (k:Nat):ShOk (shapeM k):=by
 unfold shapeM
 split <;> exact ⟨by decide,by decide,by decide,by decide,by decide,by decide⟩
set_option maxHeartbeats 4000000 in
theorem fitsBallot_any (s:ShV) (m:MsgV) (a1 a2 a3:Option Addr) (c1 c2 c3:Nat) (w:World) (hs:ShOk s) (hm:MsgOk m):Calls Tryz.prog 78 #[.agg (shC s),.agg (msgC m a1 c1 a2 c2 a3 c3)] w fun en w'=>en = .returned (.bool (xcp s m)) ∧ Below w.heap.size w w':=by
 obtain ⟨w1,hw1,hS,hX,hb⟩:=xbl w 100 48 (shC s) (msgC m a1 c1 a2 c2 a3 c3)
 have hM:Hid (xcp s m = (decide (s.bal = 0) || (isB m.b && ownsM s.bal m.b.who m))):=rfl
 have x3:w1.cell? ⟨w.heap.size,3,none⟩ = some (.int .u8 (s.bal:Int)):=hS.cell 3
 by_cases h0:s.bal = 0
 ·rw [h0] at x3
  have hF:Hid (xcp s m = true):=by show _ = _;rw [hM.out,h0];rfl
  clear h0
  go_enter Tryz.func78,Tryz.ntmps78
  go_wp2
  go_ret
  exact ⟨by rw [hF.out];try rfl,hb⟩
 ·have i0:((s.bal:Int) == 0) = false:=by simp;omega
  have j0:¬ (s.bal:Int) = 0:=by omega
  replace hM:Hid (xcp s m = (isB m.b && ownsM s.bal m.b.who m)):=by show _ = _;rw [hM.out,decide_eq_false h0];rfl
  have xb:=hX.m_b
  go_enter Tryz.func78,Tryz.ntmps78
  go_wp2_with (first
   | ((with_reducible refine at_gr 3 false ?_);(with_reducible refine at_loa ?_);refine xae (by rfl) 24 _ rfl (w.heap.size + 1) 4 rfl ((balC m.b).toList) _ ?hg Tryz.underlying24 rfl (xbx _) ?_;(case hg=>exact xb)))
  refine (isBallot_any m.b _ hm.b).mono ?_
  rintro en w2 ⟨rfl,hq⟩
  replace hS:=hS.later hq
  replace hX:=hX.later hq
  replace hb:=hb.trans (hq.mono hb.size)
  clear hq
  have y3:w2.cell? ⟨w.heap.size,3,none⟩ = some (.int .u8 (s.bal:Int)):=hS.cell 3
  have y5:=hX.mc_bwho
  clear x3 xb hw1
  cases hc:isB m.b with
  | false =>
   rw [hc] at hM
   go_wp2
   go_ret
   exact ⟨by rw [hM.out];try rfl,hb⟩
  | true =>
   rw [hc] at hM
   go_wp2_with (first
    | ((with_reducible refine at_loa ?_);refine xab (by rfl) 48 _ rfl (w.heap.size + 1) rfl 48 (msgC m a1 c1 a2 c2 a3 c3) _ Tryz.underlying48 rfl (xah _ _ _ _ _ _ _) ?hg ?_;(case hg=>exact hX)))
   refine (owns_any s.bal m.b.who m a1 a2 a3 c1 c2 c3 _ hs.bal hm.b.who hm).mono ?_
   rintro en w3 ⟨rfl,hq⟩
   replace hb:=hb.trans (hq.mono hb.size)
   clear hq
   go_wp2
   go_ret
   exact ⟨by rw [hM.out];try rfl,hb⟩
set_option maxHeartbeats 4000000 in
theorem fitsValue_any (s:ShV) (m:MsgV) (a1 a2 a3:Option Addr) (c1 c2 c3:Nat) (w:World) (hs:ShOk s) (hm:MsgOk m):Calls Tryz.prog 79 #[.agg (shC s),.agg (msgC m a1 c1 a2 c2 a3 c3)] w fun en w'=>en = .returned (.bool (xcj s m)) ∧ Below w.heap.size w w':=by
 obtain ⟨w1,hw1,hS,hX,hb⟩:=xbl w 100 48 (shC s) (msgC m a1 c1 a2 c2 a3 c3)
 have hM:xcj s m = (if s.inc = false then true else if s.pro = false then isInc m.inc else if m.has = true then isB m.acc && isInc m.inc else xcr m.acc bal0 && xea m.inc inc0):=rfl
 have x4:w1.cell? ⟨w.heap.size,4,none⟩ = some (.bool s.pro):=hS.cell 4
 have x5:w1.cell? ⟨w.heap.size,5,none⟩ = some (.bool s.inc):=hS.cell 5
 have xh:=hX.mc_has
 have xa:=hX.m_acc
 have xi:=hX.m_inc
 cases hi:s.inc with
 | false =>
  rw [hi] at hM x5
  replace hM:Hid _:=hM
  go_enter Tryz.func79,Tryz.ntmps79
  go_wp2
  go_ret
  exact ⟨by rw [hM.out];try rfl,hb⟩
 | true =>
  rw [hi] at hM x5
  cases hp:s.pro with
  | false =>
   rw [hp] at hM x4
   replace hM:Hid _:=hM
   go_enter Tryz.func79,Tryz.ntmps79
   go_wp2_with (first
    | ((with_reducible refine at_loa ?_);refine xae (by rfl) 26 _ rfl (w.heap.size + 1) 9 rfl ((incC m.inc).toList) _ ?hg Tryz.underlying26 rfl (ws_inc _) ?_;(case hg=>exact xi)))
   refine (isinc_any m.inc _ hm.inc).mono ?_
   rintro en w2 ⟨rfl,hq⟩
   replace hb:=hb.trans (hq.mono hb.size)
   clear hq
   go_wp2
   go_ret
   exact ⟨by rw [hM.out];try rfl,hb⟩
  | true =>
   rw [hp] at hM x4
   cases hh:m.has with
   | true =>
    rw [hh] at hM xh
    replace hM:Hid (xcj s m = (isB m.acc && isInc m.inc)):=hM
    go_enter Tryz.func79,Tryz.ntmps79
    go_wp2_with (first
     | ((with_reducible refine at_g0 ?_);(with_reducible refine at_loa ?_);refine xae (by rfl) 24 _ rfl (w.heap.size + 1) 6 rfl ((balC m.acc).toList) _ ?hg Tryz.underlying24 rfl (xbx _) ?_;(case hg=>exact xa)))
    refine (isBallot_any m.acc _ hm.acc).mono ?_
    rintro en w2 ⟨rfl,hq⟩
    replace hX:=hX.later hq
    replace hb:=hb.trans (hq.mono hb.size)
    have xi2:=hX.m_inc
    clear hq xi xa x4 x5 xh hw1
    cases hc:isB m.acc with
    | false =>
     rw [hc] at hM
     go_wp2
     go_ret
     exact ⟨by rw [hM.out];try rfl,hb⟩
    | true =>
     rw [hc] at hM
     go_wp2_with (first
      | ((with_reducible refine at_loa ?_);refine xae (by rfl) 26 _ rfl (w.heap.size + 1) 9 rfl ((incC m.inc).toList) _ ?hg Tryz.underlying26 rfl (ws_inc _) ?_;(case hg=>exact xi2)))
     refine (isinc_any m.inc _ hm.inc).mono ?_
     rintro en w3 ⟨rfl,hq⟩
     replace hb:=hb.trans (hq.mono hb.size)
     clear hq
     go_wp2
     go_ret
     exact ⟨by rw [hM.out];try rfl,hb⟩
   | false =>
    rw [hh] at hM xh
    have eb:=eq_bal m.acc bal0 hm.acc xhn w1
    have ei:=eq_inc m.inc inc0 hm.inc inc0_ok w1
    obtain ⟨cb,hcb⟩:∃ c,xcr m.acc bal0 = c:=⟨_,rfl⟩
    obtain ⟨ci,hci⟩:∃ c,xea m.inc inc0 = c:=⟨_,rfl⟩
    rw [hcb] at eb hM
    rw [hci] at ei hM
    replace eb:Hid _:=eb
    replace ei:Hid _:=ei
    replace hM:Hid (xcj s m = (cb && ci)):=hM
    clear hcb hci
    go_enter Tryz.func79,Tryz.ntmps79
    go_upto_region 7 with fail
    refine wp_region_list ?_
    show wpList Tryz.prog _ _ [_,_,_,_,_,_,_,_,_,_,_] _ _
    refine xaf _ (.inl ⟨by rfl,fun W hS=>by subst hS;go_simp;try with_reducible rfl⟩) ?_
    try simp only [qp,qa,qb,qc]
    refine xaf (.agg ((balC m.acc).toList).toArray) (xaj (by rfl) 24 _ rfl (w.heap.size + 1) 6 rfl ((balC m.acc).toList) _ Tryz.underlying24 rfl (xbx m.acc) (fun W hS=>by subst hS;exact xa)) ?_
    try simp only [qp,qa,qb,qc]
    refine xaf _ (xat (by rfl) 24 [] rfl [] rfl (balC bal0) bal_built0) ?_
    try simp only [qp,qa,qb,qc]
    refine xaf (.bool cb) (.inl ⟨by rfl,fun W hW=>by subst hW;exact xhc .eql 24 _ _ _ rfl (balC m.acc) (balC bal0) rfl rfl (.bool cb) xfn eb.out⟩) ?_
    try simp only [qp,qa,qb,qc]
    refine xaf _ (.inl ⟨by rfl,fun W hS=>by subst hS;go_simp;try with_reducible rfl⟩) ?_
    try simp only [qp,qa,qb,qc]
    cases cb with
    | false =>
     refine xbj 4 false (by kernel_rfl) (fun a' h1 h2=>?_)
     go_wp2
     refine bodyPost_ret (results_tmp rfl _ _ _) h2 ?_
     rw [h1]
     exact ⟨by rw [hM.out];try rfl,hb⟩
    | true =>
    refine xaf _ (.inl ⟨by rfl,fun W hS=>by subst hS;go_simp;try with_reducible rfl⟩) ?_
    try simp only [qp,qa,qb,qc]
    refine xaf (.agg ((incC m.inc).toList).toArray) (xaj (by rfl) 26 _ rfl (w.heap.size + 1) 9 rfl ((incC m.inc).toList) _ Tryz.underlying26 rfl (ws_inc m.inc) (fun W hS=>by subst hS;exact xi)) ?_
    try simp only [qp,qa,qb,qc]
    refine xaf _ (xat (by rfl) 26 [] rfl [] rfl (incC inc0) inc_built0) ?_
    try simp only [qp,qa,qb,qc]
    refine xaf (.bool ci) (.inl ⟨by rfl,fun W hW=>by subst hW;exact xhc .eql 26 _ _ _ rfl (incC m.inc) (incC inc0) rfl rfl (.bool ci) guard_inc ei.out⟩) ?_
    try simp only [qp,qa,qb,qc]
    iterate 2
     refine xaf _ (.inl ⟨by rfl,fun W hS=>by subst hS;go_simp;try with_reducible rfl⟩) ?_
     try simp only [qp,qa,qb,qc]
    refine wpList_nil ?_
    go_wp2
    go_ret
    exact ⟨by rw [hM.out];try rfl,hb⟩
theorem run_add20 {P:Program} {o:Oper} {ev:Operand → Value} (ty ty':TypeId) (x y:Operand) (ho:o.op = .binOp .add ty x y ty') (n k:Nat) (hx:ev x = .int .u8 20) (hy:ev y = .int .u8 (n:Int)) (hn:n < 256) (hk:(20 + n) % 256 = k) (w:World) :
  (execOp ev o).run P w = .ok (.value (.int .u8 (k:Int))) w:=by
 have h4:IntKind.u8.wrap (20 + (n:Int)) = (k:Int):=by
  rw [IntKind.wrap_u8]
  omega
 unfold execOp
 simp only [ho,hx,hy]
 simp only [Sem.run_bind,go_sem,h4]
 simp [go_sem,h4]
set_option maxHeartbeats 4000000 in
theorem fitsOp_any (s:ShV) (m:MsgV) (a1 a2 a3:Option Addr) (c1 c2 c3:Nat) (w:World) (hs:ShOk s) (hm:MsgOk m):Calls Tryz.prog 82 #[.agg (shC s),.agg (msgC m a1 c1 a2 c2 a3 c3)] w fun en w'=>en = .returned (.bool (xct s m)) ∧ Below w.heap.size w w':=by
 obtain ⟨w1,hw1,hS,hX,hb⟩:=xbl w 100 48 (shC s) (msgC m a1 c1 a2 c2 a3 c3)
 have hM:xct s m = (if s.op = 0 then true else if s.op = 3 then isOpM m.op && decide (m.op.kind = 5) else isOpM m.op && ownsM s.op ((20 + m.op.client) % 256) m):=rfl
 have x11:w1.cell? ⟨w.heap.size,11,none⟩ = some (.int .u8 (s.op:Int)):=hS.cell 11
 have xo:=hX.m_op
 by_cases h0:s.op = 0
 ·rw [h0] at hM x11
  replace hM:Hid (xct s m = true):=hM
  clear h0
  go_enter Tryz.func82,Tryz.ntmps82
  go_wp2
  go_ret
  exact ⟨by rw [hM.out];try rfl,hb⟩
 ·by_cases h3:s.op = 3
  ·rw [h3] at hM x11
   replace hM:Hid (xct s m = (isOpM m.op && decide (m.op.kind = 5))):=hM
   clear h3 h0
   go_enter Tryz.func82,Tryz.ntmps82
   go_wp2_with (first
    | ((with_reducible refine at_g0 ?_);(with_reducible refine at_loa ?_);refine xae (by rfl) 39 _ rfl (w.heap.size + 1) 123 rfl (opL m.op) _ ?hg Tryz.underlying39 rfl (xca _) ?_;(case hg=>exact xo)))
   refine (isop_any m.op _ hm.op).mono ?_
   rintro en w2 ⟨rfl,hq⟩
   replace hX:=hX.later hq
   replace hb:=hb.trans (hq.mono hb.size)
   have yk:=hX.mc_opkind
   clear hq xo x11 hw1
   cases hc:isOpM m.op with
   | false =>
    rw [hc] at hM
    go_wp2
    go_ret
    exact ⟨by rw [hM.out];try rfl,hb⟩
   | true =>
    rw [hc] at hM
    obtain ⟨c,hcc⟩:∃ c,decide (m.op.kind = 5) = c:=⟨_,rfl⟩
    have hv:((m.op.kind:Int) == 5) = c:=by rw [← hcc,Bool.eq_iff_iff];simp;omega
    replace hM:Hid (xct s m = c):=hM.out.trans hcc
    clear hcc
    go_wp2
    go_ret
    exact ⟨by rw [hM.out];try rfl,hb⟩
  ·rw [if_neg h0,if_neg h3] at hM
   replace hM:Hid _:=hM
   have i0:((s.op:Int) == 0) = false:=by simp;omega
   have i3:((s.op:Int) == 3) = false:=by simp;omega
   have j0:¬ (s.op:Int) = 0:=by omega
   have j3:¬ (s.op:Int) = 3:=by omega
   clear h0 h3
   go_enter Tryz.func82,Tryz.ntmps82
   go_wp2_with (first
    | ((with_reducible refine at_g0 ?_);(with_reducible refine at_loa ?_);refine xae (by rfl) 39 _ rfl (w.heap.size + 1) 123 rfl (opL m.op) _ ?hg Tryz.underlying39 rfl (xca _) ?_;(case hg=>exact xo)))
   refine (isop_any m.op _ hm.op).mono ?_
   rintro en w2 ⟨rfl,hq⟩
   replace hS:=hS.later hq
   replace hX:=hX.later hq
   replace hb:=hb.trans (hq.mono hb.size)
   clear hq
   have yc:=hX.mc_opclient
   have y11:w2.cell? ⟨w.heap.size,11,none⟩ = some (.int .u8 (s.op:Int)):=hS.cell 11
   clear xo x11 hw1
   cases hc:isOpM m.op with
   | false =>
    rw [hc] at hM
    go_wp2
    go_ret
    exact ⟨by rw [hM.out];try rfl,hb⟩
   | true =>
    rw [hc] at hM
    obtain ⟨k,hk⟩:∃ k,(20 + m.op.client) % 256 = k:=⟨_,rfl⟩
    have hk2:k < 256:=by rw [← hk];exact Nat.mod_lt _ (by decide)
    rw [hk] at hM
    replace hk:Hid _:=hk
    have hcl:Hid _:=hm.op.client
    go_wp2_with (first
     | ((with_reducible refine at_bin ?_);refine xfs (.int .u8 (k:Int)) (by rfl) (fun W=>run_add20 _ _ _ _ rfl m.op.client k rfl rfl hcl.out hk.out W) ?_)
     | ((with_reducible refine at_loa ?_);refine xab (by rfl) 48 _ rfl (w.heap.size + 1) rfl 48 (msgC m a1 c1 a2 c2 a3 c3) _ Tryz.underlying48 rfl (xah _ _ _ _ _ _ _) ?hg ?_;(case hg=>exact hX)))
    refine (owns_any s.op k m a1 a2 a3 c1 c2 c3 _ hs.op hk2 hm).mono ?_
    rintro en w3 ⟨rfl,hq⟩
    replace hb:=hb.trans (hq.mono hb.size)
    clear hq hk2
    go_wp2
    go_ret
    exact ⟨by rw [hM.out];try rfl,hb⟩
end Go.Proofs.YtecilienolabfaaGreatDoor
