/- The contracts of wire.Same and sameDiff. Written by tools/fgen2.py. -/
import Derived.Test.YtecilienolabfaaGreatDoorWireMem
import Derived.Test.YtecilienolabfaaGreatDoorPackRun
import Derived.Deep.Cut
namespace Go.Proofs.YtecilienolabfaaGreatDoor
set_option linter.unusedSimpArgs false
set_option linter.unusedVariables false
set_option maxRecDepth 100000
open Go.RowKit
structure MsgSl (w:World) (m:MsgV) (a1:Option Addr) (c1:Nat) (a2:Option Addr) (c2:Nat) (a3:Option Addr) (c3:Nat):Prop where
 st:Sl w a1 c1 8 (entR m.st.log)
 log:Sl w a2 c2 8 (entR m.diff.log)
 whole:Sl w a3 c3 8 (entR m.diff.whole.log)
theorem MsgSl.later {w w':World} {m:MsgV} {a1 a2 a3:Option Addr} {c1 c2 c3:Nat} (h:MsgSl w m a1 c1 a2 c2 a3 c3) (hb:Below w.heap.size w w'):MsgSl w' m a1 c1 a2 c2 a3 c3:=⟨h.st.later hb,h.log.later hb,h.whole.later hb⟩
structure DiffSl (w:World) (d:DiffV) (a2:Option Addr) (c2:Nat) (a3:Option Addr) (c3:Nat):Prop where
 log:Sl w a2 c2 8 (entR d.log)
 whole:Sl w a3 c3 8 (entR d.whole.log)
theorem DiffSl.later {w w':World} {d:DiffV} {a2 a3:Option Addr} {c2 c3:Nat} (h:DiffSl w d a2 c2 a3 c3) (hb:Below w.heap.size w w'):DiffSl w' d a2 c2 a3 c3:=⟨h.log.later hb,h.whole.later hb⟩
set_option maxHeartbeats 8000000 in
theorem sameDiff_any (x y:DiffV) (a2 a3 b2 b3:Option Addr) (c2' c3' d2 d3:Nat) (w:World) (hx:DiffOk x) (hy:DiffOk y) (sx:DiffSl w x a2 c2' a3 c3') (sy:DiffSl w y b2 d2 b3 d3) :
  Calls Tryz.prog 52 #[.agg (diffC x a2 c2' a3 c3'),.agg (diffC y b2 d2 b3 d3)] w fun en w'=>en = .returned (.bool (xfw x y)) ∧ Below w.heap.size w w':=by
 obtain ⟨w1,hw1,hX,hY,hb⟩:=xbl w 46 46 (diffC x a2 c2' a3 c3') (diffC y b2 d2 b3 d3)
 have hM:xfw x y = (decide (x.kind = y.kind) && (decide (x.fr = y.fr) && (same tRows x.log y.log && same tSt x.whole y.whole))):=rfl
 replace sx:=sx.later hb
 replace sy:=sy.later hb
 obtain ⟨c1,hc1⟩:∃ c,decide (x.kind = y.kind) = c:=⟨_,rfl⟩
 have hv1:(x.kind == y.kind) = c1:=by rw [← hc1,Bool.eq_iff_iff];simp
 rw [hc1] at hM
 replace hc1:Hid _:=hc1
 obtain ⟨c2,hc2⟩:∃ c,decide (x.fr = y.fr) = c:=⟨_,rfl⟩
 have hv2:((x.fr:Int) == (y.fr:Int)) = c2:=by rw [← hc2,Bool.eq_iff_iff];simp;omega
 rw [hc2] at hM
 replace hc2:Hid _:=hc2
 obtain ⟨c3,hc3⟩:∃ c,same tRows x.log y.log = c:=⟨_,rfl⟩
 rw [hc3] at hM
 obtain ⟨c4,hc4⟩:∃ c,same tSt x.whole y.whole = c:=⟨_,rfl⟩
 rw [hc4] at hM
 replace hM:Hid _:=hM
 have x0:=hX.d_kind
 have y0:=hY.d_kind
 have x1:=hX.d_from
 have y1:=hY.d_from
 have x2:=hX.d_log
 have y2:=hY.d_log
 go_enter Tryz.func52,Tryz.ntmps52
 go_upto_region 1 with fail
 refine wp_region_list ?_
 show wpList Tryz.prog _ _ [_,_,_,_,_,_,_,_,_,_,_,_,_,_,_,_,_,_,_,_,_,_,_,_,_,_,_] _ _
 iterate 6
  refine xaf _ (.inl ⟨by rfl,fun W hS=>by subst hS;go_simp;try with_reducible rfl⟩) ?_
  try simp only [qp,qa,qb,qc]
 cases c1 with
 | false =>
  refine xbj 4 false (by kernel_rfl) (fun a' h1 h2=>?_)
  go_wp2
  refine bodyPost_ret (results_tmp rfl _ _ _) h2 ?_
  rw [h1]
  exact ⟨by rw [hM.out];try rfl,hb⟩
 | true =>
 iterate 7
  refine xaf _ (.inl ⟨by rfl,fun W hS=>by subst hS;go_simp;try with_reducible rfl⟩) ?_
  try simp only [qp,qa,qb,qc]
 cases c2 with
 | false =>
  refine xbj 4 false (by kernel_rfl) (fun a' h1 h2=>?_)
  go_wp2
  refine bodyPost_ret (results_tmp rfl _ _ _) h2 ?_
  rw [h1]
  exact ⟨by rw [hM.out];try rfl,hb⟩
 | true =>
 iterate 4
  refine xaf _ (.inl ⟨by rfl,fun W hS=>by subst hS;go_simp;try with_reducible rfl⟩) ?_
  try simp only [qp,qa,qb,qc]
 refine xer (by rfl) (fun K hK=>?_)
 go_simp
 refine (equal_any7 a2 b2 c2' d2 x.log y.log _ sx.log sy.log hx.log hy.log).mono ?_
 rintro en w2 ⟨rfl,hq⟩
 refine hK.out _ _ ?_
 clear hK K
 try simp only [qp,qa,qb,qc]
 replace hX:=hX.later hq
 replace hY:=hY.later hq
 replace sx:=sx.later hq
 replace sy:=sy.later hq
 replace hb:=hb.trans (hq.mono hb.size)
 rw [hc3]
 clear hq x0 y0 x1 y1 x2 y2
 iterate 2
  refine xaf _ (.inl ⟨by rfl,fun W hS=>by subst hS;go_simp;try with_reducible rfl⟩) ?_
  try simp only [qp,qa,qb,qc]
 cases c3 with
 | false =>
  refine xbj 4 false (by kernel_rfl) (fun a' h1 h2=>?_)
  go_wp2
  refine bodyPost_ret (results_tmp rfl _ _ _) h2 ?_
  rw [h1]
  exact ⟨by rw [hM.out];try rfl,hb⟩
 | true =>
 refine xaf _ (.inl ⟨by rfl,fun W hS=>by subst hS;go_simp;try with_reducible rfl⟩) ?_
 try simp only [qp,qa,qb,qc]
 refine xaf (.agg (stL x.whole a3 c3').toArray) (xaj (by rfl) 44 _ rfl (w.heap.size) 3 rfl (stL x.whole a3 c3') _ Tryz.underlying44 rfl (xcg x.whole a3 c3') (fun W hS=>by subst hS;exact hX.d_whole)) ?_
 try simp only [qp,qa,qb,qc]
 refine xaf _ (.inl ⟨by rfl,fun W hS=>by subst hS;go_simp;try with_reducible rfl⟩) ?_
 try simp only [qp,qa,qb,qc]
 refine xaf (.agg (stL y.whole b3 d3).toArray) (xaj (by rfl) 44 _ rfl (w.heap.size + 1) 3 rfl (stL y.whole b3 d3) _ Tryz.underlying44 rfl (xcg y.whole b3 d3) (fun W hS=>by subst hS;exact hY.d_whole)) ?_
 try simp only [qp,qa,qb,qc]
 refine xer (by rfl) (fun K hK=>?_)
 go_simp
 refine (same_any x.whole y.whole a3 b3 c3' d3 _ hx.whole hy.whole sx.whole sy.whole).mono ?_
 rintro en w3 ⟨rfl,hq⟩
 refine hK.out _ _ ?_
 clear hK K
 try simp only [qp,qa,qb,qc]
 replace hb:=hb.trans (hq.mono hb.size)
 rw [hc4]
 clear hq
 iterate 2
  refine xaf _ (.inl ⟨by rfl,fun W hS=>by subst hS;go_simp;try with_reducible rfl⟩) ?_
  try simp only [qp,qa,qb,qc]
 refine wpList_nil ?_
 go_wp2
 go_ret
 exact ⟨by rw [hM.out];try rfl,hb⟩
set_option maxHeartbeats 16000000 in
theorem wsame_any (x y:MsgV) (a1 a2 a3 b1 b2 b3:Option Addr) (e1 e2 e3 d1 d2 d3:Nat) (w:World) (hx:MsgOk x) (hy:MsgOk y) (sx:MsgSl w x a1 e1 a2 e2 a3 e3) (sy:MsgSl w y b1 d1 b2 d2 b3 d3) :
  Calls Tryz.prog 15 #[.agg (msgC x a1 e1 a2 e2 a3 e3),.agg (msgC y b1 d1 b2 d2 b3 d3)] w fun en w'=>en = .returned (.bool (xej x y)) ∧ Below w.heap.size w w':=by
 obtain ⟨w1,hw1,hX,hY,hb⟩:=xbl w 48 48 (msgC x a1 e1 a2 e2 a3 e3) (msgC y b1 d1 b2 d2 b3 d3)
 have hM:xej x y = (decide (x.kind = y.kind) && (decide (x.src = y.src) && (decide (x.dst = y.dst) && (decide (x.epoch = y.epoch) && (xcr x.b y.b && (xcr x.acc y.acc && (decide (x.has = y.has) && (xea x.inc y.inc && (decide (x.group = y.group) && (same tSt x.st y.st && (xfw x.diff y.diff && (same tEnt x.ent y.ent && (decide (x.n = y.n) && (same tOp x.op y.op && same tRes x.r y.r)))))))))))))):=rfl
 replace sx:=sx.later hb
 replace sy:=sy.later hb
 obtain ⟨c1,hc1⟩:∃ c,decide (x.kind = y.kind) = c:=⟨_,rfl⟩
 have hv1:((x.kind:Int) == (y.kind:Int)) = c1:=by rw [← hc1,Bool.eq_iff_iff];simp;omega
 rw [hc1] at hM
 replace hc1:Hid _:=hc1
 obtain ⟨c2,hc2⟩:∃ c,decide (x.src = y.src) = c:=⟨_,rfl⟩
 have hv2:((x.src:Int) == (y.src:Int)) = c2:=by rw [← hc2,Bool.eq_iff_iff];simp;omega
 rw [hc2] at hM
 replace hc2:Hid _:=hc2
 obtain ⟨c3,hc3⟩:∃ c,decide (x.dst = y.dst) = c:=⟨_,rfl⟩
 have hv3:((x.dst:Int) == (y.dst:Int)) = c3:=by rw [← hc3,Bool.eq_iff_iff];simp;omega
 rw [hc3] at hM
 replace hc3:Hid _:=hc3
 obtain ⟨c4,hc4⟩:∃ c,decide (x.epoch = y.epoch) = c:=⟨_,rfl⟩
 have hv4:((x.epoch:Int) == (y.epoch:Int)) = c4:=by rw [← hc4,Bool.eq_iff_iff];simp;omega
 rw [hc4] at hM
 replace hc4:Hid _:=hc4
 obtain ⟨c5,hc5⟩:∃ c,xcr x.b y.b = c:=⟨_,rfl⟩
 rw [hc5] at hM
 obtain ⟨c6,hc6⟩:∃ c,xcr x.acc y.acc = c:=⟨_,rfl⟩
 rw [hc6] at hM
 obtain ⟨c7,hc7⟩:∃ c,decide (x.has = y.has) = c:=⟨_,rfl⟩
 have hv7:(x.has == y.has) = c7:=by rw [← hc7,Bool.eq_iff_iff];simp
 rw [hc7] at hM
 replace hc7:Hid _:=hc7
 obtain ⟨c8,hc8⟩:∃ c,xea x.inc y.inc = c:=⟨_,rfl⟩
 rw [hc8] at hM
 obtain ⟨c9,hc9⟩:∃ c,decide (x.group = y.group) = c:=⟨_,rfl⟩
 have hv9:((x.group:Int) == (y.group:Int)) = c9:=by rw [← hc9,Bool.eq_iff_iff];simp;omega
 rw [hc9] at hM
 replace hc9:Hid _:=hc9
 obtain ⟨c10,hc10⟩:∃ c,same tSt x.st y.st = c:=⟨_,rfl⟩
 rw [hc10] at hM
 obtain ⟨c11,hc11⟩:∃ c,xfw x.diff y.diff = c:=⟨_,rfl⟩
 rw [hc11] at hM
 obtain ⟨c12,hc12⟩:∃ c,same tEnt x.ent y.ent = c:=⟨_,rfl⟩
 rw [hc12] at hM
 obtain ⟨c13,hc13⟩:∃ c,decide (x.n = y.n) = c:=⟨_,rfl⟩
 have hv13:((x.n:Int) == (y.n:Int)) = c13:=by rw [← hc13,Bool.eq_iff_iff];simp;omega
 rw [hc13] at hM
 replace hc13:Hid _:=hc13
 obtain ⟨c14,hc14⟩:∃ c,same tOp x.op y.op = c:=⟨_,rfl⟩
 rw [hc14] at hM
 obtain ⟨c15,hc15⟩:∃ c,same tRes x.r y.r = c:=⟨_,rfl⟩
 rw [hc15] at hM
 replace hc5:Hid _:=hc5
 replace hc6:Hid _:=hc6
 replace hc8:Hid _:=hc8
 replace hc10:Hid _:=hc10
 replace hc11:Hid _:=hc11
 replace hc12:Hid _:=hc12
 replace hc14:Hid _:=hc14
 replace hc15:Hid _:=hc15
 replace hM:Hid _:=hM
 have x_kind:=hX.mc_kind
 have y_kind:=hY.mc_kind
 have x_src:=hX.mc_src
 have y_src:=hY.mc_src
 have x_dst:=hX.mc_dst
 have y_dst:=hY.mc_dst
 have x_epoch:=hX.mc_epoch
 have y_epoch:=hY.mc_epoch
 have x_has:=hX.mc_has
 have y_has:=hY.mc_has
 have x_group:=hX.mc_group
 have y_group:=hY.mc_group
 go_enter Tryz.func15,Tryz.ntmps15
 go_upto_region 1 with fail
 refine wp_region_list ?_
 show wpList Tryz.prog _ _ [_,_,_,_,_,_,_,_,_,_,_,_,_,_,_,_,_,_,_,_,_,_,_,_,_,_,_,_,_,_,_,_,_,_,_,_,_,_,_,_,_,_,_,_,_,_,_,_,_,_,_,_,_,_,_,_,_,_,_,_,_,_,_,_,_,_,_,_,_,_,_,_,_,_,_,_,_,_,_,_,_,_,_,_,_,_,_,_,_,_,_,_,_,_,_,_,_,_,_,_,_,_,_,_] _ _
 iterate 6
  refine xaf _ (.inl ⟨by rfl,fun W hS=>by subst hS;go_simp;try with_reducible rfl⟩) ?_
  try simp only [qp,qa,qb,qc]
 cases c1 with
 | false =>
  refine xbj 4 false (by kernel_rfl) (fun a' h1 h2=>?_)
  go_wp2
  refine bodyPost_ret (results_tmp rfl _ _ _) h2 ?_
  rw [h1]
  exact ⟨by rw [hM.out];try rfl,hb⟩
 | true =>
 iterate 7
  refine xaf _ (.inl ⟨by rfl,fun W hS=>by subst hS;go_simp;try with_reducible rfl⟩) ?_
  try simp only [qp,qa,qb,qc]
 cases c2 with
 | false =>
  refine xbj 4 false (by kernel_rfl) (fun a' h1 h2=>?_)
  go_wp2
  refine bodyPost_ret (results_tmp rfl _ _ _) h2 ?_
  rw [h1]
  exact ⟨by rw [hM.out];try rfl,hb⟩
 | true =>
 iterate 7
  refine xaf _ (.inl ⟨by rfl,fun W hS=>by subst hS;go_simp;try with_reducible rfl⟩) ?_
  try simp only [qp,qa,qb,qc]
 cases c3 with
 | false =>
  refine xbj 4 false (by kernel_rfl) (fun a' h1 h2=>?_)
  go_wp2
  refine bodyPost_ret (results_tmp rfl _ _ _) h2 ?_
  rw [h1]
  exact ⟨by rw [hM.out];try rfl,hb⟩
 | true =>
 iterate 7
  refine xaf _ (.inl ⟨by rfl,fun W hS=>by subst hS;go_simp;try with_reducible rfl⟩) ?_
  try simp only [qp,qa,qb,qc]
 cases c4 with
 | false =>
  refine xbj 4 false (by kernel_rfl) (fun a' h1 h2=>?_)
  go_wp2
  refine bodyPost_ret (results_tmp rfl _ _ _) h2 ?_
  rw [h1]
  exact ⟨by rw [hM.out];try rfl,hb⟩
 | true =>
 refine xaf _ (.inl ⟨by rfl,fun W hS=>by subst hS;go_simp;try with_reducible rfl⟩) ?_
 try simp only [qp,qa,qb,qc]
 refine xaf (.agg ((balC x.b).toList).toArray) (xaj (by rfl) 24 _ rfl (w.heap.size) 4 rfl ((balC x.b).toList) _ Tryz.underlying24 rfl (xbx x.b) (fun W hS=>by subst hS;exact hX.m_b)) ?_
 try simp only [qp,qa,qb,qc]
 refine xaf _ (.inl ⟨by rfl,fun W hS=>by subst hS;go_simp;try with_reducible rfl⟩) ?_
 try simp only [qp,qa,qb,qc]
 refine xaf (.agg ((balC y.b).toList).toArray) (xaj (by rfl) 24 _ rfl (w.heap.size + 1) 4 rfl ((balC y.b).toList) _ Tryz.underlying24 rfl (xbx y.b) (fun W hS=>by subst hS;exact hY.m_b)) ?_
 try simp only [qp,qa,qb,qc]
 have eqw:Hid _:=fun W=>eq_bal x.b y.b hx.b hy.b W
 rw [hc5.out] at eqw
 refine xaf (.bool c5) (xbh (by rfl) .eql 24 _ _ _ rfl (balC x.b) (balC y.b) rfl rfl (.bool c5) xfn (fun W=>by rw [eqw.out W])) ?_
 try simp only [qp,qa,qb,qc]
 clear eqw
 iterate 2
  refine xaf _ (.inl ⟨by rfl,fun W hS=>by subst hS;go_simp;try with_reducible rfl⟩) ?_
  try simp only [qp,qa,qb,qc]
 cases c5 with
 | false =>
  refine xbj 4 false (by kernel_rfl) (fun a' h1 h2=>?_)
  go_wp2
  refine bodyPost_ret (results_tmp rfl _ _ _) h2 ?_
  rw [h1]
  exact ⟨by rw [hM.out];try rfl,hb⟩
 | true =>
 refine xaf _ (.inl ⟨by rfl,fun W hS=>by subst hS;go_simp;try with_reducible rfl⟩) ?_
 try simp only [qp,qa,qb,qc]
 refine xaf (.agg ((balC x.acc).toList).toArray) (xaj (by rfl) 24 _ rfl (w.heap.size) 6 rfl ((balC x.acc).toList) _ Tryz.underlying24 rfl (xbx x.acc) (fun W hS=>by subst hS;exact hX.m_acc)) ?_
 try simp only [qp,qa,qb,qc]
 refine xaf _ (.inl ⟨by rfl,fun W hS=>by subst hS;go_simp;try with_reducible rfl⟩) ?_
 try simp only [qp,qa,qb,qc]
 refine xaf (.agg ((balC y.acc).toList).toArray) (xaj (by rfl) 24 _ rfl (w.heap.size + 1) 6 rfl ((balC y.acc).toList) _ Tryz.underlying24 rfl (xbx y.acc) (fun W hS=>by subst hS;exact hY.m_acc)) ?_
 try simp only [qp,qa,qb,qc]
 have eqw:Hid _:=fun W=>eq_bal x.acc y.acc hx.acc hy.acc W
 rw [hc6.out] at eqw
 refine xaf (.bool c6) (xbh (by rfl) .eql 24 _ _ _ rfl (balC x.acc) (balC y.acc) rfl rfl (.bool c6) xfn (fun W=>by rw [eqw.out W])) ?_
 try simp only [qp,qa,qb,qc]
 clear eqw
 iterate 2
  refine xaf _ (.inl ⟨by rfl,fun W hS=>by subst hS;go_simp;try with_reducible rfl⟩) ?_
  try simp only [qp,qa,qb,qc]
 cases c6 with
 | false =>
  refine xbj 4 false (by kernel_rfl) (fun a' h1 h2=>?_)
  go_wp2
  refine bodyPost_ret (results_tmp rfl _ _ _) h2 ?_
  rw [h1]
  exact ⟨by rw [hM.out];try rfl,hb⟩
 | true =>
 iterate 7
  refine xaf _ (.inl ⟨by rfl,fun W hS=>by subst hS;go_simp;try with_reducible rfl⟩) ?_
  try simp only [qp,qa,qb,qc]
 cases c7 with
 | false =>
  refine xbj 4 false (by kernel_rfl) (fun a' h1 h2=>?_)
  go_wp2
  refine bodyPost_ret (results_tmp rfl _ _ _) h2 ?_
  rw [h1]
  exact ⟨by rw [hM.out];try rfl,hb⟩
 | true =>
 refine xaf _ (.inl ⟨by rfl,fun W hS=>by subst hS;go_simp;try with_reducible rfl⟩) ?_
 try simp only [qp,qa,qb,qc]
 refine xaf (.agg ((incC x.inc).toList).toArray) (xaj (by rfl) 26 _ rfl (w.heap.size) 9 rfl ((incC x.inc).toList) _ Tryz.underlying26 rfl (ws_inc x.inc) (fun W hS=>by subst hS;exact hX.m_inc)) ?_
 try simp only [qp,qa,qb,qc]
 refine xaf _ (.inl ⟨by rfl,fun W hS=>by subst hS;go_simp;try with_reducible rfl⟩) ?_
 try simp only [qp,qa,qb,qc]
 refine xaf (.agg ((incC y.inc).toList).toArray) (xaj (by rfl) 26 _ rfl (w.heap.size + 1) 9 rfl ((incC y.inc).toList) _ Tryz.underlying26 rfl (ws_inc y.inc) (fun W hS=>by subst hS;exact hY.m_inc)) ?_
 try simp only [qp,qa,qb,qc]
 have eqw:Hid _:=fun W=>eq_inc x.inc y.inc hx.inc hy.inc W
 rw [hc8.out] at eqw
 refine xaf (.bool c8) (xbh (by rfl) .eql 26 _ _ _ rfl (incC x.inc) (incC y.inc) rfl rfl (.bool c8) guard_inc (fun W=>by rw [eqw.out W])) ?_
 try simp only [qp,qa,qb,qc]
 clear eqw
 iterate 2
  refine xaf _ (.inl ⟨by rfl,fun W hS=>by subst hS;go_simp;try with_reducible rfl⟩) ?_
  try simp only [qp,qa,qb,qc]
 cases c8 with
 | false =>
  refine xbj 4 false (by kernel_rfl) (fun a' h1 h2=>?_)
  go_wp2
  refine bodyPost_ret (results_tmp rfl _ _ _) h2 ?_
  rw [h1]
  exact ⟨by rw [hM.out];try rfl,hb⟩
 | true =>
 iterate 7
  refine xaf _ (.inl ⟨by rfl,fun W hS=>by subst hS;go_simp;try with_reducible rfl⟩) ?_
  try simp only [qp,qa,qb,qc]
 cases c9 with
 | false =>
  refine xbj 4 false (by kernel_rfl) (fun a' h1 h2=>?_)
  go_wp2
  refine bodyPost_ret (results_tmp rfl _ _ _) h2 ?_
  rw [h1]
  exact ⟨by rw [hM.out];try rfl,hb⟩
 | true =>
 clear x_kind y_kind x_src y_src x_dst y_dst x_epoch y_epoch x_has y_has x_group y_group
 refine xaf _ (.inl ⟨by rfl,fun W hS=>by subst hS;go_simp;try with_reducible rfl⟩) ?_
 try simp only [qp,qa,qb,qc]
 refine xaf (.agg (stL x.st a1 e1).toArray) (xaj (by rfl) 44 _ rfl (w.heap.size) 13 rfl (stL x.st a1 e1) _ Tryz.underlying44 rfl (xcg x.st a1 e1) (fun W hS=>by subst hS;exact hX.m_st)) ?_
 try simp only [qp,qa,qb,qc]
 refine xaf _ (.inl ⟨by rfl,fun W hS=>by subst hS;go_simp;try with_reducible rfl⟩) ?_
 try simp only [qp,qa,qb,qc]
 refine xaf (.agg (stL y.st b1 d1).toArray) (xaj (by rfl) 44 _ rfl (w.heap.size + 1) 13 rfl (stL y.st b1 d1) _ Tryz.underlying44 rfl (xcg y.st b1 d1) (fun W hS=>by subst hS;exact hY.m_st)) ?_
 try simp only [qp,qa,qb,qc]
 refine xer (by rfl) (fun K hK=>?_)
 go_simp
 refine (same_any x.st y.st a1 b1 e1 d1 _ hx.st hy.st sx.st sy.st).mono ?_
 rintro en w2 ⟨rfl,hq⟩
 refine hK.out _ _ ?_
 clear hK K
 try simp only [qp,qa,qb,qc]
 replace hX:=hX.later hq
 replace hY:=hY.later hq
 replace sx:=sx.later hq
 replace sy:=sy.later hq
 replace hb:=hb.trans (hq.mono hb.size)
 rw [hc10.out]
 clear hq
 iterate 2
  refine xaf _ (.inl ⟨by rfl,fun W hS=>by subst hS;go_simp;try with_reducible rfl⟩) ?_
  try simp only [qp,qa,qb,qc]
 cases c10 with
 | false =>
  refine xbj 4 false (by kernel_rfl) (fun a' h1 h2=>?_)
  go_wp2
  refine bodyPost_ret (results_tmp rfl _ _ _) h2 ?_
  rw [h1]
  exact ⟨by rw [hM.out];try rfl,hb⟩
 | true =>
 refine xaf _ (.inl ⟨by rfl,fun W hS=>by subst hS;go_simp;try with_reducible rfl⟩) ?_
 try simp only [qp,qa,qb,qc]
 refine xaf (.agg (diffL x.diff a2 e2 a3 e3).toArray) (xaj (by rfl) 46 _ rfl (w.heap.size) 62 rfl (diffL x.diff a2 e2 a3 e3) _ Tryz.underlying46 rfl (xdw x.diff a2 a3 e2 e3) (fun W hS=>by subst hS;exact hX.m_diff)) ?_
 try simp only [qp,qa,qb,qc]
 refine xaf _ (.inl ⟨by rfl,fun W hS=>by subst hS;go_simp;try with_reducible rfl⟩) ?_
 try simp only [qp,qa,qb,qc]
 refine xaf (.agg (diffL y.diff b2 d2 b3 d3).toArray) (xaj (by rfl) 46 _ rfl (w.heap.size + 1) 62 rfl (diffL y.diff b2 d2 b3 d3) _ Tryz.underlying46 rfl (xdw y.diff b2 b3 d2 d3) (fun W hS=>by subst hS;exact hY.m_diff)) ?_
 try simp only [qp,qa,qb,qc]
 refine xer (by rfl) (fun K hK=>?_)
 go_simp
 refine (sameDiff_any x.diff y.diff a2 a3 b2 b3 e2 e3 d2 d3 _ hx.diff hy.diff ⟨sx.log,sx.whole⟩ ⟨sy.log,sy.whole⟩).mono ?_
 rintro en w3 ⟨rfl,hq⟩
 refine hK.out _ _ ?_
 clear hK K
 try simp only [qp,qa,qb,qc]
 replace hX:=hX.later hq
 replace hY:=hY.later hq
 replace sx:=sx.later hq
 replace sy:=sy.later hq
 replace hb:=hb.trans (hq.mono hb.size)
 rw [hc11.out]
 clear hq
 iterate 2
  refine xaf _ (.inl ⟨by rfl,fun W hS=>by subst hS;go_simp;try with_reducible rfl⟩) ?_
  try simp only [qp,qa,qb,qc]
 cases c11 with
 | false =>
  refine xbj 4 false (by kernel_rfl) (fun a' h1 h2=>?_)
  go_wp2
  refine bodyPost_ret (results_tmp rfl _ _ _) h2 ?_
  rw [h1]
  exact ⟨by rw [hM.out];try rfl,hb⟩
 | true =>
 refine xaf _ (.inl ⟨by rfl,fun W hS=>by subst hS;go_simp;try with_reducible rfl⟩) ?_
 try simp only [qp,qa,qb,qc]
 refine xaf (.agg (entL x.ent).toArray) (xaj (by rfl) 41 _ rfl (w.heap.size) 114 rfl (entL x.ent) _ Tryz.underlying41 rfl (xax x.ent) (fun W hS=>by subst hS;exact hX.m_ent)) ?_
 try simp only [qp,qa,qb,qc]
 refine xaf _ (.inl ⟨by rfl,fun W hS=>by subst hS;go_simp;try with_reducible rfl⟩) ?_
 try simp only [qp,qa,qb,qc]
 refine xaf (.agg (entL y.ent).toArray) (xaj (by rfl) 41 _ rfl (w.heap.size + 1) 114 rfl (entL y.ent) _ Tryz.underlying41 rfl (xax y.ent) (fun W hS=>by subst hS;exact hY.m_ent)) ?_
 try simp only [qp,qa,qb,qc]
 have eqw:Hid _:=fun W=>eqv_ent x.ent y.ent hx.ent hy.ent W
 rw [hc12.out] at eqw
 refine xaf (.bool c12) (xbh (by rfl) .eql 41 _ _ _ rfl (entC x.ent) (entC y.ent) rfl rfl (.bool c12) xdv (fun W=>by rw [eqw.out W])) ?_
 try simp only [qp,qa,qb,qc]
 clear eqw
 iterate 2
  refine xaf _ (.inl ⟨by rfl,fun W hS=>by subst hS;go_simp;try with_reducible rfl⟩) ?_
  try simp only [qp,qa,qb,qc]
 cases c12 with
 | false =>
  refine xbj 4 false (by kernel_rfl) (fun a' h1 h2=>?_)
  go_wp2
  refine bodyPost_ret (results_tmp rfl _ _ _) h2 ?_
  rw [h1]
  exact ⟨by rw [hM.out];try rfl,hb⟩
 | true =>
 have x_n:=hX.mc_n
 have y_n:=hY.mc_n
 iterate 7
  refine xaf _ (.inl ⟨by rfl,fun W hS=>by subst hS;go_simp;try with_reducible rfl⟩) ?_
  try simp only [qp,qa,qb,qc]
 cases c13 with
 | false =>
  refine xbj 4 false (by kernel_rfl) (fun a' h1 h2=>?_)
  go_wp2
  refine bodyPost_ret (results_tmp rfl _ _ _) h2 ?_
  rw [h1]
  exact ⟨by rw [hM.out];try rfl,hb⟩
 | true =>
 refine xaf _ (.inl ⟨by rfl,fun W hS=>by subst hS;go_simp;try with_reducible rfl⟩) ?_
 try simp only [qp,qa,qb,qc]
 refine xaf (.agg (opL x.op).toArray) (xaj (by rfl) 39 _ rfl (w.heap.size) 123 rfl (opL x.op) _ Tryz.underlying39 rfl (xca x.op) (fun W hS=>by subst hS;exact hX.m_op)) ?_
 try simp only [qp,qa,qb,qc]
 refine xaf _ (.inl ⟨by rfl,fun W hS=>by subst hS;go_simp;try with_reducible rfl⟩) ?_
 try simp only [qp,qa,qb,qc]
 refine xaf (.agg (opL y.op).toArray) (xaj (by rfl) 39 _ rfl (w.heap.size + 1) 123 rfl (opL y.op) _ Tryz.underlying39 rfl (xca y.op) (fun W hS=>by subst hS;exact hY.m_op)) ?_
 try simp only [qp,qa,qb,qc]
 have eqw:Hid (∀ W,(binOp .eql 39 (.agg (opC x.op)) (.agg (opC y.op))).run Tryz.prog W = .ok (.bool (same tOp x.op y.op)) W):=fun W=>eq_op x.op y.op hx.op hy.op W
 rw [hc14.out] at eqw
 refine xaf (.bool c14) (xbh (by rfl) .eql 39 _ _ _ rfl (opC x.op) (opC y.op) rfl rfl (.bool c14) xgq (fun W=>by rw [eqw.out W])) ?_
 try simp only [qp,qa,qb,qc]
 clear eqw
 iterate 2
  refine xaf _ (.inl ⟨by rfl,fun W hS=>by subst hS;go_simp;try with_reducible rfl⟩) ?_
  try simp only [qp,qa,qb,qc]
 cases c14 with
 | false =>
  refine xbj 4 false (by kernel_rfl) (fun a' h1 h2=>?_)
  go_wp2
  refine bodyPost_ret (results_tmp rfl _ _ _) h2 ?_
  rw [h1]
  exact ⟨by rw [hM.out];try rfl,hb⟩
 | true =>
 refine xaf _ (.inl ⟨by rfl,fun W hS=>by subst hS;go_simp;try with_reducible rfl⟩) ?_
 try simp only [qp,qa,qb,qc]
 refine xaf (.agg (resL x.r).toArray) (xaj (by rfl) 32 _ rfl (w.heap.size) 129 rfl (resL x.r) _ Tryz.underlying32 rfl (xeb x.r) (fun W hS=>by subst hS;exact hX.m_r)) ?_
 try simp only [qp,qa,qb,qc]
 refine xaf _ (.inl ⟨by rfl,fun W hS=>by subst hS;go_simp;try with_reducible rfl⟩) ?_
 try simp only [qp,qa,qb,qc]
 refine xaf (.agg (resL y.r).toArray) (xaj (by rfl) 32 _ rfl (w.heap.size + 1) 129 rfl (resL y.r) _ Tryz.underlying32 rfl (xeb y.r) (fun W hS=>by subst hS;exact hY.m_r)) ?_
 try simp only [qp,qa,qb,qc]
 have eqw:Hid _:=fun W=>eqv_res x.r y.r hx.r.code hx.r.data hy.r.code hy.r.data W
 rw [hc15.out] at eqw
 refine xaf (.bool c15) (xbh (by rfl) .eql 32 _ _ _ rfl (resC x.r) (resC y.r) rfl rfl (.bool c15) guard_res (fun W=>by rw [eqw.out W])) ?_
 try simp only [qp,qa,qb,qc]
 clear eqw
 iterate 2
  refine xaf _ (.inl ⟨by rfl,fun W hS=>by subst hS;go_simp;try with_reducible rfl⟩) ?_
  try simp only [qp,qa,qb,qc]
 refine wpList_nil ?_
 go_wp2
 go_ret
 exact ⟨by rw [hM.out];try rfl,hb⟩
end Go.Proofs.YtecilienolabfaaGreatDoor
