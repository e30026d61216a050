/- The contracts of wire's shape.fits and shape.goes. Written by tools/ffgen3.py. -/
import Derived.Test.YtecilienolabfaaGreatDoorWireFits
import Derived.Test.YtecilienolabfaaGreatDoorPackRun
namespace Go.Proofs.YtecilienolabfaaGreatDoor
set_option linter.unusedSimpArgs false
set_option linter.unusedVariables false
set_option maxRecDepth 100000
open Go.RowKit
set_option maxHeartbeats 16000000 in
theorem fits_any (s:ShV) (m:MsgV) (a1 a2 a3:Option Addr) (c1' c2' c3':Nat) (w:World) (hs:ShOk s) (hm:MsgOk m) (sm:MsgSl w m a1 c1' a2 c2' a3 c3') :
  Calls Tryz.prog 42 #[.agg (shC s),.agg (msgC m a1 c1' a2 c2' a3 c3')] w fun en w'=>en = .returned (.bool (fitsM s m)) ∧ Below w.heap.size w w':=by
 obtain ⟨w1,hw1,hS,hX,hb⟩:=xbl w 100 48 (shC s) (msgC m a1 c1' a2 c2' a3 c3')
 have hM:fitsM s m = (xcv s m.epoch && (xcp s m && (xcj s m && (decide (m.group < 4) && ((!s.st || isSt m.st) && ((!s.dif || xcq m.diff) && ((!s.ent || isEntM m.ent) && (decide (m.n ≤ s.mostN) && (xct s m && (decide (m.r.code ≤ 3) && decide (m.r.data.length ≤ 80))))))))))):=rfl
 replace sm:=sm.later hb
 obtain ⟨c1,k1⟩:∃ c,xcv s m.epoch = c:=⟨_,rfl⟩
 rw [k1] at hM
 replace k1:Hid _:=k1
 obtain ⟨c2,k2⟩:∃ c,xcp s m = c:=⟨_,rfl⟩
 rw [k2] at hM
 replace k2:Hid _:=k2
 obtain ⟨c3,k3⟩:∃ c,xcj s m = c:=⟨_,rfl⟩
 rw [k3] at hM
 replace k3:Hid _:=k3
 obtain ⟨c4,k4⟩:∃ c,decide (m.group < 4) = c:=⟨_,rfl⟩
 rw [k4] at hM
 have v4:decide ((m.group:Int) < 4) = c4:=by rw [← k4,Bool.eq_iff_iff];simp;omega
 replace k4:Hid _:=k4
 obtain ⟨c5,k5⟩:∃ c,isSt m.st = c:=⟨_,rfl⟩
 obtain ⟨f5,g5⟩:∃ c,s.st = c:=⟨_,rfl⟩
 rw [k5,g5] at hM
 replace k5:Hid _:=k5
 replace g5:Hid _:=g5
 obtain ⟨c6,k6⟩:∃ c,xcq m.diff = c:=⟨_,rfl⟩
 obtain ⟨f6,g6⟩:∃ c,s.dif = c:=⟨_,rfl⟩
 rw [k6,g6] at hM
 replace k6:Hid _:=k6
 replace g6:Hid _:=g6
 obtain ⟨c7,k7⟩:∃ c,isEntM m.ent = c:=⟨_,rfl⟩
 obtain ⟨f7,g7⟩:∃ c,s.ent = c:=⟨_,rfl⟩
 rw [k7,g7] at hM
 replace k7:Hid _:=k7
 replace g7:Hid _:=g7
 obtain ⟨c8,k8⟩:∃ c,decide (m.n ≤ s.mostN) = c:=⟨_,rfl⟩
 rw [k8] at hM
 have v8:decide ((m.n:Int) ≤ (s.mostN:Int)) = c8:=by rw [← k8,Bool.eq_iff_iff];simp
 have v8n:decide (m.n ≤ s.mostN) = c8:=k8
 replace k8:Hid _:=k8
 obtain ⟨c9,k9⟩:∃ c,xct s m = c:=⟨_,rfl⟩
 rw [k9] at hM
 replace k9:Hid _:=k9
 obtain ⟨c10,k10⟩:∃ c,decide (m.r.code ≤ 3) = c:=⟨_,rfl⟩
 rw [k10] at hM
 have v10:decide ((m.r.code:Int) ≤ 3) = c10:=by rw [← k10,Bool.eq_iff_iff];simp;omega
 replace k10:Hid _:=k10
 obtain ⟨c11,k11⟩:∃ c,decide (m.r.data.length ≤ 80) = c:=⟨_,rfl⟩
 rw [k11] at hM
 have v11:decide ((m.r.data.length:Int) ≤ 80) = c11:=by rw [← k11,Bool.eq_iff_iff];simp;omega
 have hsz:(mkS m.r.data).size = m.r.data.length:=xde _
 replace k11:Hid _:=k11
 replace hM:Hid _:=hM
 go_enter Tryz.func42,Tryz.ntmps42
 go_upto_region 1 with fail
 refine wp_region_list ?_
 show wpList Tryz.prog _ _ [_,_,_,_,_,_,_,_,_,_,_,_,_,_,_,_,_,_,_,_,_,_,_,_,_,_,_,_,_,_,_,_,_,_,_,_,_,_,_,_,_,_,_,_,_,_,_,_,_,_,_,_,_,_,_,_,_,_,_,_,_,_,_,_,_,_,_,_,_,_,_,_,_,_,_] _ _
 refine xaf (.agg (shC s)) (xan (by rfl) 100 _ rfl w.heap.size rfl 100 (shC s) _ Tryz.underlying100 rfl (xby s) (fun W hW=>by subst hW;exact hS)) ?_
 try simp only [qp,qa,qb,qc]
 have e3:=hX.mc_epoch
 iterate 2
  refine xaf _ (.inl ⟨by rfl,fun W hS=>by subst hS;go_simp;try with_reducible rfl⟩) ?_
  try simp only [qp,qa,qb,qc]
 refine xer (by rfl) (fun K hK=>?_)
 go_simp
 refine (fitsEpoch_any s m.epoch _ hs.least hm.epoch).mono ?_
 rintro en w2 ⟨rfl,hq⟩
 refine hK.out _ _ ?_
 clear hK K
 try simp only [qp,qa,qb,qc]
 replace hS:=hS.later hq
 replace hX:=hX.later hq
 replace sm:=sm.later hq
 replace hb:=hb.trans (hq.mono hb.size)
 clear hq
 clear e3
 rw [k1.out]
 refine xaf _ (.inl ⟨by rfl,fun W hS=>by subst hS;go_simp;try with_reducible rfl⟩) ?_
 try simp only [qp,qa,qb,qc]
 rcases (Bool.eq_false_or_eq_true c1).symm with hcc | hcc
 ·have hF:=hM.out
  rw [hcc] at hF
  replace hF:Hid _:=hF
  refine xbj 4 false (by subst hcc;kernel_rfl) (fun a1 h1 h2=>?_)
  exact xeu (by assumption) rfl h1 h2 ⟨by rw [hF.out];try rfl,hb⟩
 subst hcc
 refine xaf (.agg (shC s)) (xan (by rfl) 100 _ rfl w.heap.size rfl 100 (shC s) _ Tryz.underlying100 rfl (xby s) (fun W hW=>by subst hW;exact hS)) ?_
 try simp only [qp,qa,qb,qc]
 refine xaf (.agg (msgC m a1 c1' a2 c2' a3 c3')) (xan (by rfl) 48 _ rfl (w.heap.size + 1) rfl 48 (msgC m a1 c1' a2 c2' a3 c3') _ Tryz.underlying48 rfl (xah m a1 a2 a3 c1' c2' c3') (fun W hW=>by subst hW;exact hX)) ?_
 try simp only [qp,qa,qb,qc]
 refine xer (by rfl) (fun K hK=>?_)
 go_simp
 refine (fitsBallot_any s m a1 a2 a3 c1' c2' c3' _ hs hm).mono ?_
 rintro en v1 ⟨rfl,hq⟩
 refine hK.out _ _ ?_
 clear hK K
 try simp only [qp,qa,qb,qc]
 replace hS:=hS.later hq
 replace hX:=hX.later hq
 replace sm:=sm.later hq
 replace hb:=hb.trans (hq.mono hb.size)
 clear hq
 rw [k2.out]
 iterate 2
  refine xaf _ (.inl ⟨by rfl,fun W hS=>by subst hS;go_simp;try with_reducible rfl⟩) ?_
  try simp only [qp,qa,qb,qc]
 rcases (Bool.eq_false_or_eq_true c2).symm with hcc | hcc
 ·have hF:=hM.out
  rw [hcc] at hF
  replace hF:Hid _:=hF
  refine xbj 4 false (by subst hcc;kernel_rfl) (fun a1 h1 h2=>?_)
  exact xeu (by assumption) rfl h1 h2 ⟨by rw [hF.out];try rfl,hb⟩
 subst hcc
 refine xaf (.agg (shC s)) (xan (by rfl) 100 _ rfl w.heap.size rfl 100 (shC s) _ Tryz.underlying100 rfl (xby s) (fun W hW=>by subst hW;exact hS)) ?_
 try simp only [qp,qa,qb,qc]
 refine xaf (.agg (msgC m a1 c1' a2 c2' a3 c3')) (xan (by rfl) 48 _ rfl (w.heap.size + 1) rfl 48 (msgC m a1 c1' a2 c2' a3 c3') _ Tryz.underlying48 rfl (xah m a1 a2 a3 c1' c2' c3') (fun W hW=>by subst hW;exact hX)) ?_
 try simp only [qp,qa,qb,qc]
 refine xer (by rfl) (fun K hK=>?_)
 go_simp
 refine (fitsValue_any s m a1 a2 a3 c1' c2' c3' _ hs hm).mono ?_
 rintro en v2 ⟨rfl,hq⟩
 refine hK.out _ _ ?_
 clear hK K
 try simp only [qp,qa,qb,qc]
 replace hS:=hS.later hq
 replace hX:=hX.later hq
 replace sm:=sm.later hq
 replace hb:=hb.trans (hq.mono hb.size)
 clear hq
 rw [k3.out]
 iterate 2
  refine xaf _ (.inl ⟨by rfl,fun W hS=>by subst hS;go_simp;try with_reducible rfl⟩) ?_
  try simp only [qp,qa,qb,qc]
 rcases (Bool.eq_false_or_eq_true c3).symm with hcc | hcc
 ·have hF:=hM.out
  rw [hcc] at hF
  replace hF:Hid _:=hF
  refine xbj 4 false (by subst hcc;kernel_rfl) (fun a1 h1 h2=>?_)
  exact xeu (by assumption) rfl h1 h2 ⟨by rw [hF.out];try rfl,hb⟩
 subst hcc
 have x12:=hX.mc_group
 iterate 5
  refine xaf _ (.inl ⟨by rfl,fun W hS=>by subst hS;go_simp;try with_reducible rfl⟩) ?_
  try simp only [qp,qa,qb,qc]
 clear x12
 rcases (Bool.eq_false_or_eq_true c4).symm with hcc | hcc
 ·have hF:=hM.out
  rw [hcc] at hF
  replace hF:Hid _:=hF
  refine xbj 4 false (by subst hcc;kernel_rfl) (fun a1 h1 h2=>?_)
  exact xeu (by assumption) rfl h1 h2 ⟨by rw [hF.out];try rfl,hb⟩
 subst hcc
 have xf:=(show _ = some (.bool f5) from (hS.cell 7).trans (by rw [← g5.out];rfl))
 iterate 2
  refine xaf _ (.inl ⟨by rfl,fun W hS=>by subst hS;go_simp;try with_reducible rfl⟩) ?_
  try simp only [qp,qa,qb,qc]
 clear xf
 refine xaf (.bool (!f5)) (.inl ⟨by rfl,fun W hW=>by cases f5 <;> rfl⟩) ?_
 try simp only [qp,qa,qb,qc]
 refine xaf (.bool (!f5)) (.inl ⟨by rfl,fun W hW=>by cases f5 <;> rfl⟩) ?_
 try simp only [qp,qa,qb,qc]
 refine xft f5 (.pointer (some ⟨w.heap.size + 1,13,none⟩)) (fun h=>by subst h;rfl) (fun h=>by subst h;exact .inl ⟨by rfl,fun W hW=>by subst hW;go_simp;try with_reducible rfl⟩) ?_
 try simp only [qp,qa,qb,qc]
 refine xft f5 (.agg (stL m.st a1 c1').toArray) (fun h=>by subst h;rfl) (fun h=>by subst h;exact xaj (by rfl) 44 _ rfl (w.heap.size + 1) 13 rfl (stL m.st a1 c1') _ Tryz.underlying44 rfl (xcg m.st a1 c1') (fun W hW=>by subst hW;exact hX.m_st)) ?_
 try simp only [qp,qa,qb,qc]
 refine seq_fork f5 (fun W=>Below w.heap.size w W ∧ Has W w.heap.size 100 (shC s) ∧ Has W (w.heap.size + 1) 48 (msgC m a1 c1' a2 c2' a3 c3') ∧ MsgSl W m a1 c1' a2 c2' a3 c3') (.bool c5) (fun h=>by subst h;exact ⟨by rfl,hb,hS,hX,sm⟩) (fun h=>by
  subst h
  refine ⟨by rfl,fun K hK=>?_⟩
  go_simp
  refine (is_any7 m.st a1 c1' _ hm.st sm.st).mono ?_
  rintro en w9 ⟨rfl,hq⟩
  rw [k5.out]
  exact hK.out _ ⟨hb.trans (hq.mono hb.size),hS.later hq,hX.later hq,sm.later hq⟩) ?_
 clear hS hX sm hb
 rintro v3 ⟨hb,hS,hX,sm⟩
 try simp only [qp,qa,qb,qc]
 refine xaf (.bool (!f5 || c5)) (.inl ⟨by rfl,fun W hW=>by cases f5 <;> cases c5 <;> rfl⟩) ?_
 try simp only [qp,qa,qb,qc]
 obtain ⟨d5,hd5⟩:∃ d,(!f5 || c5) = d:=⟨_,rfl⟩
 rw [hd5] at hM ⊢
 clear hd5
 iterate 2
  refine xaf _ (.inl ⟨by rfl,fun W hS=>by subst hS;go_simp;try with_reducible rfl⟩) ?_
  try simp only [qp,qa,qb,qc]
 rcases (Bool.eq_false_or_eq_true d5).symm with hcc | hcc
 ·have hF:=hM.out
  rw [hcc] at hF
  replace hF:Hid _:=hF
  refine xbj 4 false (by subst hcc;kernel_rfl) (fun a1 h1 h2=>?_)
  exact xeu (by assumption) rfl h1 h2 ⟨by rw [hF.out];try rfl,hb⟩
 subst hcc
 have xf:=(show _ = some (.bool f6) from (hS.cell 8).trans (by rw [← g6.out];rfl))
 iterate 2
  refine xaf _ (.inl ⟨by rfl,fun W hS=>by subst hS;go_simp;try with_reducible rfl⟩) ?_
  try simp only [qp,qa,qb,qc]
 clear xf
 refine xaf (.bool (!f6)) (.inl ⟨by rfl,fun W hW=>by cases f6 <;> rfl⟩) ?_
 try simp only [qp,qa,qb,qc]
 refine xaf (.bool (!f6)) (.inl ⟨by rfl,fun W hW=>by cases f6 <;> rfl⟩) ?_
 try simp only [qp,qa,qb,qc]
 refine xft f6 (.pointer (some ⟨w.heap.size + 1,62,none⟩)) (fun h=>by subst h;rfl) (fun h=>by subst h;exact .inl ⟨by rfl,fun W hW=>by subst hW;go_simp;try with_reducible rfl⟩) ?_
 try simp only [qp,qa,qb,qc]
 refine xft f6 (.agg (diffL m.diff a2 c2' a3 c3').toArray) (fun h=>by subst h;rfl) (fun h=>by subst h;exact xaj (by rfl) 46 _ rfl (w.heap.size + 1) 62 rfl (diffL m.diff a2 c2' a3 c3') _ Tryz.underlying46 rfl (xdw m.diff a2 a3 c2' c3') (fun W hW=>by subst hW;exact hX.m_diff)) ?_
 try simp only [qp,qa,qb,qc]
 refine seq_fork f6 (fun W=>Below w.heap.size w W ∧ Has W w.heap.size 100 (shC s) ∧ Has W (w.heap.size + 1) 48 (msgC m a1 c1' a2 c2' a3 c3') ∧ MsgSl W m a1 c1' a2 c2' a3 c3') (.bool c6) (fun h=>by subst h;exact ⟨by rfl,hb,hS,hX,sm⟩) (fun h=>by
  subst h
  refine ⟨by rfl,fun K hK=>?_⟩
  go_simp
  refine (isDiff_any m.diff a2 a3 c2' c3' _ hm.diff ⟨sm.log,sm.whole⟩).mono ?_
  rintro en w9 ⟨rfl,hq⟩
  rw [k6.out]
  exact hK.out _ ⟨hb.trans (hq.mono hb.size),hS.later hq,hX.later hq,sm.later hq⟩) ?_
 clear hS hX sm hb
 rintro v4 ⟨hb,hS,hX,sm⟩
 try simp only [qp,qa,qb,qc]
 refine xaf (.bool (!f6 || c6)) (.inl ⟨by rfl,fun W hW=>by cases f6 <;> cases c6 <;> rfl⟩) ?_
 try simp only [qp,qa,qb,qc]
 obtain ⟨d6,hd6⟩:∃ d,(!f6 || c6) = d:=⟨_,rfl⟩
 rw [hd6] at hM ⊢
 clear hd6
 iterate 2
  refine xaf _ (.inl ⟨by rfl,fun W hS=>by subst hS;go_simp;try with_reducible rfl⟩) ?_
  try simp only [qp,qa,qb,qc]
 rcases (Bool.eq_false_or_eq_true d6).symm with hcc | hcc
 ·have hF:=hM.out
  rw [hcc] at hF
  replace hF:Hid _:=hF
  refine xbj 4 false (by subst hcc;kernel_rfl) (fun a1 h1 h2=>?_)
  exact xeu (by assumption) rfl h1 h2 ⟨by rw [hF.out];try rfl,hb⟩
 subst hcc
 have xf:=(show _ = some (.bool f7) from (hS.cell 9).trans (by rw [← g7.out];rfl))
 iterate 2
  refine xaf _ (.inl ⟨by rfl,fun W hS=>by subst hS;go_simp;try with_reducible rfl⟩) ?_
  try simp only [qp,qa,qb,qc]
 clear xf
 refine xaf (.bool (!f7)) (.inl ⟨by rfl,fun W hW=>by cases f7 <;> rfl⟩) ?_
 try simp only [qp,qa,qb,qc]
 refine xaf (.bool (!f7)) (.inl ⟨by rfl,fun W hW=>by cases f7 <;> rfl⟩) ?_
 try simp only [qp,qa,qb,qc]
 refine xft f7 (.pointer (some ⟨w.heap.size + 1,114,none⟩)) (fun h=>by subst h;rfl) (fun h=>by subst h;exact .inl ⟨by rfl,fun W hW=>by subst hW;go_simp;try with_reducible rfl⟩) ?_
 try simp only [qp,qa,qb,qc]
 refine xft f7 (.agg (entL m.ent).toArray) (fun h=>by subst h;rfl) (fun h=>by subst h;exact xaj (by rfl) 41 _ rfl (w.heap.size + 1) 114 rfl (entL m.ent) _ Tryz.underlying41 rfl (xax m.ent) (fun W hW=>by subst hW;exact hX.m_ent)) ?_
 try simp only [qp,qa,qb,qc]
 refine seq_fork f7 (fun W=>Below w.heap.size w W ∧ Has W w.heap.size 100 (shC s) ∧ Has W (w.heap.size + 1) 48 (msgC m a1 c1' a2 c2' a3 c3') ∧ MsgSl W m a1 c1' a2 c2' a3 c3') (.bool c7) (fun h=>by subst h;exact ⟨by rfl,hb,hS,hX,sm⟩) (fun h=>by
  subst h
  refine ⟨by rfl,fun K hK=>?_⟩
  go_simp
  refine (isEntry_any m.ent _ hm.ent).mono ?_
  rintro en w9 ⟨rfl,hq⟩
  rw [k7.out]
  exact hK.out _ ⟨hb.trans (hq.mono hb.size),hS.later hq,hX.later hq,sm.later hq⟩) ?_
 clear hS hX sm hb
 rintro v5 ⟨hb,hS,hX,sm⟩
 try simp only [qp,qa,qb,qc]
 refine xaf (.bool (!f7 || c7)) (.inl ⟨by rfl,fun W hW=>by cases f7 <;> cases c7 <;> rfl⟩) ?_
 try simp only [qp,qa,qb,qc]
 obtain ⟨d7,hd7⟩:∃ d,(!f7 || c7) = d:=⟨_,rfl⟩
 rw [hd7] at hM ⊢
 clear hd7
 iterate 2
  refine xaf _ (.inl ⟨by rfl,fun W hS=>by subst hS;go_simp;try with_reducible rfl⟩) ?_
  try simp only [qp,qa,qb,qc]
 rcases (Bool.eq_false_or_eq_true d7).symm with hcc | hcc
 ·have hF:=hM.out
  rw [hcc] at hF
  replace hF:Hid _:=hF
  refine xbj 4 false (by subst hcc;kernel_rfl) (fun a1 h1 h2=>?_)
  exact xeu (by assumption) rfl h1 h2 ⟨by rw [hF.out];try rfl,hb⟩
 subst hcc
 have xn:=hX.mc_n
 have xm:=(show _ = some (Value.int .u32 (s.mostN:Int)) from hS.cell 10)
 iterate 7
  refine xaf _ (.inl ⟨by rfl,fun W hS=>by subst hS;go_simp;try with_reducible rfl⟩) ?_
  try simp only [qp,qa,qb,qc]
 clear xn xm
 rcases (Bool.eq_false_or_eq_true c8).symm with hcc | hcc
 ·have hF:=hM.out
  rw [hcc] at hF
  replace hF:Hid _:=hF
  refine xbj 4 false (by subst hcc;kernel_rfl) (fun a1 h1 h2=>?_)
  exact xeu (by assumption) rfl h1 h2 ⟨by rw [hF.out];try rfl,hb⟩
 subst hcc
 refine xaf (.agg (shC s)) (xan (by rfl) 100 _ rfl w.heap.size rfl 100 (shC s) _ Tryz.underlying100 rfl (xby s) (fun W hW=>by subst hW;exact hS)) ?_
 try simp only [qp,qa,qb,qc]
 refine xaf (.agg (msgC m a1 c1' a2 c2' a3 c3')) (xan (by rfl) 48 _ rfl (w.heap.size + 1) rfl 48 (msgC m a1 c1' a2 c2' a3 c3') _ Tryz.underlying48 rfl (xah m a1 a2 a3 c1' c2' c3') (fun W hW=>by subst hW;exact hX)) ?_
 try simp only [qp,qa,qb,qc]
 refine xer (by rfl) (fun K hK=>?_)
 go_simp
 refine (fitsOp_any s m a1 a2 a3 c1' c2' c3' _ hs hm).mono ?_
 rintro en v6 ⟨rfl,hq⟩
 refine hK.out _ _ ?_
 clear hK K
 try simp only [qp,qa,qb,qc]
 replace hS:=hS.later hq
 replace hX:=hX.later hq
 replace sm:=sm.later hq
 replace hb:=hb.trans (hq.mono hb.size)
 clear hq
 rw [k9.out]
 iterate 2
  refine xaf _ (.inl ⟨by rfl,fun W hS=>by subst hS;go_simp;try with_reducible rfl⟩) ?_
  try simp only [qp,qa,qb,qc]
 rcases (Bool.eq_false_or_eq_true c9).symm with hcc | hcc
 ·have hF:=hM.out
  rw [hcc] at hF
  replace hF:Hid _:=hF
  refine xbj 4 false (by subst hcc;kernel_rfl) (fun a1 h1 h2=>?_)
  exact xeu (by assumption) rfl h1 h2 ⟨by rw [hF.out];try rfl,hb⟩
 subst hcc
 have xc:=hX.mc_rcode
 iterate 6
  refine xaf _ (.inl ⟨by rfl,fun W hS=>by subst hS;go_simp;try with_reducible rfl⟩) ?_
  try simp only [qp,qa,qb,qc]
 clear xc
 rcases (Bool.eq_false_or_eq_true c10).symm with hcc | hcc
 ·have hF:=hM.out
  rw [hcc] at hF
  replace hF:Hid _:=hF
  refine xbj 4 false (by subst hcc;kernel_rfl) (fun a1 h1 h2=>?_)
  exact xeu (by assumption) rfl h1 h2 ⟨by rw [hF.out];try rfl,hb⟩
 subst hcc
 have xd:=hX.mc_rdata
 unfold strV at xd
 iterate 7
  refine xaf _ (.inl ⟨by rfl,fun W hS=>by subst hS;go_simp;try with_reducible rfl⟩) ?_
  try simp only [qp,qa,qb,qc]
 clear xd
 refine wpList_nil ?_
 exact xeu (b:=c11) (by assumption) rfl rfl rfl ⟨by rw [hM.out];try rfl,hb⟩
theorem and_all:((List.range 8).all fun a=>(List.range 8).all fun b=>decide (bits .and .u8 (a:Int) (b:Int) = ((a &&& b:Nat):Int))) = true:=by kernel_rfl
theorem and_is {a b:Nat} (ha:a < 8) (hb:b < 8):bits .and .u8 (a:Int) (b:Int) = ((a &&& b:Nat):Int):=by
 have h:=List.all_eq_true.1 (List.all_eq_true.1 and_all a (List.mem_range.2 ha)) b (List.mem_range.2 hb)
 exact of_decide_eq_true h
theorem side_lt (n:Nat):sideM n < 8:=by
 unfold sideM
 split
 ·decide
 ·split
  ·decide
  ·split <;> decide
set_option maxHeartbeats 8000000 in
theorem goes_any (s:ShV) (m:MsgV) (a1 a2 a3:Option Addr) (c1 c2 c3:Nat) (w:World) (hs:ShOk s) (hm:MsgOk m):Calls Tryz.prog 41 #[.agg (shC s),.agg (msgC m a1 c1 a2 c2 a3 c3)] w fun en w'=>en = .returned (.bool (goesM s m)) ∧ Below w.heap.size w w':=by
 obtain ⟨w1,hw1,hS,hX,hb⟩:=xbl w 100 48 (shC s) (msgC m a1 c1 a2 c2 a3 c3)
 have hM:goesM s m = (decide (s.fr &&& sideM m.src ≠ 0) && (decide (s.dst &&& sideM m.dst ≠ 0) && decide (m.src ≠ m.dst))):=rfl
 obtain ⟨d1,k1⟩:∃ c,decide (s.fr &&& sideM m.src ≠ 0) = c:=⟨_,rfl⟩
 obtain ⟨d2,k2⟩:∃ c,decide (s.dst &&& sideM m.dst ≠ 0) = c:=⟨_,rfl⟩
 obtain ⟨d3,k3⟩:∃ c,decide (m.src ≠ m.dst) = c:=⟨_,rfl⟩
 have x0:w1.cell? ⟨w.heap.size,0,none⟩ = some (.int .u8 (s.fr:Int)):=hS.cell 0
 have x1:w1.cell? ⟨w.heap.size,1,none⟩ = some (.int .u8 (s.dst:Int)):=hS.cell 1
 have y1:=hX.mc_src
 have y2:=hX.mc_dst
 have e1:=and_is hs.fr (side_lt m.src)
 have e2:=and_is hs.dst (side_lt m.dst)
 obtain ⟨z1,hz1⟩:∃ z,s.fr &&& sideM m.src = z:=⟨_,rfl⟩
 obtain ⟨z2,hz2⟩:∃ z,s.dst &&& sideM m.dst = z:=⟨_,rfl⟩
 rw [hz1] at e1 k1 hM
 rw [hz2] at e2 k2 hM
 rw [k1,k2,k3] at hM
 have v1:((z1:Int) != 0) = d1:=by rw [← k1,Bool.eq_iff_iff];simp
 have v2:((z2:Int) != 0) = d2:=by rw [← k2,Bool.eq_iff_iff];simp
 have v3:((m.src:Int) != (m.dst:Int)) = d3:=by rw [← k3,Bool.eq_iff_iff];simp;omega
 replace hM:Hid _:=hM
 clear hz1 hz2 k1 k2 k3
 go_enter Tryz.func41,Tryz.ntmps41
 go_upto_region 1 with fail
 refine xas (fun W=>W = w1.drew) (Plan.of [(0,true),(1,true),(2,true),(3,true),(4,false),(5,true),(6,true),(7,true),(8,true),(9,true),(10,true),(11,true),(12,false),(13,true),(14,true),(15,true),(16,true),(17,true),(18,true),(19,true),(20,true),(21,true),(22,true),(23,true)] .done) (by kernel_rfl) (by kernel_rfl) (by kernel_rfl) (by kernel_rfl) rfl ?_
 have x0':w1.drew.cell? ⟨w.heap.size,0,none⟩ = some (.int .u8 (s.fr:Int)):=x0
 have x1':w1.drew.cell? ⟨w.heap.size,1,none⟩ = some (.int .u8 (s.dst:Int)):=x1
 have y1':w1.drew.cell? ⟨w.heap.size + 1,1,none⟩ = some (.int .u8 (m.src:Int)):=y1
 have y2':w1.drew.cell? ⟨w.heap.size + 1,2,none⟩ = some (.int .u8 (m.dst:Int)):=y2
 replace hb:=hb.drew
 generalize w1.drew = w2 at *
 clear x0 x1 y1 y2 hS hX hw1
 iterate 4
  first
   | (refine xad _ rfl (by rfl) ?_)
   | (refine xaa _ _ rfl (.inl ⟨by rfl,fun W hS=>by subst hS;go_simp;try with_reducible rfl⟩) ?_)
  try simp only [qp,qa,qb,qc]
 refine xam _ rfl (fun K hK=>?_)
 go_simp
 refine (sideOf_any m.src _ hm.src).mono ?_
 rintro en w3 ⟨rfl,rfl⟩
 refine hK.out _ _ rfl ?_
 clear hK K
 try simp only [qp,qa,qb,qc]
 iterate 3
  first
   | (refine xad _ rfl (by rfl) ?_)
   | (refine xaa _ _ rfl (.inl ⟨by rfl,fun W hS=>by subst hS;go_simp;try with_reducible rfl⟩) ?_)
  try simp only [qp,qa,qb,qc]
 rcases (Bool.eq_false_or_eq_true d1).symm with hcc | hcc
 ·subst hcc
  iterate 4
   first
    | (refine xad _ rfl (by rfl) ?_)
    | (refine xaa _ _ rfl (.inl ⟨by rfl,fun W hS=>by subst hS;go_simp;try with_reducible rfl⟩) ?_)
   try simp only [qp,qa,qb,qc]
  refine xam _ rfl (fun K hK=>?_)
  go_simp
  refine hK.out _ _ rfl ?_
  clear hK K
  try simp only [qp,qa,qb,qc]
  iterate 11
   first
    | (refine xad _ rfl (by rfl) ?_)
    | (refine xaa _ _ rfl (.inl ⟨by rfl,fun W hS=>by subst hS;go_simp;try with_reducible rfl⟩) ?_)
   try simp only [qp,qa,qb,qc]
  refine xbf ?_
  go_wp2
  go_ret
  exact ⟨by rw [hM.out];try rfl,hb⟩
 ·subst hcc
  iterate 4
   first
    | (refine xad _ rfl (by rfl) ?_)
    | (refine xaa _ _ rfl (.inl ⟨by rfl,fun W hS=>by subst hS;go_simp;try with_reducible rfl⟩) ?_)
   try simp only [qp,qa,qb,qc]
  refine xam _ rfl (fun K hK=>?_)
  go_simp
  refine (sideOf_any m.dst _ hm.dst).mono ?_
  rintro en w4 ⟨rfl,rfl⟩
  refine hK.out _ _ rfl ?_
  clear hK K
  try simp only [qp,qa,qb,qc]
  iterate 4
   first
    | (refine xad _ rfl (by rfl) ?_)
    | (refine xaa _ _ rfl (.inl ⟨by rfl,fun W hS=>by subst hS;go_simp;try with_reducible rfl⟩) ?_)
   try simp only [qp,qa,qb,qc]
  rcases (Bool.eq_false_or_eq_true d2).symm with hcc | hcc
  ·subst hcc
   iterate 7
    first
     | (refine xad _ rfl (by rfl) ?_)
     | (refine xaa _ _ rfl (.inl ⟨by rfl,fun W hS=>by subst hS;go_simp;try with_reducible rfl⟩) ?_)
    try simp only [qp,qa,qb,qc]
   refine xbf ?_
   go_wp2
   go_ret
   exact ⟨by rw [hM.out];try rfl,hb⟩
  ·subst hcc
   iterate 7
    first
     | (refine xad _ rfl (by rfl) ?_)
     | (refine xaa _ _ rfl (.inl ⟨by rfl,fun W hS=>by subst hS;go_simp;try with_reducible rfl⟩) ?_)
    try simp only [qp,qa,qb,qc]
   refine xbf ?_
   go_wp2
   go_ret
   exact ⟨by rw [hM.out];try rfl,hb⟩
end Go.Proofs.YtecilienolabfaaGreatDoor
