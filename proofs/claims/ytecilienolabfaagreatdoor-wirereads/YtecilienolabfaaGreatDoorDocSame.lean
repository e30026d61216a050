/- The contract of the document's Same, of messages. Written by tools/samegen12.py. -/
import Derived.Test.YtecilienolabfaaGreatDoorWireSame
import Derived.Test.YtecilienolabfaaGreatDoorRefSame
namespace Go.Proofs.YtecilienolabfaaGreatDoor
set_option linter.unusedSimpArgs false
set_option linter.unusedVariables false
set_option maxRecDepth 100000
open Go.RowKit
section
variable {w:World} {g:Nat} {t:TypeId} {m:MsgV} {a1 a2 a3:Option Addr} {c1 c2 c3:Nat}
theorem Has.mc_dkind (h:Has w g t (msgC m a1 c1 a2 c2 a3 c3)):w.cell? ⟨g,62,none⟩ = some (.int .i64 m.diff.kind):=(h.cell 62).trans rfl
theorem Has.mc_dfrom (h:Has w g t (msgC m a1 c1 a2 c2 a3 c3)):w.cell? ⟨g,63,none⟩ = some (.int .u32 (m.diff.fr:Int)):=(h.cell 63).trans rfl
theorem Has.m_dwhole (h:Has w g t (msgC m a1 c1 a2 c2 a3 c3)):w.rangeAt g 65 (stL m.diff.whole a3 c3):=xez ((msgL m a1 c1 a2 c2 a3 c3).take 65) (stL m.diff.whole a3 c3) ((msgL m a1 c1 a2 c2 a3 c3).drop 114) 65 rfl h
end
theorem same_docs (x y:MsgV):xej x y = (same tSt x.st y.st && (decide (x.diff.kind = y.diff.kind) && (decide (x.diff.fr = y.diff.fr) && (same tSt x.diff.whole y.diff.whole && (same tRows x.diff.log y.diff.log && (decide (x.kind = y.kind) && (decide (x.src = y.src) && (decide (x.dst = y.dst) && (decide (x.epoch = y.epoch) && (xcr x.b y.b && (xcr x.acc y.acc && (decide (x.has = y.has) && (xea x.inc y.inc && (decide (x.group = y.group) && (same tEnt x.ent y.ent && (decide (x.n = y.n) && (same tOp x.op y.op && same tRes x.r y.r))))))))))))))))):=by
 have h:xej x y = (decide (x.kind = y.kind) && (decide (x.src = y.src) && (decide (x.dst = y.dst) && (decide (x.epoch = y.epoch) && (xcr x.b y.b && (xcr x.acc y.acc && (decide (x.has = y.has) && (xea x.inc y.inc && (decide (x.group = y.group) && (same tSt x.st y.st && ((decide (x.diff.kind = y.diff.kind) && (decide (x.diff.fr = y.diff.fr) && (same tRows x.diff.log y.diff.log && same tSt x.diff.whole y.diff.whole))) && (same tEnt x.ent y.ent && (decide (x.n = y.n) && (same tOp x.op y.op && same tRes x.r y.r)))))))))))))):=rfl
 rw [h]
 ac_rfl
set_option maxHeartbeats 16000000 in
theorem dsame_any (x y:MsgV) (a1 a2 a3 b1 b2 b3:Option Addr) (e1 e2 e3 d1 d2 d3:Nat) (w:World) (hx:MsgOk x) (hy:MsgOk y) (sx:MsgSl w x a1 e1 a2 e2 a3 e3) (sy:MsgSl w y b1 d1 b2 d2 b3 d3) :
  Calls Tryz.prog 16 #[.agg (msgC x a1 e1 a2 e2 a3 e3),.agg (msgC y b1 d1 b2 d2 b3 d3)] w fun en w'=>en = .returned (.bool (xej x y)) ∧ Below w.heap.size w w':=by
 obtain ⟨w1,hw1,hX,hY,hb⟩:=xbl w 48 48 (msgC x a1 e1 a2 e2 a3 e3) (msgC y b1 d1 b2 d2 b3 d3)
 have hM:=same_docs x y
 replace sx:=sx.later hb
 replace sy:=sy.later hb
 obtain ⟨c1,hc1⟩:∃ c,decide (x.kind = y.kind) = c:=⟨_,rfl⟩
 have hv1:((x.kind:Int) == (y.kind:Int)) = c1:=by rw [← hc1,Bool.eq_iff_iff];simp;omega
 rw [hc1] at hM
 replace hc1:Hid _:=hc1
 obtain ⟨c2,hc2⟩:∃ c,decide (x.src = y.src) = c:=⟨_,rfl⟩
 have hv2:((x.src:Int) == (y.src:Int)) = c2:=by rw [← hc2,Bool.eq_iff_iff];simp;omega
 rw [hc2] at hM
 replace hc2:Hid _:=hc2
 obtain ⟨c3,hc3⟩:∃ c,decide (x.dst = y.dst) = c:=⟨_,rfl⟩
 have hv3:((x.dst:Int) == (y.dst:Int)) = c3:=by rw [← hc3,Bool.eq_iff_iff];simp;omega
 rw [hc3] at hM
 replace hc3:Hid _:=hc3
 obtain ⟨c4,hc4⟩:∃ c,decide (x.epoch = y.epoch) = c:=⟨_,rfl⟩
 have hv4:((x.epoch:Int) == (y.epoch:Int)) = c4:=by rw [← hc4,Bool.eq_iff_iff];simp;omega
 rw [hc4] at hM
 replace hc4:Hid _:=hc4
 obtain ⟨c5,hc5⟩:∃ c,xcr x.b y.b = c:=⟨_,rfl⟩
 rw [hc5] at hM
 obtain ⟨c6,hc6⟩:∃ c,xcr x.acc y.acc = c:=⟨_,rfl⟩
 rw [hc6] at hM
 obtain ⟨c7,hc7⟩:∃ c,decide (x.has = y.has) = c:=⟨_,rfl⟩
 have hv7:(x.has == y.has) = c7:=by rw [← hc7,Bool.eq_iff_iff];simp
 rw [hc7] at hM
 replace hc7:Hid _:=hc7
 obtain ⟨c8,hc8⟩:∃ c,xea x.inc y.inc = c:=⟨_,rfl⟩
 rw [hc8] at hM
 obtain ⟨c9,hc9⟩:∃ c,decide (x.group = y.group) = c:=⟨_,rfl⟩
 have hv9:((x.group:Int) == (y.group:Int)) = c9:=by rw [← hc9,Bool.eq_iff_iff];simp;omega
 rw [hc9] at hM
 replace hc9:Hid _:=hc9
 obtain ⟨c12,hc12⟩:∃ c,same tEnt x.ent y.ent = c:=⟨_,rfl⟩
 rw [hc12] at hM
 obtain ⟨c13,hc13⟩:∃ c,decide (x.n = y.n) = c:=⟨_,rfl⟩
 have hv13:((x.n:Int) == (y.n:Int)) = c13:=by rw [← hc13,Bool.eq_iff_iff];simp;omega
 rw [hc13] at hM
 replace hc13:Hid _:=hc13
 obtain ⟨c14,hc14⟩:∃ c,same tOp x.op y.op = c:=⟨_,rfl⟩
 rw [hc14] at hM
 obtain ⟨c15,hc15⟩:∃ c,same tRes x.r y.r = c:=⟨_,rfl⟩
 rw [hc15] at hM
 replace hc5:Hid _:=hc5
 replace hc6:Hid _:=hc6
 replace hc8:Hid _:=hc8
 replace hc12:Hid _:=hc12
 replace hc14:Hid _:=hc14
 replace hc15:Hid _:=hc15
 obtain ⟨s1,hs1⟩:∃ c,same tSt x.st y.st = c:=⟨_,rfl⟩
 rw [hs1] at hM
 obtain ⟨s2,hs2⟩:∃ c,decide (x.diff.kind = y.diff.kind) = c:=⟨_,rfl⟩
 have hv2':(x.diff.kind != y.diff.kind) = !s2:=by rw [← hs2];simp [bne,Bool.beq_eq_decide_eq]
 rw [hs2] at hM
 obtain ⟨s3,hs3⟩:∃ c,decide (x.diff.fr = y.diff.fr) = c:=⟨_,rfl⟩
 have hv3':((x.diff.fr:Int) != (y.diff.fr:Int)) = !s3:=by
  rw [← hs3]
  by_cases h:x.diff.fr = y.diff.fr
  ·simp [h]
  ·rw [decide_eq_false h]
   simp
   omega
 have hv3n:(x.diff.fr != y.diff.fr) = !s3:=by
  rw [← hs3]
  by_cases h:x.diff.fr = y.diff.fr
  ·simp [h]
  ·simp [h]
 rw [hs3] at hM
 obtain ⟨s4,hs4⟩:∃ c,same tSt x.diff.whole y.diff.whole = c:=⟨_,rfl⟩
 rw [hs4] at hM
 replace hs1:Hid _:=hs1
 replace hs2:Hid _:=hs2
 replace hs3:Hid _:=hs3
 replace hs4:Hid _:=hs4
 replace hM:Hid _:=hM
 have hle:=sx.log.ent_le
 have hcap:=sx.log.cap
 have hle':=sy.log.ent_le
 have hcap':=sy.log.cap
 go_enter Tryz.func16,Tryz.ntmps16
 go_upto_region 1 with fail
 refine wp_region_list ?_
 show wpList Tryz.prog _ _ [_,_,_,_,_,_,_,_,_,_,_,_,_,_,_,_,_,_,_,_,_,_,_,_,_,_,_,_,_,_,_,_,_,_,_,_,_,_,_,_,_,_,_,_,_] _ _
 refine xaf _ (.inl ⟨by rfl,fun W hS=>by subst hS;go_simp;try with_reducible rfl⟩) ?_
 try simp only [qp,qa,qb,qc]
 refine xaf (.agg (stL x.st a1 e1).toArray) (xaj (by rfl) 44 _ rfl (w.heap.size) 13 rfl (stL x.st a1 e1) _ Tryz.underlying44 rfl (xcg x.st a1 e1) (fun W hS=>by subst hS;exact hX.m_st)) ?_
 try simp only [qp,qa,qb,qc]
 refine xaf _ (.inl ⟨by rfl,fun W hS=>by subst hS;go_simp;try with_reducible rfl⟩) ?_
 try simp only [qp,qa,qb,qc]
 refine xaf (.agg (stL y.st b1 d1).toArray) (xaj (by rfl) 44 _ rfl (w.heap.size + 1) 13 rfl (stL y.st b1 d1) _ Tryz.underlying44 rfl (xcg y.st b1 d1) (fun W hS=>by subst hS;exact hY.m_st)) ?_
 try simp only [qp,qa,qb,qc]
 refine xer (by rfl) (fun K hK=>?_)
 go_simp
 refine (xfz x.st y.st a1 b1 e1 d1 _ hx.st hy.st sx.st sy.st).mono ?_
 rintro en w2 ⟨rfl,hq⟩
 refine hK.out _ _ ?_
 clear hK K
 try simp only [qp,qa,qb,qc]
 replace hX:=hX.later hq
 replace hY:=hY.later hq
 replace sx:=sx.later hq
 replace sy:=sy.later hq
 replace hb:=hb.trans (hq.mono hb.size)
 rw [hs1.out]
 clear hq
 iterate 2
  refine xaf _ (.inl ⟨by rfl,fun W hS=>by subst hS;go_simp;try with_reducible rfl⟩) ?_
  try simp only [qp,qa,qb,qc]
 cases s1 with
 | false =>
  replace hM:=hM.out
  have hM:Hid (xej x y = false):=by show _ = _;rw [hM];simp
  go_wp2
  go_ret
  exact ⟨by rw [hM.out];try rfl,hb⟩
 | true =>
 have xk:=hX.mc_dkind
 have yk:=hY.mc_dkind
 have xf:=hX.mc_dfrom
 have yf:=hY.mc_dfrom
 iterate 9
  refine xaf _ (.inl ⟨by rfl,fun W hS=>by subst hS;go_simp;try with_reducible rfl⟩) ?_
  try simp only [qp,qa,qb,qc]
 cases s2 with
 | false =>
  replace hM:=hM.out
  have hM:Hid (xej x y = false):=by show _ = _;rw [hM];simp
  go_wp2
  go_ret
  exact ⟨by rw [hM.out];try rfl,hb⟩
 | true =>
 iterate 9
  refine xaf _ (.inl ⟨by rfl,fun W hS=>by subst hS;go_simp;try with_reducible rfl⟩) ?_
  try simp only [qp,qa,qb,qc]
 cases s3 with
 | false =>
  replace hM:=hM.out
  have hM:Hid (xej x y = false):=by show _ = _;rw [hM];simp
  go_wp2
  go_ret
  exact ⟨by rw [hM.out];try rfl,hb⟩
 | true =>
 clear xk yk xf yf
 iterate 2
  refine xaf _ (.inl ⟨by rfl,fun W hS=>by subst hS;go_simp;try with_reducible rfl⟩) ?_
  try simp only [qp,qa,qb,qc]
 refine xaf (.agg (stL x.diff.whole a3 e3).toArray) (xaj (by rfl) 44 _ rfl (w.heap.size) 65 rfl (stL x.diff.whole a3 e3) _ Tryz.underlying44 rfl (xcg x.diff.whole a3 e3) (fun W hS=>by subst hS;exact hX.m_dwhole)) ?_
 try simp only [qp,qa,qb,qc]
 iterate 2
  refine xaf _ (.inl ⟨by rfl,fun W hS=>by subst hS;go_simp;try with_reducible rfl⟩) ?_
  try simp only [qp,qa,qb,qc]
 refine xaf (.agg (stL y.diff.whole b3 d3).toArray) (xaj (by rfl) 44 _ rfl (w.heap.size + 1) 65 rfl (stL y.diff.whole b3 d3) _ Tryz.underlying44 rfl (xcg y.diff.whole b3 d3) (fun W hS=>by subst hS;exact hY.m_dwhole)) ?_
 try simp only [qp,qa,qb,qc]
 refine xer (by rfl) (fun K hK=>?_)
 go_simp
 refine (xfz x.diff.whole y.diff.whole a3 b3 e3 d3 _ hx.diff.whole hy.diff.whole sx.whole sy.whole).mono ?_
 rintro en w3 ⟨rfl,hq⟩
 refine hK.out _ _ ?_
 clear hK K
 try simp only [qp,qa,qb,qc]
 replace hX:=hX.later hq
 replace hY:=hY.later hq
 replace sx:=sx.later hq
 replace sy:=sy.later hq
 replace hb:=hb.trans (hq.mono hb.size)
 rw [hs4.out]
 clear hq
 iterate 3
  refine xaf _ (.inl ⟨by rfl,fun W hS=>by subst hS;go_simp;try with_reducible rfl⟩) ?_
  try simp only [qp,qa,qb,qc]
 cases s4 with
 | false =>
  replace hM:=hM.out
  have hM:Hid (xej x y = false):=by show _ = _;rw [hM];simp
  go_wp2
  go_ret
  exact ⟨by rw [hM.out];try rfl,hb⟩
 | true =>
 have xl:=hX.mc_dlog
 have yl:=hY.mc_dlog
 by_cases hlen:x.diff.log.length = y.diff.log.length
 case neg =>
  have hI:((x.diff.log.length:Int) != (y.diff.log.length:Int)) = true:=by rw [bne_iff_ne];omega
  have hN:(x.diff.log.length != y.diff.log.length) = true:=by rw [bne_iff_ne];exact hlen
  have hF:same tRows x.diff.log y.diff.log = false:=same_not (fun e=>hlen (by rw [e]))
  have hM:Hid (xej x y = false):=by show _ = _;rw [hM.out,hF];simp
  clear hF
  go_wp2
  go_ret
  exact ⟨by rw [hM.out];try rfl,hb⟩
 have hI:((x.diff.log.length:Int) != (y.diff.log.length:Int)) = false:=by simp [hlen]
 have hN:(x.diff.log.length != y.diff.log.length) = false:=by simp [hlen]
 replace hlen:Hid _:=hlen
 go_wp2
 clear xl yl hI hN
 have sxx:Hid (∀ W,Below w3.heap.size w3 W → MsgSl W x a1 e1 a2 e2 a3 e3):=fun W h=>sx.later h
 have syy:Hid (∀ W,Below w3.heap.size w3 W → MsgSl W y b1 d1 b2 d2 b3 d3):=fun W h=>sy.later h
 go_loopw [5] (fun i wr=>∃ n:Nat,n ≤ x.diff.log.length ∧ i = .int .i64 n ∧ Has wr w.heap.size 48 (msgC x a1 e1 a2 e2 a3 e3) ∧ Has wr (w.heap.size + 1) 48 (msgC y b1 d1 b2 d2 b3 d3) ∧ Below w3.heap.size w3 wr ∧ Hid (x.diff.log.take n = y.diff.log.take n)) (fun i _=>x.diff.log.length - (intOf i).toNat)
 case atStart=>exact ⟨0,Nat.zero_le _,rfl,hX,hY,Below.refl _ _,rfl⟩
 case round =>
  clear hX hY sx sy
  obtain ⟨n,hn,rfl,hX,hY,hbr,hc⟩:=hrel
  have xl:=hX.mc_dlog
  by_cases hlt:n < x.diff.log.length
  ·have hlt':n < y.diff.log.length:=by have:=hlen.out;omega
   have sr:=(sxx.out _ hbr).log
   have ss:=(syy.out _ hbr).log
   cases a2 with
   | none=>have:=sr.nil rfl;omega
   | some ad =>
   cases b2 with
   | none=>have:=ss.nil rfl;omega
   | some bd =>
    have hxx:=fun W (hW:Below wr.heap.size wr W)=>ent_at (sr.later hW) n hlt
    have hyy:=fun W (hW:Below wr.heap.size wr W)=>ent_at (ss.later hW) n hlt'
    have hxo:=hx.diff.log x.diff.log[n] (List.getElem_mem hlt)
    have hyo:=hy.diff.log y.diff.log[n] (List.getElem_mem hlt')
    have hnext:Hid _:=same_take x.diff.log y.diff.log n hlt hlt'
    have hno:Hid (x.diff.log[n] ≠ y.diff.log[n] → same tRows x.diff.log y.diff.log = false):=fun hne=>same_not (fun e=>hne (by
     have:∀ (l m:List EntV) (hl:n < l.length) (hm:n < m.length),l = m → l[n] = m[n]:=fun l m hl hm e=>by subst e;rfl
     exact this _ _ hlt hlt' e))
    have hltI:(n:Int) < (x.diff.log.length:Int):=by omega
    have hltJ:(n:Int) < (y.diff.log.length:Int):=by omega
    generalize x.diff.log[n] = xe at *
    generalize y.diff.log[n] = ye at *
    have heq:=fun W=>neqv_ent xe ye hxo hyo W
    have hbA:Below wr.heap.size wr wr.drew:=(Below.refl _ _).drew
    clear sr ss
    go_wp2
    refine xas (fun W=>Below wr.heap.size wr W) (Plan.of [(0,true),(1,true),(2,true),(3,true),(4,true),(5,true),(6,true),(7,true),(8,true),(9,true),(10,true),(11,true),(12,true)] .done) (by kernel_rfl) (by kernel_rfl) (by kernel_rfl) (by kernel_rfl) hbA ?_
    iterate 2
     first
      | (refine xad _ rfl (by rfl) ?_)
      | (refine xaa _ _ rfl (.inl ⟨by rfl,fun W hS=>by clear hS;go_simp;try with_reducible rfl⟩) ?_)
     try simp only [qp,qa,qb,qc]
    iterate 1
     first
      | (refine xad _ rfl (by rfl) ?_)
      | (refine xaa _ _ rfl (.inl ⟨by rfl,fun W hS=>by have z0:=(hX.later hS).mc_dlog;go_simp;try with_reducible rfl⟩) ?_)
     try simp only [qp,qa,qb,qc]
    iterate 2
     first
      | (refine xad _ rfl (by rfl) ?_)
      | (refine xaa _ _ rfl (.inl ⟨by rfl,fun W hS=>by clear hS;go_simp;try with_reducible rfl⟩) ?_)
     try simp only [qp,qa,qb,qc]
    refine xaa _ _ rfl (.inl ⟨by rfl,fun W hW=>xdy 41 _ rfl _ rfl (entL xe) _ (hxx W hW) Tryz.underlying41 rfl (xax xe)⟩) ?_
    try simp only [qp,qa,qb,qc]
    iterate 2
     first
      | (refine xad _ rfl (by rfl) ?_)
      | (refine xaa _ _ rfl (.inl ⟨by rfl,fun W hS=>by clear hS;go_simp;try with_reducible rfl⟩) ?_)
     try simp only [qp,qa,qb,qc]
    iterate 1
     first
      | (refine xad _ rfl (by rfl) ?_)
      | (refine xaa _ _ rfl (.inl ⟨by rfl,fun W hS=>by have z0:=(hY.later hS).mc_dlog;go_simp;try with_reducible rfl⟩) ?_)
     try simp only [qp,qa,qb,qc]
    iterate 2
     first
      | (refine xad _ rfl (by rfl) ?_)
      | (refine xaa _ _ rfl (.inl ⟨by rfl,fun W hS=>by clear hS;go_simp;try with_reducible rfl⟩) ?_)
     try simp only [qp,qa,qb,qc]
    refine xaa _ _ rfl (.inl ⟨by rfl,fun W hW=>xdy 41 _ rfl _ rfl (entL ye) _ (hyy W hW) Tryz.underlying41 rfl (xax ye)⟩) ?_
    try simp only [qp,qa,qb,qc]
    refine xaa _ _ rfl (xbh (by rfl) .neq 41 _ _ _ rfl (entC xe) (entC ye) rfl rfl (.bool (!same tEnt xe ye)) xdv heq) ?_
    try simp only [qp,qa,qb,qc]
    refine xbf ?_
    have hX2:=hX.later hbA
    have hY2:=hY.later hbA
    have hbr2:=hbr.trans (hbA.mono hbr.size)
    have hb2:=hb.trans (hbr2.mono hb.size)
    clear hxx hyy heq hbA
    cases hsm:same tEnt xe ye with
    | false =>
     have hF:Hid _:=hno.out (fun e=>by rw [(xcn xe ye).2 e] at hsm;cases hsm)
     have hM2:Hid (xej x y = false):=by show _ = _;rw [hM.out,hF.out];simp
     go_wp2
     go_ret
     exact ⟨by rw [hM2.out];try rfl,hb2⟩
    | true =>
     have hF:Hid _:=hnext.out.2 ⟨hc.out,(xcn xe ye).1 hsm⟩
     go_wp2
     go_roundw
     case rel=>exact ⟨n + 1,by omega,by go_num,hX2,hY2,hbr2,hF⟩
     case measure=>simp [intOf];omega
  ·have e5:n = x.diff.log.length:=by omega
   subst e5
   have hF:same tRows x.diff.log y.diff.log = true:=(xcn x.diff.log y.diff.log).2 (by
    have h2:=hlen.out
    have h3:=hc.out
    rw [List.take_length,h2,List.take_length] at h3
    exact h3)
   replace hM:=hM.out
   rw [hF] at hM
   replace hM:Hid _:=hM
   replace hb:=hb.trans (hbr.mono hb.size)
   clear hc hF hbr sxx syy
   have x_kind:=hX.mc_kind
   have y_kind:=hY.mc_kind
   have x_src:=hX.mc_src
   have y_src:=hY.mc_src
   have x_dst:=hX.mc_dst
   have y_dst:=hY.mc_dst
   have x_epoch:=hX.mc_epoch
   have y_epoch:=hY.mc_epoch
   have x_has:=hX.mc_has
   have y_has:=hY.mc_has
   have x_group:=hX.mc_group
   have y_group:=hY.mc_group
   go_upto_region 8 with fail
   refine wp_region_list ?_
   show wpList Tryz.prog _ _ [_,_,_,_,_,_,_,_,_,_,_,_,_,_,_,_,_,_,_,_,_,_,_,_,_,_,_,_,_,_,_,_,_,_,_,_,_,_,_,_,_,_,_,_,_,_,_,_,_,_,_,_,_,_,_,_,_,_,_,_,_,_,_,_,_,_,_,_,_,_,_,_,_,_,_,_,_,_,_,_,_,_,_,_,_,_,_,_,_,_] _ _
   iterate 6
    refine xaf _ (.inl ⟨by rfl,fun W hS=>by subst hS;go_simp;try with_reducible rfl⟩) ?_
    try simp only [qp,qa,qb,qc]
   cases c1 with
   | false =>
    refine xbj 4 false (by kernel_rfl) (fun a' h1 h2=>?_)
    go_wp2
    refine bodyPost_ret (results_tmp rfl _ _ _) h2 ?_
    rw [h1]
    exact ⟨by rw [hM.out];try rfl,hb⟩
   | true =>
   iterate 7
    refine xaf _ (.inl ⟨by rfl,fun W hS=>by subst hS;go_simp;try with_reducible rfl⟩) ?_
    try simp only [qp,qa,qb,qc]
   cases c2 with
   | false =>
    refine xbj 4 false (by kernel_rfl) (fun a' h1 h2=>?_)
    go_wp2
    refine bodyPost_ret (results_tmp rfl _ _ _) h2 ?_
    rw [h1]
    exact ⟨by rw [hM.out];try rfl,hb⟩
   | true =>
   iterate 7
    refine xaf _ (.inl ⟨by rfl,fun W hS=>by subst hS;go_simp;try with_reducible rfl⟩) ?_
    try simp only [qp,qa,qb,qc]
   cases c3 with
   | false =>
    refine xbj 4 false (by kernel_rfl) (fun a' h1 h2=>?_)
    go_wp2
    refine bodyPost_ret (results_tmp rfl _ _ _) h2 ?_
    rw [h1]
    exact ⟨by rw [hM.out];try rfl,hb⟩
   | true =>
   iterate 7
    refine xaf _ (.inl ⟨by rfl,fun W hS=>by subst hS;go_simp;try with_reducible rfl⟩) ?_
    try simp only [qp,qa,qb,qc]
   cases c4 with
   | false =>
    refine xbj 4 false (by kernel_rfl) (fun a' h1 h2=>?_)
    go_wp2
    refine bodyPost_ret (results_tmp rfl _ _ _) h2 ?_
    rw [h1]
    exact ⟨by rw [hM.out];try rfl,hb⟩
   | true =>
   refine xaf _ (.inl ⟨by rfl,fun W hS=>by subst hS;go_simp;try with_reducible rfl⟩) ?_
   try simp only [qp,qa,qb,qc]
   refine xaf (.agg ((balC x.b).toList).toArray) (xaj (by rfl) 24 _ rfl (w.heap.size) 4 rfl ((balC x.b).toList) _ Tryz.underlying24 rfl (xbx x.b) (fun W hS=>by subst hS;exact hX.m_b)) ?_
   try simp only [qp,qa,qb,qc]
   refine xaf _ (.inl ⟨by rfl,fun W hS=>by subst hS;go_simp;try with_reducible rfl⟩) ?_
   try simp only [qp,qa,qb,qc]
   refine xaf (.agg ((balC y.b).toList).toArray) (xaj (by rfl) 24 _ rfl (w.heap.size + 1) 4 rfl ((balC y.b).toList) _ Tryz.underlying24 rfl (xbx y.b) (fun W hS=>by subst hS;exact hY.m_b)) ?_
   try simp only [qp,qa,qb,qc]
   have eqw:Hid _:=fun W=>eq_bal x.b y.b hx.b hy.b W
   rw [hc5.out] at eqw
   refine xaf (.bool c5) (xbh (by rfl) .eql 24 _ _ _ rfl (balC x.b) (balC y.b) rfl rfl (.bool c5) xfn (fun W=>by rw [eqw.out W])) ?_
   try simp only [qp,qa,qb,qc]
   clear eqw
   iterate 2
    refine xaf _ (.inl ⟨by rfl,fun W hS=>by subst hS;go_simp;try with_reducible rfl⟩) ?_
    try simp only [qp,qa,qb,qc]
   cases c5 with
   | false =>
    refine xbj 4 false (by kernel_rfl) (fun a' h1 h2=>?_)
    go_wp2
    refine bodyPost_ret (results_tmp rfl _ _ _) h2 ?_
    rw [h1]
    exact ⟨by rw [hM.out];try rfl,hb⟩
   | true =>
   refine xaf _ (.inl ⟨by rfl,fun W hS=>by subst hS;go_simp;try with_reducible rfl⟩) ?_
   try simp only [qp,qa,qb,qc]
   refine xaf (.agg ((balC x.acc).toList).toArray) (xaj (by rfl) 24 _ rfl (w.heap.size) 6 rfl ((balC x.acc).toList) _ Tryz.underlying24 rfl (xbx x.acc) (fun W hS=>by subst hS;exact hX.m_acc)) ?_
   try simp only [qp,qa,qb,qc]
   refine xaf _ (.inl ⟨by rfl,fun W hS=>by subst hS;go_simp;try with_reducible rfl⟩) ?_
   try simp only [qp,qa,qb,qc]
   refine xaf (.agg ((balC y.acc).toList).toArray) (xaj (by rfl) 24 _ rfl (w.heap.size + 1) 6 rfl ((balC y.acc).toList) _ Tryz.underlying24 rfl (xbx y.acc) (fun W hS=>by subst hS;exact hY.m_acc)) ?_
   try simp only [qp,qa,qb,qc]
   have eqw:Hid _:=fun W=>eq_bal x.acc y.acc hx.acc hy.acc W
   rw [hc6.out] at eqw
   refine xaf (.bool c6) (xbh (by rfl) .eql 24 _ _ _ rfl (balC x.acc) (balC y.acc) rfl rfl (.bool c6) xfn (fun W=>by rw [eqw.out W])) ?_
   try simp only [qp,qa,qb,qc]
   clear eqw
   iterate 2
    refine xaf _ (.inl ⟨by rfl,fun W hS=>by subst hS;go_simp;try with_reducible rfl⟩) ?_
    try simp only [qp,qa,qb,qc]
   cases c6 with
   | false =>
    refine xbj 4 false (by kernel_rfl) (fun a' h1 h2=>?_)
    go_wp2
    refine bodyPost_ret (results_tmp rfl _ _ _) h2 ?_
    rw [h1]
    exact ⟨by rw [hM.out];try rfl,hb⟩
   | true =>
   iterate 7
    refine xaf _ (.inl ⟨by rfl,fun W hS=>by subst hS;go_simp;try with_reducible rfl⟩) ?_
    try simp only [qp,qa,qb,qc]
   cases c7 with
   | false =>
    refine xbj 4 false (by kernel_rfl) (fun a' h1 h2=>?_)
    go_wp2
    refine bodyPost_ret (results_tmp rfl _ _ _) h2 ?_
    rw [h1]
    exact ⟨by rw [hM.out];try rfl,hb⟩
   | true =>
   refine xaf _ (.inl ⟨by rfl,fun W hS=>by subst hS;go_simp;try with_reducible rfl⟩) ?_
   try simp only [qp,qa,qb,qc]
   refine xaf (.agg ((incC x.inc).toList).toArray) (xaj (by rfl) 26 _ rfl (w.heap.size) 9 rfl ((incC x.inc).toList) _ Tryz.underlying26 rfl (ws_inc x.inc) (fun W hS=>by subst hS;exact hX.m_inc)) ?_
   try simp only [qp,qa,qb,qc]
   refine xaf _ (.inl ⟨by rfl,fun W hS=>by subst hS;go_simp;try with_reducible rfl⟩) ?_
   try simp only [qp,qa,qb,qc]
   refine xaf (.agg ((incC y.inc).toList).toArray) (xaj (by rfl) 26 _ rfl (w.heap.size + 1) 9 rfl ((incC y.inc).toList) _ Tryz.underlying26 rfl (ws_inc y.inc) (fun W hS=>by subst hS;exact hY.m_inc)) ?_
   try simp only [qp,qa,qb,qc]
   have eqw:Hid _:=fun W=>eq_inc x.inc y.inc hx.inc hy.inc W
   rw [hc8.out] at eqw
   refine xaf (.bool c8) (xbh (by rfl) .eql 26 _ _ _ rfl (incC x.inc) (incC y.inc) rfl rfl (.bool c8) guard_inc (fun W=>by rw [eqw.out W])) ?_
   try simp only [qp,qa,qb,qc]
   clear eqw
   iterate 2
    refine xaf _ (.inl ⟨by rfl,fun W hS=>by subst hS;go_simp;try with_reducible rfl⟩) ?_
    try simp only [qp,qa,qb,qc]
   cases c8 with
   | false =>
    refine xbj 4 false (by kernel_rfl) (fun a' h1 h2=>?_)
    go_wp2
    refine bodyPost_ret (results_tmp rfl _ _ _) h2 ?_
    rw [h1]
    exact ⟨by rw [hM.out];try rfl,hb⟩
   | true =>
   iterate 7
    refine xaf _ (.inl ⟨by rfl,fun W hS=>by subst hS;go_simp;try with_reducible rfl⟩) ?_
    try simp only [qp,qa,qb,qc]
   cases c9 with
   | false =>
    refine xbj 4 false (by kernel_rfl) (fun a' h1 h2=>?_)
    go_wp2
    refine bodyPost_ret (results_tmp rfl _ _ _) h2 ?_
    rw [h1]
    exact ⟨by rw [hM.out];try rfl,hb⟩
   | true =>
   clear x_kind y_kind x_src y_src x_dst y_dst x_epoch y_epoch x_has y_has x_group y_group
   refine xaf _ (.inl ⟨by rfl,fun W hS=>by subst hS;go_simp;try with_reducible rfl⟩) ?_
   try simp only [qp,qa,qb,qc]
   refine xaf (.agg (entL x.ent).toArray) (xaj (by rfl) 41 _ rfl (w.heap.size) 114 rfl (entL x.ent) _ Tryz.underlying41 rfl (xax x.ent) (fun W hS=>by subst hS;exact hX.m_ent)) ?_
   try simp only [qp,qa,qb,qc]
   refine xaf _ (.inl ⟨by rfl,fun W hS=>by subst hS;go_simp;try with_reducible rfl⟩) ?_
   try simp only [qp,qa,qb,qc]
   refine xaf (.agg (entL y.ent).toArray) (xaj (by rfl) 41 _ rfl (w.heap.size + 1) 114 rfl (entL y.ent) _ Tryz.underlying41 rfl (xax y.ent) (fun W hS=>by subst hS;exact hY.m_ent)) ?_
   try simp only [qp,qa,qb,qc]
   have eqw:Hid _:=fun W=>eqv_ent x.ent y.ent hx.ent hy.ent W
   rw [hc12.out] at eqw
   refine xaf (.bool c12) (xbh (by rfl) .eql 41 _ _ _ rfl (entC x.ent) (entC y.ent) rfl rfl (.bool c12) xdv (fun W=>by rw [eqw.out W])) ?_
   try simp only [qp,qa,qb,qc]
   clear eqw
   iterate 2
    refine xaf _ (.inl ⟨by rfl,fun W hS=>by subst hS;go_simp;try with_reducible rfl⟩) ?_
    try simp only [qp,qa,qb,qc]
   cases c12 with
   | false =>
    refine xbj 4 false (by kernel_rfl) (fun a' h1 h2=>?_)
    go_wp2
    refine bodyPost_ret (results_tmp rfl _ _ _) h2 ?_
    rw [h1]
    exact ⟨by rw [hM.out];try rfl,hb⟩
   | true =>
   have x_n:=hX.mc_n
   have y_n:=hY.mc_n
   iterate 7
    refine xaf _ (.inl ⟨by rfl,fun W hS=>by subst hS;go_simp;try with_reducible rfl⟩) ?_
    try simp only [qp,qa,qb,qc]
   cases c13 with
   | false =>
    refine xbj 4 false (by kernel_rfl) (fun a' h1 h2=>?_)
    go_wp2
    refine bodyPost_ret (results_tmp rfl _ _ _) h2 ?_
    rw [h1]
    exact ⟨by rw [hM.out];try rfl,hb⟩
   | true =>
   refine xaf _ (.inl ⟨by rfl,fun W hS=>by subst hS;go_simp;try with_reducible rfl⟩) ?_
   try simp only [qp,qa,qb,qc]
   refine xaf (.agg (opL x.op).toArray) (xaj (by rfl) 39 _ rfl (w.heap.size) 123 rfl (opL x.op) _ Tryz.underlying39 rfl (xca x.op) (fun W hS=>by subst hS;exact hX.m_op)) ?_
   try simp only [qp,qa,qb,qc]
   refine xaf _ (.inl ⟨by rfl,fun W hS=>by subst hS;go_simp;try with_reducible rfl⟩) ?_
   try simp only [qp,qa,qb,qc]
   refine xaf (.agg (opL y.op).toArray) (xaj (by rfl) 39 _ rfl (w.heap.size + 1) 123 rfl (opL y.op) _ Tryz.underlying39 rfl (xca y.op) (fun W hS=>by subst hS;exact hY.m_op)) ?_
   try simp only [qp,qa,qb,qc]
   have eqw:Hid (∀ W,(binOp .eql 39 (.agg (opC x.op)) (.agg (opC y.op))).run Tryz.prog W = .ok (.bool (same tOp x.op y.op)) W):=fun W=>eq_op x.op y.op hx.op hy.op W
   rw [hc14.out] at eqw
   refine xaf (.bool c14) (xbh (by rfl) .eql 39 _ _ _ rfl (opC x.op) (opC y.op) rfl rfl (.bool c14) xgq (fun W=>by rw [eqw.out W])) ?_
   try simp only [qp,qa,qb,qc]
   clear eqw
   iterate 2
    refine xaf _ (.inl ⟨by rfl,fun W hS=>by subst hS;go_simp;try with_reducible rfl⟩) ?_
    try simp only [qp,qa,qb,qc]
   cases c14 with
   | false =>
    refine xbj 4 false (by kernel_rfl) (fun a' h1 h2=>?_)
    go_wp2
    refine bodyPost_ret (results_tmp rfl _ _ _) h2 ?_
    rw [h1]
    exact ⟨by rw [hM.out];try rfl,hb⟩
   | true =>
   refine xaf _ (.inl ⟨by rfl,fun W hS=>by subst hS;go_simp;try with_reducible rfl⟩) ?_
   try simp only [qp,qa,qb,qc]
   refine xaf (.agg (resL x.r).toArray) (xaj (by rfl) 32 _ rfl (w.heap.size) 129 rfl (resL x.r) _ Tryz.underlying32 rfl (xeb x.r) (fun W hS=>by subst hS;exact hX.m_r)) ?_
   try simp only [qp,qa,qb,qc]
   refine xaf _ (.inl ⟨by rfl,fun W hS=>by subst hS;go_simp;try with_reducible rfl⟩) ?_
   try simp only [qp,qa,qb,qc]
   refine xaf (.agg (resL y.r).toArray) (xaj (by rfl) 32 _ rfl (w.heap.size + 1) 129 rfl (resL y.r) _ Tryz.underlying32 rfl (xeb y.r) (fun W hS=>by subst hS;exact hY.m_r)) ?_
   try simp only [qp,qa,qb,qc]
   have eqw:Hid _:=fun W=>eqv_res x.r y.r hx.r.code hx.r.data hy.r.code hy.r.data W
   rw [hc15.out] at eqw
   refine xaf (.bool c15) (xbh (by rfl) .eql 32 _ _ _ rfl (resC x.r) (resC y.r) rfl rfl (.bool c15) guard_res (fun W=>by rw [eqw.out W])) ?_
   try simp only [qp,qa,qb,qc]
   clear eqw
   iterate 2
    refine xaf _ (.inl ⟨by rfl,fun W hS=>by subst hS;go_simp;try with_reducible rfl⟩) ?_
    try simp only [qp,qa,qb,qc]
   refine wpList_nil ?_
   go_wp2
   go_ret
   exact ⟨by rw [hM.out];try rfl,hb⟩
end Go.Proofs.YtecilienolabfaaGreatDoor
