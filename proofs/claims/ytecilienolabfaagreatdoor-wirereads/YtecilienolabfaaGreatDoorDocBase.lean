/- DocMath, DocEnds, DocZero, DocRest, RefInc, DocForm, DocDiff, joined. -/
import Derived.Test.YtecilienolabfaaGreatDoorMsgFacts
import Derived.Test.YtecilienolabfaaGreatDoorWireFew
import Derived.Test.YtecilienolabfaaGreatDoorWireSame
import Derived.Test.YtecilienolabfaaGreatDoorRefSame
import Derived.Test.YtecilienolabfaaGreatDoorWireIs
import Derived.Test.YtecilienolabfaaGreatDoorPackMaps
import Derived.Deep.Cut
namespace Go.Proofs.YtecilienolabfaaGreatDoor
set_option linter.unusedSimpArgs false
set_option linter.unusedVariables false
set_option maxRecDepth 100000
open Go.RowKit
def monD (n:Nat):Bool:=decide (n < 3)
def osdD (n:Nat):Bool:=decide (10 ≤ n) && decide (n < 15)
def cliD (n:Nat):Bool:=decide (21 ≤ n) && decide (n < 24)
def endsD (k s d:Nat):Bool :=
 if k = 1 ∨ k = 2 ∨ k = 3 ∨ k = 4 ∨ k = 18 then monD s && monD d
 else if k = 5 then monD s && (monD d || osdD d)
 else if k = 6 then (monD s || osdD s) && monD d
 else if k = 15 then cliD s && osdD d
 else if k = 16 then osdD s && cliD d
 else if k = 17 then osdD s && monD d
 else osdD s && osdD d
def zeroDf (d:DiffV):Bool:=decide (d.kind = 0) && (decide (d.fr = 0) && (decide (d.log.length = 0) && same tSt d.whole st0))
def zeroD (m:MsgV):Bool :=
 decide (m.epoch = 0) && (xcr m.b bal0 && (xcr m.acc bal0 && (!m.has && (xea m.inc inc0 && (decide (m.group = 0) && (same tSt m.st st0 && (zeroDf m.diff && (same tEnt m.ent ent0 && (decide (m.n = 0) && (same tOp m.op op0 && same tRes m.r res0))))))))))
def restD (m:MsgV):MsgV :=
 ⟨m.kind,m.src,m.dst,if m.kind = 15 ∨ m.kind = 16 ∨ m.kind = 17 then m.epoch else 0,
  if m.kind = 1 ∨ m.kind = 2 ∨ m.kind = 3 ∨ m.kind = 4 ∨ m.kind = 18 then bal0 else m.b,
  if m.kind = 2 then bal0 else m.acc,if m.kind = 2 then false else m.has,
  if m.kind = 2 ∨ m.kind = 3 ∨ m.kind = 5 then inc0 else m.inc,
  if 7 ≤ m.kind ∧ m.kind ≤ 14 then 0 else m.group,
  if m.kind = 8 then st0 else m.st,if m.kind = 9 then diff0 else m.diff,if m.kind = 11 then ent0 else m.ent,
  if m.kind = 10 ∨ m.kind = 12 ∨ m.kind = 17 then 0 else m.n,
  if 13 ≤ m.kind ∧ m.kind ≤ 16 then op0 else m.op,if m.kind = 16 then res0 else m.r⟩
def firstD (l:List EntV):Bool:=match l with
 | []=>true
 | e :: t=>decide (0 < e.n) && isSt ⟨0,base0,⟨0,e.n - 1,op0⟩,e :: t⟩
def diffD (d:DiffV):Bool :=
 if d.kind = 2 then decide (d.fr = 0) && (decide (d.log.length = 0) && isSt d.whole)
 else if d.kind < 0 ∨ 2 < d.kind ∨ same tSt (endsM d.whole) d.whole = false ∨ isSt (endsM d.whole) = false ∨ 6 < d.log.length then false
 else if d.kind = 0 then decide (d.fr = 0) && decide (d.log.length = 0)
 else firstD d.log
def slotD (m:MsgV):Bool:=decide (2 ≤ m.epoch) && decide (m.epoch ≤ 60)
def epD (m:MsgV):Bool:=decide (1 ≤ m.epoch) && decide (m.epoch ≤ 60)
def grpD (m:MsgV):Bool:=epD m && decide (m.group < 4)
def condD (m:MsgV):Bool :=
 if m.kind = 1 ∨ m.kind = 3 ∨ m.kind = 2 ∨ m.kind = 4 then
  slotD m && (isB m.b && (decide (m.b.who = if m.kind = 1 ∨ m.kind = 3 then m.src else m.dst) &&
   (if m.kind = 2 then (!m.has && (xcr m.acc bal0 && xea m.inc inc0)) || (m.has && (isB m.acc && isInc m.inc)) else if m.kind = 3 then isInc m.inc else true)))
 else if m.kind = 18 then slotD m && isB m.b
 else if m.kind = 5 then slotD m && isInc m.inc
 else if m.kind = 6 then epD m
 else if m.kind = 7 ∨ m.kind = 10 ∨ m.kind = 12 then grpD m
 else if m.kind = 8 then grpD m && isSt m.st
 else if m.kind = 9 then grpD m && diffD m.diff
 else if m.kind = 11 then grpD m && (xdz m.ent.op && (decide (0 < m.ent.n) && (decide (1 ≤ m.ent.since) && decide (m.ent.since ≤ 60))))
 else if m.kind = 13 ∨ m.kind = 14 then grpD m && (isOpM m.op && decide (m.op.kind = 5))
 else if m.kind = 15 then isOpM m.op && decide (m.op.client = (m.src + 236) % 256)
 else if m.kind = 16 then isOpM m.op && (decide (m.op.client = (m.dst + 236) % 256) && (decide (m.r.code ≤ 3) && decide (m.r.data.length ≤ 80)))
 else decide (m.n < 5)
def isD (m:MsgV):Bool:=decide (1 ≤ m.kind ∧ m.kind ≤ 18) && (endsD m.kind m.src m.dst && (decide (m.src ≠ m.dst) && (zeroD (restD m) && condD m)))
theorem side_1 (n:Nat):(1 &&& sideM n ≠ 0) ↔ monD n = true:=by
 unfold sideM monD
 rw [decide_eq_true_iff]
 split
 ·simp;omega
 ·split
  ·simp;omega
  ·split <;> (simp;omega)
theorem side_2 (n:Nat):(2 &&& sideM n ≠ 0) ↔ osdD n = true:=by
 unfold sideM osdD
 rw [Bool.and_eq_true,decide_eq_true_iff,decide_eq_true_iff]
 split
 ·simp;omega
 ·split
  ·simp;omega
  ·split <;> (simp;omega)
theorem side_3 (n:Nat):(3 &&& sideM n ≠ 0) ↔ (monD n || osdD n) = true:=by
 unfold sideM osdD monD
 rw [Bool.or_eq_true,Bool.and_eq_true,decide_eq_true_iff,decide_eq_true_iff,decide_eq_true_iff]
 split
 ·simp;omega
 ·split
  ·simp;omega
  ·split <;> (simp;omega)
theorem side_4 (n:Nat):(4 &&& sideM n ≠ 0) ↔ cliD n = true:=by
 unfold sideM cliD
 rw [Bool.and_eq_true,decide_eq_true_iff,decide_eq_true_iff]
 split
 ·simp;omega
 ·split
  ·simp;omega
  ·split <;> (simp;omega)
theorem zeroDf_is (d:DiffV):zeroDf d = true ↔ d = diff0:=by
 obtain ⟨k,f,l,w⟩:=d
 unfold zeroDf diff0
 simp [xcn]
theorem xdj (m:MsgV):zeroD m = true ↔ m.epoch = 0 ∧ m.b = bal0 ∧ m.acc = bal0 ∧ m.has = false ∧ m.inc = inc0 ∧ m.group = 0 ∧ m.st = st0 ∧ m.diff = diff0 ∧ m.ent = ent0 ∧ m.n = 0 ∧ m.op = op0 ∧ m.r = res0:=by
 unfold zeroD
 simp [xcn,xcf,xcc,zeroDf_is]
theorem first_lg (l:List EntV) (ho:∀ e ∈ l,EntOk e) (hl:l.length ≤ 6):firstD l = isLgM l:=by
 cases l with
 | nil=>rfl
 | cons e t =>
  have hn:=(ho e (by simp)).n
  show (decide (0 < e.n) && isSt ⟨0,base0,⟨0,e.n - 1,op0⟩,e :: t⟩) = isSt ⟨0,base0,⟨0,(e.n + 4294967295) % 4294967296,op0⟩,e :: t⟩
  by_cases h0:0 < e.n
  ·have e1:(e.n + 4294967295) % 4294967296 = e.n - 1:=by omega
   rw [e1,decide_eq_true h0,Bool.true_and]
  ·have e1:e.n = 0:=by omega
   rw [decide_eq_false h0,Bool.false_and]
   symm
   rw [Bool.eq_false_iff]
   intro h
   obtain ⟨_,_,_,_,h5⟩:=(is_is _).1 h
   have h5:(xdf ⟨0,(e.n + 4294967295) % 4294967296,op0⟩ e && chainM (posE e) t) = true:=h5
   rw [Bool.and_eq_true] at h5
   have:=(xhb.1 h5.1).2.1
   have:e.n = (e.n + 4294967295) % 4294967296 + 1:=this
   omega
theorem lg_len {l:List EntV} (h:isLgM l = true):l.length ≤ 6:=by
 cases l with
 | nil=>decide
 | cons e t =>
  unfold isLgM at h
  exact ((is_is _).1 h).2.2.2.1
theorem diff_is (d:DiffV) (ho:DiffOk d):diffD d = xcq d:=by
 have hends:(same tSt (endsM d.whole) d.whole = true ∧ isSt (endsM d.whole) = true) ↔ xfr d.whole = true:=by
  unfold xfr
  rw [Bool.and_eq_true,xcn,xcn]
  constructor
  ·rintro ⟨e,h⟩;rw [e] at h;exact ⟨h,e.symm⟩
  ·rintro ⟨h,e⟩;exact ⟨e.symm,by rw [← e];exact h⟩
 rw [Bool.eq_iff_iff]
 unfold diffD xcq bearsM
 by_cases h2:d.kind = 2
 ·rw [if_pos h2,if_neg (by omega),if_neg (by omega),if_pos h2]
  simp only [Bool.and_eq_true,decide_eq_true_iff,Bool.not_eq_true',Bool.or_eq_false_iff,decide_eq_false_iff_not]
  constructor
  ·rintro ⟨a,b,c⟩;exact ⟨⟨by omega,by omega⟩,c⟩
  ·rintro ⟨⟨a,b⟩,c⟩;exact ⟨by omega,by omega,c⟩
 ·rw [if_neg h2]
  by_cases h0:d.kind = 0
  ·rw [if_pos h0,if_pos h0]
   by_cases hE:xfr d.whole = true
   ·obtain ⟨e1,e2⟩:=hends.2 hE
    rw [hE,e1,e2]
    by_cases hl:6 < d.log.length
    ·rw [if_pos (.inr (.inr (.inr (.inr hl))))]
     simp
     intro _ h
     rw [h] at hl
     simp at hl
    ·rw [if_neg (by rintro (h | h | h | h | h) <;> first | omega | cases h)]
     simp
   ·have hn:d.kind < 0 ∨ 2 < d.kind ∨ same tSt (endsM d.whole) d.whole = false ∨ isSt (endsM d.whole) = false ∨ 6 < d.log.length:=by
     cases h1:same tSt (endsM d.whole) d.whole with
     | false=>exact .inr (.inr (.inl rfl))
     | true =>
      cases h3:isSt (endsM d.whole) with
      | false=>exact .inr (.inr (.inr (.inl rfl)))
      | true=>exact absurd (hends.1 ⟨h1,h3⟩) hE
    rw [if_pos hn,Bool.eq_false_iff.2 hE]
    simp
  ·rw [if_neg h0,if_neg h0,if_neg h2]
   by_cases h1:d.kind = 1
   ·rw [if_pos h1]
    by_cases hE:xfr d.whole = true
    ·obtain ⟨e1,e2⟩:=hends.2 hE
     rw [hE,e1,e2,Bool.and_true]
     by_cases hl:6 < d.log.length
     ·rw [if_pos (.inr (.inr (.inr (.inr hl))))]
      constructor
      ·intro h;cases h
      ·intro h;have:=lg_len h;omega
     ·rw [if_neg (by rintro (h | h | h | h | h) <;> first | omega | cases h),first_lg _ ho.log (by omega)]
    ·have hn:d.kind < 0 ∨ 2 < d.kind ∨ same tSt (endsM d.whole) d.whole = false ∨ isSt (endsM d.whole) = false ∨ 6 < d.log.length:=by
      cases h1:same tSt (endsM d.whole) d.whole with
      | false=>exact .inr (.inr (.inl rfl))
      | true =>
       cases h3:isSt (endsM d.whole) with
       | false=>exact .inr (.inr (.inr (.inl rfl)))
       | true=>exact absurd (hends.1 ⟨h1,h3⟩) hE
     rw [if_pos hn,Bool.eq_false_iff.2 hE,Bool.and_false]
   ·rw [if_neg h1,if_pos (by omega)]
theorem st_norm {s:StV} (h:isSt s = true) (ho:StOk s):statN s = s:=stG_self (isSt_G h ho)
theorem diff_norm {d:DiffV} (h:xcq d = true) (ho:DiffOk d):difN d = d:=difG_self (dif_G h ho)
theorem xef (m:MsgV):onlyM m = m ↔ ifN (decide ((shapeM m.kind).bal ≠ 0)) bal0 m.b = m.b ∧ ifN (shapeM m.kind).pro bal0 m.acc = m.acc ∧ ifN (shapeM m.kind).pro false m.has = m.has ∧ ifN (shapeM m.kind).inc inc0 m.inc = m.inc ∧
  ifN (shapeM m.kind).grp 0 m.group = m.group ∧ ifN (shapeM m.kind).st st0 (statN m.st) = m.st ∧ ifN (shapeM m.kind).dif diff0 (difN m.diff) = m.diff ∧ ifN (shapeM m.kind).ent ent0 m.ent = m.ent ∧ ifN (decide (0 < (shapeM m.kind).mostN)) 0 m.n = m.n ∧
  ifN (decide ((shapeM m.kind).op ≠ 0)) op0 m.op = m.op ∧ ifN (shapeM m.kind).res res0 m.r = m.r:=by
 obtain ⟨k,src,dst,ep,b,acc,has,inc,grp,st,diff,ent,n,op,r⟩:=m
 unfold onlyM
 simp only [MsgV.mk.injEq,true_and]
def sideOk (f n:Nat):Bool:=decide (f &&& sideM n ≠ 0)
theorem sok_1 (n:Nat):sideOk 1 n = monD n:=by unfold sideOk;rw [Bool.eq_iff_iff,decide_eq_true_iff];exact side_1 n
theorem sok_2 (n:Nat):sideOk 2 n = osdD n:=by unfold sideOk;rw [Bool.eq_iff_iff,decide_eq_true_iff];exact side_2 n
theorem sok_3 (n:Nat):sideOk 3 n = (monD n || osdD n):=by unfold sideOk;rw [Bool.eq_iff_iff,decide_eq_true_iff];exact side_3 n
theorem sok_4 (n:Nat):sideOk 4 n = cliD n:=by unfold sideOk;rw [Bool.eq_iff_iff,decide_eq_true_iff];exact side_4 n
theorem xeg (s:ShV) (m:MsgV):goesM s m = true ↔ sideOk s.fr m.src = true ∧ sideOk s.dst m.dst = true ∧ m.src ≠ m.dst:=by
 unfold goesM sideOk
 simp only [Bool.and_eq_true,decide_eq_true_iff]
section
variable {src dst ep:Nat} {b acc:BalV} {has:Bool} {inc:IncV} {grp:Nat} {st:StV} {diff:DiffV} {ent:EntV} {n:Nat} {op:OpV} {r:ResV}
theorem kind_1 (ho:MsgOk ⟨1,src,dst,ep,b,acc,has,inc,grp,st,diff,ent,n,op,r⟩):isD ⟨1,src,dst,ep,b,acc,has,inc,grp,st,diff,ent,n,op,r⟩ = isMsg ⟨1,src,dst,ep,b,acc,has,inc,grp,st,diff,ent,n,op,r⟩:=by
 have hr1:res0.code = 0:=rfl
 have hr2:res0.data.length = 0:=rfl
 clear ho
 rw [Bool.eq_iff_iff,xch,xef,xeg]
 unfold isD
 simp only [Bool.and_eq_true,decide_eq_true_iff,xdj]
 simp [shapeM,sok_1,sok_2,sok_3,sok_4,restD,endsD,condD,slotD,epD,grpD,fitsM,xcv,xcp,xcj,xct,ownsM,ifN,isEntM,xcf,xcc]
 grind
theorem kind_2 (ho:MsgOk ⟨2,src,dst,ep,b,acc,has,inc,grp,st,diff,ent,n,op,r⟩):isD ⟨2,src,dst,ep,b,acc,has,inc,grp,st,diff,ent,n,op,r⟩ = isMsg ⟨2,src,dst,ep,b,acc,has,inc,grp,st,diff,ent,n,op,r⟩:=by
 have hr1:res0.code = 0:=rfl
 have hr2:res0.data.length = 0:=rfl
 clear ho
 rw [Bool.eq_iff_iff,xch,xef,xeg]
 unfold isD
 simp only [Bool.and_eq_true,decide_eq_true_iff,xdj]
 simp [shapeM,sok_1,sok_2,sok_3,sok_4,restD,endsD,condD,slotD,epD,grpD,fitsM,xcv,xcp,xcj,xct,ownsM,ifN,isEntM,xcf,xcc]
 grind
theorem kind_3 (ho:MsgOk ⟨3,src,dst,ep,b,acc,has,inc,grp,st,diff,ent,n,op,r⟩):isD ⟨3,src,dst,ep,b,acc,has,inc,grp,st,diff,ent,n,op,r⟩ = isMsg ⟨3,src,dst,ep,b,acc,has,inc,grp,st,diff,ent,n,op,r⟩:=by
 have hr1:res0.code = 0:=rfl
 have hr2:res0.data.length = 0:=rfl
 clear ho
 rw [Bool.eq_iff_iff,xch,xef,xeg]
 unfold isD
 simp only [Bool.and_eq_true,decide_eq_true_iff,xdj]
 simp [shapeM,sok_1,sok_2,sok_3,sok_4,restD,endsD,condD,slotD,epD,grpD,fitsM,xcv,xcp,xcj,xct,ownsM,ifN,isEntM,xcf,xcc]
 grind
theorem kind_4 (ho:MsgOk ⟨4,src,dst,ep,b,acc,has,inc,grp,st,diff,ent,n,op,r⟩):isD ⟨4,src,dst,ep,b,acc,has,inc,grp,st,diff,ent,n,op,r⟩ = isMsg ⟨4,src,dst,ep,b,acc,has,inc,grp,st,diff,ent,n,op,r⟩:=by
 have hr1:res0.code = 0:=rfl
 have hr2:res0.data.length = 0:=rfl
 clear ho
 rw [Bool.eq_iff_iff,xch,xef,xeg]
 unfold isD
 simp only [Bool.and_eq_true,decide_eq_true_iff,xdj]
 simp [shapeM,sok_1,sok_2,sok_3,sok_4,restD,endsD,condD,slotD,epD,grpD,fitsM,xcv,xcp,xcj,xct,ownsM,ifN,isEntM,xcf,xcc]
 grind
theorem kind_5 (ho:MsgOk ⟨5,src,dst,ep,b,acc,has,inc,grp,st,diff,ent,n,op,r⟩):isD ⟨5,src,dst,ep,b,acc,has,inc,grp,st,diff,ent,n,op,r⟩ = isMsg ⟨5,src,dst,ep,b,acc,has,inc,grp,st,diff,ent,n,op,r⟩:=by
 have hr1:res0.code = 0:=rfl
 have hr2:res0.data.length = 0:=rfl
 clear ho
 rw [Bool.eq_iff_iff,xch,xef,xeg]
 unfold isD
 simp only [Bool.and_eq_true,decide_eq_true_iff,xdj]
 simp [shapeM,sok_1,sok_2,sok_3,sok_4,restD,endsD,condD,slotD,epD,grpD,fitsM,xcv,xcp,xcj,xct,ownsM,ifN,isEntM,xcf,xcc]
 grind
theorem kind_6 (ho:MsgOk ⟨6,src,dst,ep,b,acc,has,inc,grp,st,diff,ent,n,op,r⟩):isD ⟨6,src,dst,ep,b,acc,has,inc,grp,st,diff,ent,n,op,r⟩ = isMsg ⟨6,src,dst,ep,b,acc,has,inc,grp,st,diff,ent,n,op,r⟩:=by
 have hr1:res0.code = 0:=rfl
 have hr2:res0.data.length = 0:=rfl
 clear ho
 rw [Bool.eq_iff_iff,xch,xef,xeg]
 unfold isD
 simp only [Bool.and_eq_true,decide_eq_true_iff,xdj]
 simp [shapeM,sok_1,sok_2,sok_3,sok_4,restD,endsD,condD,slotD,epD,grpD,fitsM,xcv,xcp,xcj,xct,ownsM,ifN,isEntM,xcf,xcc]
 grind
theorem kind_7 (ho:MsgOk ⟨7,src,dst,ep,b,acc,has,inc,grp,st,diff,ent,n,op,r⟩):isD ⟨7,src,dst,ep,b,acc,has,inc,grp,st,diff,ent,n,op,r⟩ = isMsg ⟨7,src,dst,ep,b,acc,has,inc,grp,st,diff,ent,n,op,r⟩:=by
 have hr1:res0.code = 0:=rfl
 have hr2:res0.data.length = 0:=rfl
 clear ho
 rw [Bool.eq_iff_iff,xch,xef,xeg]
 unfold isD
 simp only [Bool.and_eq_true,decide_eq_true_iff,xdj]
 simp [shapeM,sok_1,sok_2,sok_3,sok_4,restD,endsD,condD,slotD,epD,grpD,fitsM,xcv,xcp,xcj,xct,ownsM,ifN,isEntM,xcf,xcc]
 grind
theorem kind_8 (ho:MsgOk ⟨8,src,dst,ep,b,acc,has,inc,grp,st,diff,ent,n,op,r⟩):isD ⟨8,src,dst,ep,b,acc,has,inc,grp,st,diff,ent,n,op,r⟩ = isMsg ⟨8,src,dst,ep,b,acc,has,inc,grp,st,diff,ent,n,op,r⟩:=by
 have hr1:res0.code = 0:=rfl
 have hr2:res0.data.length = 0:=rfl
 have hst:isSt st = true → statN st = st:=fun h=>st_norm h ho.st
 have hg:grp < 256:=ho.group
 clear ho
 rw [Bool.eq_iff_iff,xch,xef,xeg]
 unfold isD
 simp only [Bool.and_eq_true,decide_eq_true_iff,xdj]
 simp [shapeM,sok_1,sok_2,sok_3,sok_4,restD,endsD,condD,slotD,epD,grpD,fitsM,xcv,xcp,xcj,xct,ownsM,ifN,isEntM,xcf,xcc]
 grind
theorem kind_9 (ho:MsgOk ⟨9,src,dst,ep,b,acc,has,inc,grp,st,diff,ent,n,op,r⟩):isD ⟨9,src,dst,ep,b,acc,has,inc,grp,st,diff,ent,n,op,r⟩ = isMsg ⟨9,src,dst,ep,b,acc,has,inc,grp,st,diff,ent,n,op,r⟩:=by
 have hr1:res0.code = 0:=rfl
 have hr2:res0.data.length = 0:=rfl
 have hdf:xcq diff = true → difN diff = diff:=fun h=>diff_norm h ho.diff
 have hdd:diffD diff = xcq diff:=diff_is diff ho.diff
 have hg:grp < 256:=ho.group
 clear ho
 rw [Bool.eq_iff_iff,xch,xef,xeg]
 unfold isD
 simp only [Bool.and_eq_true,decide_eq_true_iff,xdj]
 simp [shapeM,sok_1,sok_2,sok_3,sok_4,restD,endsD,condD,slotD,epD,grpD,fitsM,xcv,xcp,xcj,xct,ownsM,ifN,isEntM,xcf,xcc,hdd]
 grind
theorem kind_10 (ho:MsgOk ⟨10,src,dst,ep,b,acc,has,inc,grp,st,diff,ent,n,op,r⟩):isD ⟨10,src,dst,ep,b,acc,has,inc,grp,st,diff,ent,n,op,r⟩ = isMsg ⟨10,src,dst,ep,b,acc,has,inc,grp,st,diff,ent,n,op,r⟩:=by
 have hr1:res0.code = 0:=rfl
 have hr2:res0.data.length = 0:=rfl
 have hn:n < 4294967296:=ho.n
 clear ho
 rw [Bool.eq_iff_iff,xch,xef,xeg]
 unfold isD
 simp only [Bool.and_eq_true,decide_eq_true_iff,xdj]
 simp [shapeM,sok_1,sok_2,sok_3,sok_4,restD,endsD,condD,slotD,epD,grpD,fitsM,xcv,xcp,xcj,xct,ownsM,ifN,isEntM,xcf,xcc]
 grind
theorem kind_11 (ho:MsgOk ⟨11,src,dst,ep,b,acc,has,inc,grp,st,diff,ent,n,op,r⟩):isD ⟨11,src,dst,ep,b,acc,has,inc,grp,st,diff,ent,n,op,r⟩ = isMsg ⟨11,src,dst,ep,b,acc,has,inc,grp,st,diff,ent,n,op,r⟩:=by
 have hr1:res0.code = 0:=rfl
 have hr2:res0.data.length = 0:=rfl
 clear ho
 rw [Bool.eq_iff_iff,xch,xef,xeg]
 unfold isD
 simp only [Bool.and_eq_true,decide_eq_true_iff,xdj]
 simp [shapeM,sok_1,sok_2,sok_3,sok_4,restD,endsD,condD,slotD,epD,grpD,fitsM,xcv,xcp,xcj,xct,ownsM,ifN,isEntM,xcf,xcc]
 grind
theorem kind_12 (ho:MsgOk ⟨12,src,dst,ep,b,acc,has,inc,grp,st,diff,ent,n,op,r⟩):isD ⟨12,src,dst,ep,b,acc,has,inc,grp,st,diff,ent,n,op,r⟩ = isMsg ⟨12,src,dst,ep,b,acc,has,inc,grp,st,diff,ent,n,op,r⟩:=by
 have hr1:res0.code = 0:=rfl
 have hr2:res0.data.length = 0:=rfl
 have hn:n < 4294967296:=ho.n
 clear ho
 rw [Bool.eq_iff_iff,xch,xef,xeg]
 unfold isD
 simp only [Bool.and_eq_true,decide_eq_true_iff,xdj]
 simp [shapeM,sok_1,sok_2,sok_3,sok_4,restD,endsD,condD,slotD,epD,grpD,fitsM,xcv,xcp,xcj,xct,ownsM,ifN,isEntM,xcf,xcc]
 grind
theorem kind_13 (ho:MsgOk ⟨13,src,dst,ep,b,acc,has,inc,grp,st,diff,ent,n,op,r⟩):isD ⟨13,src,dst,ep,b,acc,has,inc,grp,st,diff,ent,n,op,r⟩ = isMsg ⟨13,src,dst,ep,b,acc,has,inc,grp,st,diff,ent,n,op,r⟩:=by
 have hr1:res0.code = 0:=rfl
 have hr2:res0.data.length = 0:=rfl
 clear ho
 rw [Bool.eq_iff_iff,xch,xef,xeg]
 unfold isD
 simp only [Bool.and_eq_true,decide_eq_true_iff,xdj]
 simp [shapeM,sok_1,sok_2,sok_3,sok_4,restD,endsD,condD,slotD,epD,grpD,fitsM,xcv,xcp,xcj,xct,ownsM,ifN,isEntM,xcf,xcc]
 grind
theorem kind_14 (ho:MsgOk ⟨14,src,dst,ep,b,acc,has,inc,grp,st,diff,ent,n,op,r⟩):isD ⟨14,src,dst,ep,b,acc,has,inc,grp,st,diff,ent,n,op,r⟩ = isMsg ⟨14,src,dst,ep,b,acc,has,inc,grp,st,diff,ent,n,op,r⟩:=by
 have hr1:res0.code = 0:=rfl
 have hr2:res0.data.length = 0:=rfl
 clear ho
 rw [Bool.eq_iff_iff,xch,xef,xeg]
 unfold isD
 simp only [Bool.and_eq_true,decide_eq_true_iff,xdj]
 simp [shapeM,sok_1,sok_2,sok_3,sok_4,restD,endsD,condD,slotD,epD,grpD,fitsM,xcv,xcp,xcj,xct,ownsM,ifN,isEntM,xcf,xcc]
 grind
theorem kind_15 (ho:MsgOk ⟨15,src,dst,ep,b,acc,has,inc,grp,st,diff,ent,n,op,r⟩):isD ⟨15,src,dst,ep,b,acc,has,inc,grp,st,diff,ent,n,op,r⟩ = isMsg ⟨15,src,dst,ep,b,acc,has,inc,grp,st,diff,ent,n,op,r⟩:=by
 have hr1:res0.code = 0:=rfl
 have hr2:res0.data.length = 0:=rfl
 have hcl:isOpM op = true → 1 ≤ op.client ∧ op.client ≤ 3:=fun h=>⟨((isOp_is op).1 h).1,((isOp_is op).1 h).2.1⟩
 have hs:src < 256:=ho.src
 have hd:dst < 256:=ho.dst
 clear ho
 rw [Bool.eq_iff_iff,xch,xef,xeg]
 unfold isD
 simp only [Bool.and_eq_true,decide_eq_true_iff,xdj]
 simp [shapeM,sok_1,sok_2,sok_3,sok_4,restD,endsD,condD,slotD,epD,grpD,fitsM,xcv,xcp,xcj,xct,ownsM,ifN,isEntM,xcf,xcc]
 grind
theorem kind_16 (ho:MsgOk ⟨16,src,dst,ep,b,acc,has,inc,grp,st,diff,ent,n,op,r⟩):isD ⟨16,src,dst,ep,b,acc,has,inc,grp,st,diff,ent,n,op,r⟩ = isMsg ⟨16,src,dst,ep,b,acc,has,inc,grp,st,diff,ent,n,op,r⟩:=by
 have hr1:res0.code = 0:=rfl
 have hr2:res0.data.length = 0:=rfl
 have hcl:isOpM op = true → 1 ≤ op.client ∧ op.client ≤ 3:=fun h=>⟨((isOp_is op).1 h).1,((isOp_is op).1 h).2.1⟩
 have hs:src < 256:=ho.src
 have hd:dst < 256:=ho.dst
 clear ho
 rw [Bool.eq_iff_iff,xch,xef,xeg]
 unfold isD
 simp only [Bool.and_eq_true,decide_eq_true_iff,xdj]
 simp [shapeM,sok_1,sok_2,sok_3,sok_4,restD,endsD,condD,slotD,epD,grpD,fitsM,xcv,xcp,xcj,xct,ownsM,ifN,isEntM,xcf,xcc]
 grind
theorem kind_17 (ho:MsgOk ⟨17,src,dst,ep,b,acc,has,inc,grp,st,diff,ent,n,op,r⟩):isD ⟨17,src,dst,ep,b,acc,has,inc,grp,st,diff,ent,n,op,r⟩ = isMsg ⟨17,src,dst,ep,b,acc,has,inc,grp,st,diff,ent,n,op,r⟩:=by
 have hr1:res0.code = 0:=rfl
 have hr2:res0.data.length = 0:=rfl
 clear ho
 rw [Bool.eq_iff_iff,xch,xef,xeg]
 unfold isD
 simp only [Bool.and_eq_true,decide_eq_true_iff,xdj]
 simp [shapeM,sok_1,sok_2,sok_3,sok_4,restD,endsD,condD,slotD,epD,grpD,fitsM,xcv,xcp,xcj,xct,ownsM,ifN,isEntM,xcf,xcc]
 grind
theorem kind_18 (ho:MsgOk ⟨18,src,dst,ep,b,acc,has,inc,grp,st,diff,ent,n,op,r⟩):isD ⟨18,src,dst,ep,b,acc,has,inc,grp,st,diff,ent,n,op,r⟩ = isMsg ⟨18,src,dst,ep,b,acc,has,inc,grp,st,diff,ent,n,op,r⟩:=by
 have hr1:res0.code = 0:=rfl
 have hr2:res0.data.length = 0:=rfl
 clear ho
 rw [Bool.eq_iff_iff,xch,xef,xeg]
 unfold isD
 simp only [Bool.and_eq_true,decide_eq_true_iff,xdj]
 simp [shapeM,sok_1,sok_2,sok_3,sok_4,restD,endsD,condD,slotD,epD,grpD,fitsM,xcv,xcp,xcj,xct,ownsM,ifN,isEntM,xcf,xcc]
 grind
end
theorem isD_is (m:MsgV) (ho:MsgOk m):isD m = isMsg m:=by
 by_cases hk:1 ≤ m.kind ∧ m.kind ≤ 18
 ·obtain ⟨k,src,dst,ep,b,acc,has,inc,grp,st,diff,ent,n,op,r⟩:=m
  replace hk:1 ≤ k ∧ k ≤ 18:=hk
  rcases (by omega:k = 1 ∨ k = 2 ∨ k = 3 ∨ k = 4 ∨ k = 5 ∨ k = 6 ∨ k = 7 ∨ k = 8 ∨ k = 9 ∨ k = 10 ∨ k = 11 ∨ k = 12 ∨ k = 13 ∨ k = 14 ∨ k = 15 ∨ k = 16 ∨ k = 17 ∨ k = 18) with rfl | rfl | rfl | rfl | rfl | rfl | rfl | rfl | rfl | rfl | rfl | rfl | rfl | rfl | rfl | rfl | rfl | rfl
  ·exact kind_1 ho
  ·exact kind_2 ho
  ·exact kind_3 ho
  ·exact kind_4 ho
  ·exact kind_5 ho
  ·exact kind_6 ho
  ·exact kind_7 ho
  ·exact kind_8 ho
  ·exact kind_9 ho
  ·exact kind_10 ho
  ·exact kind_11 ho
  ·exact kind_12 ho
  ·exact kind_13 ho
  ·exact kind_14 ho
  ·exact kind_15 ho
  ·exact kind_16 ho
  ·exact kind_17 ho
  ·exact kind_18 ho
 ·unfold isD
  rw [decide_eq_false hk,Bool.false_and]
  cases h:isMsg m with
  | false=>rfl
  | true =>
   obtain ⟨g,_,_⟩:=xch.1 h
   rw [shape_other hk] at g
   unfold goesM at g
   simp only [Bool.and_eq_true,decide_eq_true_iff] at g
   exact absurd (Nat.zero_and _) g.1

theorem xen (n:Nat) (w:World):Calls Tryz.prog 83 #[.int .u8 (n:Nat)] w fun e w'=>e = .returned (.bool (monD n)) ∧ w' = w:=by
 have hD:decide ((n:Int) < 3) = monD n:=by unfold monD;rw [Bool.eq_iff_iff,decide_eq_true_iff,decide_eq_true_iff];omega
 replace hD:Hid _:=hD
 go_enter Tryz.func83,Tryz.ntmps83
 go_wp2
 go_ret
 exact ⟨by rw [← hD.out];rfl,rfl⟩
theorem xdo (n:Nat) (w:World):Calls Tryz.prog 84 #[.int .u8 (n:Nat)] w fun e w'=>e = .returned (.bool (osdD n)) ∧ w' = w:=by
 by_cases h1:10 ≤ n
 ·have h1I:(10:Int) ≤ (n:Int):=by omega
  have h1J:¬ (n:Int) < 10:=by omega
  by_cases h2:n < 15
  ·have hD:Hid (osdD n = true):=by show _ = _;unfold osdD;rw [decide_eq_true h1,decide_eq_true h2];rfl
   have h2I:(n:Int) < 15:=by omega
   clear h1 h2
   go_enter Tryz.func84,Tryz.ntmps84
   go_wp2
   go_ret
   exact ⟨by rw [hD.out];rfl,rfl⟩
  ·have hD:Hid (osdD n = false):=by show _ = _;unfold osdD;rw [decide_eq_true h1,decide_eq_false h2];rfl
   have h2I:¬ (n:Int) < 15:=by omega
   have h2J:(15:Int) ≤ (n:Int):=by omega
   clear h1 h2
   go_enter Tryz.func84,Tryz.ntmps84
   go_wp2
   go_ret
   exact ⟨by rw [hD.out];rfl,rfl⟩
 ·have hD:Hid (osdD n = false):=by show _ = _;unfold osdD;rw [decide_eq_false h1];rfl
  have h1I:¬ (10:Int) ≤ (n:Int):=by omega
  have h1J:(n:Int) < 10:=by omega
  clear h1
  go_enter Tryz.func84,Tryz.ntmps84
  go_wp2
  go_ret
  exact ⟨by rw [hD.out];rfl,rfl⟩
theorem cli_any (n:Nat) (w:World):Calls Tryz.prog 85 #[.int .u8 (n:Nat)] w fun e w'=>e = .returned (.bool (cliD n)) ∧ w' = w:=by
 by_cases h1:21 ≤ n
 ·have h1I:(21:Int) ≤ (n:Int):=by omega
  have h1J:¬ (n:Int) < 21:=by omega
  by_cases h2:n < 24
  ·have hD:Hid (cliD n = true):=by show _ = _;unfold cliD;rw [decide_eq_true h1,decide_eq_true h2];rfl
   have h2I:(n:Int) < 24:=by omega
   clear h1 h2
   go_enter Tryz.func85,Tryz.ntmps85
   go_wp2
   go_ret
   exact ⟨by rw [hD.out];rfl,rfl⟩
  ·have hD:Hid (cliD n = false):=by show _ = _;unfold cliD;rw [decide_eq_true h1,decide_eq_false h2];rfl
   have h2I:¬ (n:Int) < 24:=by omega
   have h2J:(24:Int) ≤ (n:Int):=by omega
   clear h1 h2
   go_enter Tryz.func85,Tryz.ntmps85
   go_wp2
   go_ret
   exact ⟨by rw [hD.out];rfl,rfl⟩
 ·have hD:Hid (cliD n = false):=by show _ = _;unfold cliD;rw [decide_eq_false h1];rfl
  have h1I:¬ (21:Int) ≤ (n:Int):=by omega
  have h1J:(n:Int) < 21:=by omega
  clear h1
  go_enter Tryz.func85,Tryz.ntmps85
  go_wp2
  go_ret
  exact ⟨by rw [hD.out];rfl,rfl⟩
set_option maxHeartbeats 16000000 in
theorem ends_any (m:MsgV) (a1 a2 a3:Option Addr) (c1 c2 c3:Nat) (w:World) (hk:1 ≤ m.kind ∧ m.kind ≤ 18) :
  Calls Tryz.prog 43 #[.agg (msgC m a1 c1 a2 c2 a3 c3)] w fun e w'=>e = .returned (.bool (endsD m.kind m.src m.dst)) ∧ Below w.heap.size w w':=by
 obtain ⟨w1,hw1,hX,hb⟩:=xbr w 48 (msgC m a1 c1 a2 c2 a3 c3)
 have x0:=hX.mc_kind
 have x1:=hX.mc_src
 have x2:=hX.mc_dst
 clear hX
 obtain ⟨src,hsrc⟩:∃ n,m.src = n:=⟨_,rfl⟩
 obtain ⟨dst,hdst⟩:∃ n,m.dst = n:=⟨_,rfl⟩
 obtain ⟨kk,hkk⟩:∃ n,m.kind = n:=⟨_,rfl⟩
 rw [hkk] at x0 hk ⊢
 rw [hsrc] at x1 ⊢
 rw [hdst] at x2 ⊢
 clear hsrc hdst hkk
 go_enter Tryz.func43,Tryz.ntmps43
 go_upto_region 1 with fail
 refine xas (fun W=>W.cell? ⟨w.heap.size,1,none⟩ = some (.int .u8 (src:Nat)) ∧ W.cell? ⟨w.heap.size,2,none⟩ = some (.int .u8 (dst:Nat))) (Plan.of [(0,true),(1,true),(2,true),(3,true),(4,true),(5,true)] .done) (by kernel_rfl) (by kernel_rfl) (by kernel_rfl) (by kernel_rfl) ⟨x1,x2⟩ ?_
 replace hb:=hb.drew
 have x0:w1.drew.cell? ⟨w.heap.size,0,none⟩ = some (.int .u8 (kk:Nat)):=x0
 clear x1 x2
 generalize w1.drew = w2 at *
 iterate 1
  first
   | (refine xad _ rfl (by rfl) ?_)
   | (refine xaa _ _ rfl (.inl ⟨by rfl,fun W hS=>by clear hS;go_simp;try with_reducible rfl⟩) ?_)
  try simp only [qp,qa,qb,qc]
 iterate 1
  first
   | (refine xad _ rfl (by rfl) ?_)
   | (refine xaa _ _ rfl (.inl ⟨by rfl,fun W hS=>by have z:=hS.1;go_simp;try with_reducible rfl⟩) ?_)
  try simp only [qp,qa,qb,qc]
 iterate 1
  first
   | (refine xad _ rfl (by rfl) ?_)
   | (refine xaa _ _ rfl (.inl ⟨by rfl,fun W hS=>by clear hS;go_simp;try with_reducible rfl⟩) ?_)
  try simp only [qp,qa,qb,qc]
 iterate 1
  first
   | (refine xad _ rfl (by rfl) ?_)
   | (refine xaa _ _ rfl (.inl ⟨by rfl,fun W hS=>by have z:=hS.2;go_simp;try with_reducible rfl⟩) ?_)
  try simp only [qp,qa,qb,qc]
 iterate 2
  first
   | (refine xad _ rfl (by rfl) ?_)
   | (refine xaa _ _ rfl (.inl ⟨by rfl,fun W hS=>by clear hS;go_simp;try with_reducible rfl⟩) ?_)
  try simp only [qp,qa,qb,qc]
 refine xbf ?_
 rcases (by omega:kk = 1 ∨ kk = 2 ∨ kk = 3 ∨ kk = 4 ∨ kk = 5 ∨ kk = 6 ∨ kk = 7 ∨ kk = 8 ∨ kk = 9 ∨ kk = 10 ∨ kk = 11 ∨ kk = 12 ∨ kk = 13 ∨ kk = 14 ∨ kk = 15 ∨ kk = 16 ∨ kk = 17 ∨ kk = 18) with rfl | rfl | rfl | rfl | rfl | rfl | rfl | rfl | rfl | rfl | rfl | rfl | rfl | rfl | rfl | rfl | rfl | rfl
 ·
  go_wp2_with fail
  refine (xen src _).mono ?_
  rintro e w' ⟨rfl,rfl⟩
  cases h_ms:monD src with
  | false =>
   have hD:Hid (endsD 1 src dst = false):=by show _ = _;unfold endsD;simp [h_ms]
   clear h_ms
   go_wp2
   go_ret
   exact ⟨by rw [hD.out];rfl,hb⟩
  | true =>
   go_wp2_with fail
   refine (xen dst _).mono ?_
   rintro e w' ⟨rfl,rfl⟩
   cases h_md:monD dst with
   | false =>
    have hD:Hid (endsD 1 src dst = false):=by show _ = _;unfold endsD;simp [h_ms,h_md]
    clear h_ms h_md
    go_wp2
    go_ret
    exact ⟨by rw [hD.out];rfl,hb⟩
   | true =>
    have hD:Hid (endsD 1 src dst = true):=by show _ = _;unfold endsD;simp [h_ms,h_md]
    clear h_ms h_md
    go_wp2
    go_ret
    exact ⟨by rw [hD.out];rfl,hb⟩
 ·
  go_wp2_with fail
  refine (xen src _).mono ?_
  rintro e w' ⟨rfl,rfl⟩
  cases h_ms:monD src with
  | false =>
   have hD:Hid (endsD 2 src dst = false):=by show _ = _;unfold endsD;simp [h_ms]
   clear h_ms
   go_wp2
   go_ret
   exact ⟨by rw [hD.out];rfl,hb⟩
  | true =>
   go_wp2_with fail
   refine (xen dst _).mono ?_
   rintro e w' ⟨rfl,rfl⟩
   cases h_md:monD dst with
   | false =>
    have hD:Hid (endsD 2 src dst = false):=by show _ = _;unfold endsD;simp [h_ms,h_md]
    clear h_ms h_md
    go_wp2
    go_ret
    exact ⟨by rw [hD.out];rfl,hb⟩
   | true =>
    have hD:Hid (endsD 2 src dst = true):=by show _ = _;unfold endsD;simp [h_ms,h_md]
    clear h_ms h_md
    go_wp2
    go_ret
    exact ⟨by rw [hD.out];rfl,hb⟩
 ·
  go_wp2_with fail
  refine (xen src _).mono ?_
  rintro e w' ⟨rfl,rfl⟩
  cases h_ms:monD src with
  | false =>
   have hD:Hid (endsD 3 src dst = false):=by show _ = _;unfold endsD;simp [h_ms]
   clear h_ms
   go_wp2
   go_ret
   exact ⟨by rw [hD.out];rfl,hb⟩
  | true =>
   go_wp2_with fail
   refine (xen dst _).mono ?_
   rintro e w' ⟨rfl,rfl⟩
   cases h_md:monD dst with
   | false =>
    have hD:Hid (endsD 3 src dst = false):=by show _ = _;unfold endsD;simp [h_ms,h_md]
    clear h_ms h_md
    go_wp2
    go_ret
    exact ⟨by rw [hD.out];rfl,hb⟩
   | true =>
    have hD:Hid (endsD 3 src dst = true):=by show _ = _;unfold endsD;simp [h_ms,h_md]
    clear h_ms h_md
    go_wp2
    go_ret
    exact ⟨by rw [hD.out];rfl,hb⟩
 ·
  go_wp2_with fail
  refine (xen src _).mono ?_
  rintro e w' ⟨rfl,rfl⟩
  cases h_ms:monD src with
  | false =>
   have hD:Hid (endsD 4 src dst = false):=by show _ = _;unfold endsD;simp [h_ms]
   clear h_ms
   go_wp2
   go_ret
   exact ⟨by rw [hD.out];rfl,hb⟩
  | true =>
   go_wp2_with fail
   refine (xen dst _).mono ?_
   rintro e w' ⟨rfl,rfl⟩
   cases h_md:monD dst with
   | false =>
    have hD:Hid (endsD 4 src dst = false):=by show _ = _;unfold endsD;simp [h_ms,h_md]
    clear h_ms h_md
    go_wp2
    go_ret
    exact ⟨by rw [hD.out];rfl,hb⟩
   | true =>
    have hD:Hid (endsD 4 src dst = true):=by show _ = _;unfold endsD;simp [h_ms,h_md]
    clear h_ms h_md
    go_wp2
    go_ret
    exact ⟨by rw [hD.out];rfl,hb⟩
 ·
  go_wp2_with fail
  refine (xen src _).mono ?_
  rintro e w' ⟨rfl,rfl⟩
  cases h_ms:monD src with
  | false =>
   have hD:Hid (endsD 5 src dst = false):=by show _ = _;unfold endsD;simp [h_ms]
   clear h_ms
   go_wp2
   go_ret
   exact ⟨by rw [hD.out];rfl,hb⟩
  | true =>
   go_wp2_with fail
   refine (xen dst _).mono ?_
   rintro e w' ⟨rfl,rfl⟩
   cases h_md:monD dst with
   | false =>
    go_wp2_with fail
    refine (xdo dst _).mono ?_
    rintro e w' ⟨rfl,rfl⟩
    cases h_od:osdD dst with
    | false =>
     have hD:Hid (endsD 5 src dst = false):=by show _ = _;unfold endsD;simp [h_ms,h_md,h_od]
     clear h_ms h_md h_od
     go_wp2
     go_ret
     exact ⟨by rw [hD.out];rfl,hb⟩
    | true =>
     have hD:Hid (endsD 5 src dst = true):=by show _ = _;unfold endsD;simp [h_ms,h_md,h_od]
     clear h_ms h_md h_od
     go_wp2
     go_ret
     exact ⟨by rw [hD.out];rfl,hb⟩
   | true =>
    have hD:Hid (endsD 5 src dst = true):=by show _ = _;unfold endsD;simp [h_ms,h_md]
    clear h_ms h_md
    go_wp2
    go_ret
    exact ⟨by rw [hD.out];rfl,hb⟩
 ·
  go_wp2_with fail
  refine (xen src _).mono ?_
  rintro e w' ⟨rfl,rfl⟩
  cases h_ms:monD src with
  | false =>
   go_wp2_with fail
   refine (xdo src _).mono ?_
   rintro e w' ⟨rfl,rfl⟩
   cases h_os:osdD src with
   | false =>
    have hD:Hid (endsD 6 src dst = false):=by show _ = _;unfold endsD;simp [h_ms,h_os]
    clear h_ms h_os
    go_wp2
    go_ret
    exact ⟨by rw [hD.out];rfl,hb⟩
   | true =>
    go_wp2_with fail
    refine (xen dst _).mono ?_
    rintro e w' ⟨rfl,rfl⟩
    cases h_md:monD dst with
    | false =>
     have hD:Hid (endsD 6 src dst = false):=by show _ = _;unfold endsD;simp [h_ms,h_os,h_md]
     clear h_ms h_os h_md
     go_wp2
     go_ret
     exact ⟨by rw [hD.out];rfl,hb⟩
    | true =>
     have hD:Hid (endsD 6 src dst = true):=by show _ = _;unfold endsD;simp [h_ms,h_os,h_md]
     clear h_ms h_os h_md
     go_wp2
     go_ret
     exact ⟨by rw [hD.out];rfl,hb⟩
  | true =>
   go_wp2_with fail
   refine (xen dst _).mono ?_
   rintro e w' ⟨rfl,rfl⟩
   cases h_md:monD dst with
   | false =>
    have hD:Hid (endsD 6 src dst = false):=by show _ = _;unfold endsD;simp [h_ms,h_md]
    clear h_ms h_md
    go_wp2
    go_ret
    exact ⟨by rw [hD.out];rfl,hb⟩
   | true =>
    have hD:Hid (endsD 6 src dst = true):=by show _ = _;unfold endsD;simp [h_ms,h_md]
    clear h_ms h_md
    go_wp2
    go_ret
    exact ⟨by rw [hD.out];rfl,hb⟩
 ·
  go_wp2_with fail
  refine (xdo src _).mono ?_
  rintro e w' ⟨rfl,rfl⟩
  cases h_os:osdD src with
  | false =>
   have hD:Hid (endsD 7 src dst = false):=by show _ = _;unfold endsD;simp [h_os]
   clear h_os
   go_wp2
   go_ret
   exact ⟨by rw [hD.out];rfl,hb⟩
  | true =>
   go_wp2_with fail
   refine (xdo dst _).mono ?_
   rintro e w' ⟨rfl,rfl⟩
   cases h_od:osdD dst with
   | false =>
    have hD:Hid (endsD 7 src dst = false):=by show _ = _;unfold endsD;simp [h_os,h_od]
    clear h_os h_od
    go_wp2
    go_ret
    exact ⟨by rw [hD.out];rfl,hb⟩
   | true =>
    have hD:Hid (endsD 7 src dst = true):=by show _ = _;unfold endsD;simp [h_os,h_od]
    clear h_os h_od
    go_wp2
    go_ret
    exact ⟨by rw [hD.out];rfl,hb⟩
 ·
  go_wp2_with fail
  refine (xdo src _).mono ?_
  rintro e w' ⟨rfl,rfl⟩
  cases h_os:osdD src with
  | false =>
   have hD:Hid (endsD 8 src dst = false):=by show _ = _;unfold endsD;simp [h_os]
   clear h_os
   go_wp2
   go_ret
   exact ⟨by rw [hD.out];rfl,hb⟩
  | true =>
   go_wp2_with fail
   refine (xdo dst _).mono ?_
   rintro e w' ⟨rfl,rfl⟩
   cases h_od:osdD dst with
   | false =>
    have hD:Hid (endsD 8 src dst = false):=by show _ = _;unfold endsD;simp [h_os,h_od]
    clear h_os h_od
    go_wp2
    go_ret
    exact ⟨by rw [hD.out];rfl,hb⟩
   | true =>
    have hD:Hid (endsD 8 src dst = true):=by show _ = _;unfold endsD;simp [h_os,h_od]
    clear h_os h_od
    go_wp2
    go_ret
    exact ⟨by rw [hD.out];rfl,hb⟩
 ·
  go_wp2_with fail
  refine (xdo src _).mono ?_
  rintro e w' ⟨rfl,rfl⟩
  cases h_os:osdD src with
  | false =>
   have hD:Hid (endsD 9 src dst = false):=by show _ = _;unfold endsD;simp [h_os]
   clear h_os
   go_wp2
   go_ret
   exact ⟨by rw [hD.out];rfl,hb⟩
  | true =>
   go_wp2_with fail
   refine (xdo dst _).mono ?_
   rintro e w' ⟨rfl,rfl⟩
   cases h_od:osdD dst with
   | false =>
    have hD:Hid (endsD 9 src dst = false):=by show _ = _;unfold endsD;simp [h_os,h_od]
    clear h_os h_od
    go_wp2
    go_ret
    exact ⟨by rw [hD.out];rfl,hb⟩
   | true =>
    have hD:Hid (endsD 9 src dst = true):=by show _ = _;unfold endsD;simp [h_os,h_od]
    clear h_os h_od
    go_wp2
    go_ret
    exact ⟨by rw [hD.out];rfl,hb⟩
 ·
  go_wp2_with fail
  refine (xdo src _).mono ?_
  rintro e w' ⟨rfl,rfl⟩
  cases h_os:osdD src with
  | false =>
   have hD:Hid (endsD 10 src dst = false):=by show _ = _;unfold endsD;simp [h_os]
   clear h_os
   go_wp2
   go_ret
   exact ⟨by rw [hD.out];rfl,hb⟩
  | true =>
   go_wp2_with fail
   refine (xdo dst _).mono ?_
   rintro e w' ⟨rfl,rfl⟩
   cases h_od:osdD dst with
   | false =>
    have hD:Hid (endsD 10 src dst = false):=by show _ = _;unfold endsD;simp [h_os,h_od]
    clear h_os h_od
    go_wp2
    go_ret
    exact ⟨by rw [hD.out];rfl,hb⟩
   | true =>
    have hD:Hid (endsD 10 src dst = true):=by show _ = _;unfold endsD;simp [h_os,h_od]
    clear h_os h_od
    go_wp2
    go_ret
    exact ⟨by rw [hD.out];rfl,hb⟩
 ·
  go_wp2_with fail
  refine (xdo src _).mono ?_
  rintro e w' ⟨rfl,rfl⟩
  cases h_os:osdD src with
  | false =>
   have hD:Hid (endsD 11 src dst = false):=by show _ = _;unfold endsD;simp [h_os]
   clear h_os
   go_wp2
   go_ret
   exact ⟨by rw [hD.out];rfl,hb⟩
  | true =>
   go_wp2_with fail
   refine (xdo dst _).mono ?_
   rintro e w' ⟨rfl,rfl⟩
   cases h_od:osdD dst with
   | false =>
    have hD:Hid (endsD 11 src dst = false):=by show _ = _;unfold endsD;simp [h_os,h_od]
    clear h_os h_od
    go_wp2
    go_ret
    exact ⟨by rw [hD.out];rfl,hb⟩
   | true =>
    have hD:Hid (endsD 11 src dst = true):=by show _ = _;unfold endsD;simp [h_os,h_od]
    clear h_os h_od
    go_wp2
    go_ret
    exact ⟨by rw [hD.out];rfl,hb⟩
 ·
  go_wp2_with fail
  refine (xdo src _).mono ?_
  rintro e w' ⟨rfl,rfl⟩
  cases h_os:osdD src with
  | false =>
   have hD:Hid (endsD 12 src dst = false):=by show _ = _;unfold endsD;simp [h_os]
   clear h_os
   go_wp2
   go_ret
   exact ⟨by rw [hD.out];rfl,hb⟩
  | true =>
   go_wp2_with fail
   refine (xdo dst _).mono ?_
   rintro e w' ⟨rfl,rfl⟩
   cases h_od:osdD dst with
   | false =>
    have hD:Hid (endsD 12 src dst = false):=by show _ = _;unfold endsD;simp [h_os,h_od]
    clear h_os h_od
    go_wp2
    go_ret
    exact ⟨by rw [hD.out];rfl,hb⟩
   | true =>
    have hD:Hid (endsD 12 src dst = true):=by show _ = _;unfold endsD;simp [h_os,h_od]
    clear h_os h_od
    go_wp2
    go_ret
    exact ⟨by rw [hD.out];rfl,hb⟩
 ·
  go_wp2_with fail
  refine (xdo src _).mono ?_
  rintro e w' ⟨rfl,rfl⟩
  cases h_os:osdD src with
  | false =>
   have hD:Hid (endsD 13 src dst = false):=by show _ = _;unfold endsD;simp [h_os]
   clear h_os
   go_wp2
   go_ret
   exact ⟨by rw [hD.out];rfl,hb⟩
  | true =>
   go_wp2_with fail
   refine (xdo dst _).mono ?_
   rintro e w' ⟨rfl,rfl⟩
   cases h_od:osdD dst with
   | false =>
    have hD:Hid (endsD 13 src dst = false):=by show _ = _;unfold endsD;simp [h_os,h_od]
    clear h_os h_od
    go_wp2
    go_ret
    exact ⟨by rw [hD.out];rfl,hb⟩
   | true =>
    have hD:Hid (endsD 13 src dst = true):=by show _ = _;unfold endsD;simp [h_os,h_od]
    clear h_os h_od
    go_wp2
    go_ret
    exact ⟨by rw [hD.out];rfl,hb⟩
 ·
  go_wp2_with fail
  refine (xdo src _).mono ?_
  rintro e w' ⟨rfl,rfl⟩
  cases h_os:osdD src with
  | false =>
   have hD:Hid (endsD 14 src dst = false):=by show _ = _;unfold endsD;simp [h_os]
   clear h_os
   go_wp2
   go_ret
   exact ⟨by rw [hD.out];rfl,hb⟩
  | true =>
   go_wp2_with fail
   refine (xdo dst _).mono ?_
   rintro e w' ⟨rfl,rfl⟩
   cases h_od:osdD dst with
   | false =>
    have hD:Hid (endsD 14 src dst = false):=by show _ = _;unfold endsD;simp [h_os,h_od]
    clear h_os h_od
    go_wp2
    go_ret
    exact ⟨by rw [hD.out];rfl,hb⟩
   | true =>
    have hD:Hid (endsD 14 src dst = true):=by show _ = _;unfold endsD;simp [h_os,h_od]
    clear h_os h_od
    go_wp2
    go_ret
    exact ⟨by rw [hD.out];rfl,hb⟩
 ·
  go_wp2_with fail
  refine (cli_any src _).mono ?_
  rintro e w' ⟨rfl,rfl⟩
  cases h_cs:cliD src with
  | false =>
   have hD:Hid (endsD 15 src dst = false):=by show _ = _;unfold endsD;simp [h_cs]
   clear h_cs
   go_wp2
   go_ret
   exact ⟨by rw [hD.out];rfl,hb⟩
  | true =>
   go_wp2_with fail
   refine (xdo dst _).mono ?_
   rintro e w' ⟨rfl,rfl⟩
   cases h_od:osdD dst with
   | false =>
    have hD:Hid (endsD 15 src dst = false):=by show _ = _;unfold endsD;simp [h_cs,h_od]
    clear h_cs h_od
    go_wp2
    go_ret
    exact ⟨by rw [hD.out];rfl,hb⟩
   | true =>
    have hD:Hid (endsD 15 src dst = true):=by show _ = _;unfold endsD;simp [h_cs,h_od]
    clear h_cs h_od
    go_wp2
    go_ret
    exact ⟨by rw [hD.out];rfl,hb⟩
 ·
  go_wp2_with fail
  refine (xdo src _).mono ?_
  rintro e w' ⟨rfl,rfl⟩
  cases h_os:osdD src with
  | false =>
   have hD:Hid (endsD 16 src dst = false):=by show _ = _;unfold endsD;simp [h_os]
   clear h_os
   go_wp2
   go_ret
   exact ⟨by rw [hD.out];rfl,hb⟩
  | true =>
   go_wp2_with fail
   refine (cli_any dst _).mono ?_
   rintro e w' ⟨rfl,rfl⟩
   cases h_cd:cliD dst with
   | false =>
    have hD:Hid (endsD 16 src dst = false):=by show _ = _;unfold endsD;simp [h_os,h_cd]
    clear h_os h_cd
    go_wp2
    go_ret
    exact ⟨by rw [hD.out];rfl,hb⟩
   | true =>
    have hD:Hid (endsD 16 src dst = true):=by show _ = _;unfold endsD;simp [h_os,h_cd]
    clear h_os h_cd
    go_wp2
    go_ret
    exact ⟨by rw [hD.out];rfl,hb⟩
 ·
  go_wp2_with fail
  refine (xdo src _).mono ?_
  rintro e w' ⟨rfl,rfl⟩
  cases h_os:osdD src with
  | false =>
   have hD:Hid (endsD 17 src dst = false):=by show _ = _;unfold endsD;simp [h_os]
   clear h_os
   go_wp2
   go_ret
   exact ⟨by rw [hD.out];rfl,hb⟩
  | true =>
   go_wp2_with fail
   refine (xen dst _).mono ?_
   rintro e w' ⟨rfl,rfl⟩
   cases h_md:monD dst with
   | false =>
    have hD:Hid (endsD 17 src dst = false):=by show _ = _;unfold endsD;simp [h_os,h_md]
    clear h_os h_md
    go_wp2
    go_ret
    exact ⟨by rw [hD.out];rfl,hb⟩
   | true =>
    have hD:Hid (endsD 17 src dst = true):=by show _ = _;unfold endsD;simp [h_os,h_md]
    clear h_os h_md
    go_wp2
    go_ret
    exact ⟨by rw [hD.out];rfl,hb⟩
 ·
  go_wp2_with fail
  refine (xen src _).mono ?_
  rintro e w' ⟨rfl,rfl⟩
  cases h_ms:monD src with
  | false =>
   have hD:Hid (endsD 18 src dst = false):=by show _ = _;unfold endsD;simp [h_ms]
   clear h_ms
   go_wp2
   go_ret
   exact ⟨by rw [hD.out];rfl,hb⟩
  | true =>
   go_wp2_with fail
   refine (xen dst _).mono ?_
   rintro e w' ⟨rfl,rfl⟩
   cases h_md:monD dst with
   | false =>
    have hD:Hid (endsD 18 src dst = false):=by show _ = _;unfold endsD;simp [h_ms,h_md]
    clear h_ms h_md
    go_wp2
    go_ret
    exact ⟨by rw [hD.out];rfl,hb⟩
   | true =>
    have hD:Hid (endsD 18 src dst = true):=by show _ = _;unfold endsD;simp [h_ms,h_md]
    clear h_ms h_md
    go_wp2
    go_ret
    exact ⟨by rw [hD.out];rfl,hb⟩

theorem z_bal:Tryz.prog.built 24 [] = some (balC bal0):=by kernel_rfl
theorem z_inc:Tryz.prog.built 26 [] = some (incC inc0):=by kernel_rfl
theorem z_st:Tryz.prog.built 44 [] = some (stC st0 none 0):=by kernel_rfl
theorem z_ent:Tryz.prog.built 41 [] = some (entC ent0):=by kernel_rfl
theorem z_op:Tryz.prog.built 39 [] = some (opC op0):=by kernel_rfl
theorem z_res:Tryz.prog.built 32 [] = some (resC res0):=by kernel_rfl
theorem st0_okZ:StOk st0:=⟨by show 0 < _;decide,base0_ok.in',⟨by show 0 < _;decide,by show 0 < _;decide,op0_ok⟩,(fun e he=>by cases he),by show 0 ≤ _;decide⟩
theorem ent0_okZ:EntOk ent0:=⟨by show 0 < _;decide,by show 0 < _;decide,op0_ok⟩
theorem bal0_okZ:BalOk bal0:=⟨by show 0 < _;decide,by show 0 < _;decide⟩
set_option maxHeartbeats 8000000 in
theorem zdiff_any (x:DiffV) (a2 a3:Option Addr) (e2 e3:Nat) (w:World) (hx:DiffOk x) (sx:DiffSl w x a2 e2 a3 e3) :
  Calls Tryz.prog 86 #[.agg (diffC x a2 e2 a3 e3)] w fun en w'=>en = .returned (.bool (zeroDf x)) ∧ Below w.heap.size w w':=by
 obtain ⟨w1,hw1,hX,hb⟩:=xbr w 46 (diffC x a2 e2 a3 e3)
 have hM:zeroDf x = (decide (x.kind = 0) && (decide (x.fr = 0) && (decide (x.log.length = 0) && same tSt x.whole st0))):=rfl
 replace sx:=sx.later hb
 obtain ⟨c1,hc1⟩:∃ c,decide (x.kind = 0) = c:=⟨_,rfl⟩
 have hv1:(x.kind == 0) = c1:=by rw [← hc1,Bool.eq_iff_iff];simp
 rw [hc1] at hM
 replace hc1:Hid _:=hc1
 obtain ⟨c2,hc2⟩:∃ c,decide (x.fr = 0) = c:=⟨_,rfl⟩
 have hv2:((x.fr:Int) == 0) = c2:=by rw [← hc2,Bool.eq_iff_iff];simp
 rw [hc2] at hM
 replace hc2:Hid _:=hc2
 obtain ⟨c3,hc3⟩:∃ c,decide (x.log.length = 0) = c:=⟨_,rfl⟩
 have hv3:(((x.log.length:Nat):Int) == 0) = c3:=by rw [← hc3,Bool.eq_iff_iff];simp
 rw [hc3] at hM
 replace hc3:Hid _:=hc3
 obtain ⟨c4,hc4⟩:∃ c,same tSt x.whole st0 = c:=⟨_,rfl⟩
 rw [hc4] at hM
 replace hc4:Hid _:=hc4
 replace hM:Hid _:=hM
 have x0:=hX.d_kind
 have x1:=hX.d_from
 have x2:=hX.d_log
 go_enter Tryz.func86,Tryz.ntmps86
 go_upto_region 1 with fail
 refine wp_region_list ?_
 show wpList Tryz.prog _ _ [_,_,_,_,_,_,_,_,_,_,_,_,_,_,_,_,_,_,_,_,_] _ _
 iterate 4
  refine xaf _ (.inl ⟨by rfl,fun W hS=>by subst hS;go_simp;try with_reducible rfl⟩) ?_
  try simp only [qp,qa,qb,qc]
 cases c1 with
 | false =>
  refine xbj 2 false (by kernel_rfl) (fun a' h1 h2=>?_)
  go_wp2
  refine bodyPost_ret (results_tmp rfl _ _ _) h2 ?_
  rw [h1]
  exact ⟨by rw [hM.out];try rfl,hb⟩
 | true =>
 iterate 5
  refine xaf _ (.inl ⟨by rfl,fun W hS=>by subst hS;go_simp;try with_reducible rfl⟩) ?_
  try simp only [qp,qa,qb,qc]
 cases c2 with
 | false =>
  refine xbj 2 false (by kernel_rfl) (fun a' h1 h2=>?_)
  go_wp2
  refine bodyPost_ret (results_tmp rfl _ _ _) h2 ?_
  rw [h1]
  exact ⟨by rw [hM.out];try rfl,hb⟩
 | true =>
 iterate 6
  refine xaf _ (.inl ⟨by rfl,fun W hS=>by subst hS;go_simp;try with_reducible rfl⟩) ?_
  try simp only [qp,qa,qb,qc]
 cases c3 with
 | false =>
  refine xbj 2 false (by kernel_rfl) (fun a' h1 h2=>?_)
  go_wp2
  refine bodyPost_ret (results_tmp rfl _ _ _) h2 ?_
  rw [h1]
  exact ⟨by rw [hM.out];try rfl,hb⟩
 | true =>
 refine xaf _ (.inl ⟨by rfl,fun W hS=>by subst hS;go_simp;try with_reducible rfl⟩) ?_
 try simp only [qp,qa,qb,qc]
 refine xaf (.agg (stL x.whole a3 e3).toArray) (xaj (by rfl) 44 _ rfl (w.heap.size) 3 rfl (stL x.whole a3 e3) _ Tryz.underlying44 rfl (xcg x.whole a3 e3) (fun W hS=>by subst hS;exact hX.d_whole)) ?_
 try simp only [qp,qa,qb,qc]
 refine xaf (.agg (stC st0 none 0)) (xat (by rfl) 44 [] rfl [] rfl (stC st0 none 0) z_st) ?_
 try simp only [qp,qa,qb,qc]
 refine xer (by rfl) (fun K hK=>?_)
 go_simp
 refine (xfz x.whole st0 a3 none e3 0 _ hx.whole st0_okZ sx.whole (Sl.nothing _ _)).mono ?_
 rintro en w3 ⟨rfl,hq⟩
 refine hK.out _ _ ?_
 clear hK K
 try simp only [qp,qa,qb,qc]
 replace hb:=hb.trans (hq.mono hb.size)
 rw [hc4.out]
 clear hq
 iterate 2
  refine xaf _ (.inl ⟨by rfl,fun W hS=>by subst hS;go_simp;try with_reducible rfl⟩) ?_
  try simp only [qp,qa,qb,qc]
 refine wpList_nil ?_
 go_wp2
 go_ret
 exact ⟨by rw [hM.out];try rfl,hb⟩
set_option maxHeartbeats 16000000 in
theorem zero_any (x:MsgV) (a1 a2 a3:Option Addr) (e1 e2 e3:Nat) (w:World) (hx:MsgOk x) (sx:MsgSl w x a1 e1 a2 e2 a3 e3) :
  Calls Tryz.prog 44 #[.agg (msgC x a1 e1 a2 e2 a3 e3)] w fun en w'=>en = .returned (.bool (zeroD x)) ∧ Below w.heap.size w w':=by
 obtain ⟨w1,hw1,hX,hb⟩:=xbr w 48 (msgC x a1 e1 a2 e2 a3 e3)
 have hM:zeroD x = (decide (x.epoch = 0) && (xcr x.b bal0 && (xcr x.acc bal0 && ((!x.has) && (xea x.inc inc0 && (decide (x.group = 0) && (same tSt x.st st0 && (zeroDf x.diff && (same tEnt x.ent ent0 && (decide (x.n = 0) && (same tOp x.op op0 && same tRes x.r res0))))))))))):=rfl
 replace sx:=sx.later hb
 obtain ⟨c1,hc1⟩:∃ c,decide (x.epoch = 0) = c:=⟨_,rfl⟩
 have hv1:((x.epoch:Int) == 0) = c1:=by rw [← hc1,Bool.eq_iff_iff];simp
 rw [hc1] at hM
 replace hc1:Hid _:=hc1
 obtain ⟨c2,hc2⟩:∃ c,xcr x.b bal0 = c:=⟨_,rfl⟩
 rw [hc2] at hM
 replace hc2:Hid _:=hc2
 obtain ⟨c3,hc3⟩:∃ c,xcr x.acc bal0 = c:=⟨_,rfl⟩
 rw [hc3] at hM
 replace hc3:Hid _:=hc3
 obtain ⟨c4,hc4⟩:∃ c,(!x.has) = c:=⟨_,rfl⟩
 have hv4:(!x.has) = c4:=hc4
 rw [hc4] at hM
 replace hc4:Hid _:=hc4
 obtain ⟨c5,hc5⟩:∃ c,xea x.inc inc0 = c:=⟨_,rfl⟩
 rw [hc5] at hM
 replace hc5:Hid _:=hc5
 obtain ⟨c6,hc6⟩:∃ c,decide (x.group = 0) = c:=⟨_,rfl⟩
 have hv6:((x.group:Int) == 0) = c6:=by rw [← hc6,Bool.eq_iff_iff];simp
 rw [hc6] at hM
 replace hc6:Hid _:=hc6
 obtain ⟨c7,hc7⟩:∃ c,same tSt x.st st0 = c:=⟨_,rfl⟩
 rw [hc7] at hM
 replace hc7:Hid _:=hc7
 obtain ⟨c8,hc8⟩:∃ c,zeroDf x.diff = c:=⟨_,rfl⟩
 rw [hc8] at hM
 replace hc8:Hid _:=hc8
 obtain ⟨c9,hc9⟩:∃ c,same tEnt x.ent ent0 = c:=⟨_,rfl⟩
 rw [hc9] at hM
 replace hc9:Hid _:=hc9
 obtain ⟨c10,hc10⟩:∃ c,decide (x.n = 0) = c:=⟨_,rfl⟩
 have hv10:((x.n:Int) == 0) = c10:=by rw [← hc10,Bool.eq_iff_iff];simp
 rw [hc10] at hM
 replace hc10:Hid _:=hc10
 obtain ⟨c11,hc11⟩:∃ c,same tOp x.op op0 = c:=⟨_,rfl⟩
 rw [hc11] at hM
 replace hc11:Hid _:=hc11
 obtain ⟨c12,hc12⟩:∃ c,same tRes x.r res0 = c:=⟨_,rfl⟩
 rw [hc12] at hM
 replace hc12:Hid _:=hc12
 replace hM:Hid _:=hM
 have x_epoch:=hX.mc_epoch
 have x_has:=hX.mc_has
 have x_group:=hX.mc_group
 go_enter Tryz.func44,Tryz.ntmps44
 go_upto_region 1 with fail
 refine wp_region_list ?_
 show wpList Tryz.prog _ _ [_,_,_,_,_,_,_,_,_,_,_,_,_,_,_,_,_,_,_,_,_,_,_,_,_,_,_,_,_,_,_,_,_,_,_,_,_,_,_,_,_,_,_,_,_,_,_,_,_,_,_,_,_,_,_,_,_,_,_,_,_,_,_,_,_,_] _ _
 iterate 4
  refine xaf _ (.inl ⟨by rfl,fun W hS=>by subst hS;go_simp;try with_reducible rfl⟩) ?_
  try simp only [qp,qa,qb,qc]
 cases c1 with
 | false =>
  refine xbj 2 false (by kernel_rfl) (fun a' h1 h2=>?_)
  go_wp2
  refine bodyPost_ret (results_tmp rfl _ _ _) h2 ?_
  rw [h1]
  exact ⟨by rw [hM.out];try rfl,hb⟩
 | true =>
 refine xaf _ (.inl ⟨by rfl,fun W hS=>by subst hS;go_simp;try with_reducible rfl⟩) ?_
 try simp only [qp,qa,qb,qc]
 refine xaf (.agg ((balC x.b).toList).toArray) (xaj (by rfl) 24 _ rfl (w.heap.size) 4 rfl ((balC x.b).toList) _ Tryz.underlying24 rfl (xbx x.b) (fun W hS=>by subst hS;exact hX.m_b)) ?_
 try simp only [qp,qa,qb,qc]
 refine xaf (.agg (balC bal0)) (xat (by rfl) 24 [] rfl [] rfl (balC bal0) z_bal) ?_
 try simp only [qp,qa,qb,qc]
 have eqw:Hid _:=fun W=>eq_bal x.b bal0 hx.b bal0_okZ W
 rw [hc2.out] at eqw
 refine xaf (.bool c2) (xbh (by rfl) .eql 24 _ _ _ rfl (balC x.b) (balC bal0) rfl rfl (.bool c2) xfn (fun W=>by rw [eqw.out W])) ?_
 try simp only [qp,qa,qb,qc]
 clear eqw
 iterate 2
  refine xaf _ (.inl ⟨by rfl,fun W hS=>by subst hS;go_simp;try with_reducible rfl⟩) ?_
  try simp only [qp,qa,qb,qc]
 cases c2 with
 | false =>
  refine xbj 2 false (by kernel_rfl) (fun a' h1 h2=>?_)
  go_wp2
  refine bodyPost_ret (results_tmp rfl _ _ _) h2 ?_
  rw [h1]
  exact ⟨by rw [hM.out];try rfl,hb⟩
 | true =>
 refine xaf _ (.inl ⟨by rfl,fun W hS=>by subst hS;go_simp;try with_reducible rfl⟩) ?_
 try simp only [qp,qa,qb,qc]
 refine xaf (.agg ((balC x.acc).toList).toArray) (xaj (by rfl) 24 _ rfl (w.heap.size) 6 rfl ((balC x.acc).toList) _ Tryz.underlying24 rfl (xbx x.acc) (fun W hS=>by subst hS;exact hX.m_acc)) ?_
 try simp only [qp,qa,qb,qc]
 refine xaf (.agg (balC bal0)) (xat (by rfl) 24 [] rfl [] rfl (balC bal0) z_bal) ?_
 try simp only [qp,qa,qb,qc]
 have eqw:Hid _:=fun W=>eq_bal x.acc bal0 hx.acc bal0_okZ W
 rw [hc3.out] at eqw
 refine xaf (.bool c3) (xbh (by rfl) .eql 24 _ _ _ rfl (balC x.acc) (balC bal0) rfl rfl (.bool c3) xfn (fun W=>by rw [eqw.out W])) ?_
 try simp only [qp,qa,qb,qc]
 clear eqw
 iterate 2
  refine xaf _ (.inl ⟨by rfl,fun W hS=>by subst hS;go_simp;try with_reducible rfl⟩) ?_
  try simp only [qp,qa,qb,qc]
 cases c3 with
 | false =>
  refine xbj 2 false (by kernel_rfl) (fun a' h1 h2=>?_)
  go_wp2
  refine bodyPost_ret (results_tmp rfl _ _ _) h2 ?_
  rw [h1]
  exact ⟨by rw [hM.out];try rfl,hb⟩
 | true =>
 iterate 5
  refine xaf _ (.inl ⟨by rfl,fun W hS=>by subst hS;go_simp;try with_reducible rfl⟩) ?_
  try simp only [qp,qa,qb,qc]
 cases c4 with
 | false =>
  refine xbj 2 false (by kernel_rfl) (fun a' h1 h2=>?_)
  go_wp2
  refine bodyPost_ret (results_tmp rfl _ _ _) h2 ?_
  rw [h1]
  exact ⟨by rw [hM.out];try rfl,hb⟩
 | true =>
 refine xaf _ (.inl ⟨by rfl,fun W hS=>by subst hS;go_simp;try with_reducible rfl⟩) ?_
 try simp only [qp,qa,qb,qc]
 refine xaf (.agg ((incC x.inc).toList).toArray) (xaj (by rfl) 26 _ rfl (w.heap.size) 9 rfl ((incC x.inc).toList) _ Tryz.underlying26 rfl (ws_inc x.inc) (fun W hS=>by subst hS;exact hX.m_inc)) ?_
 try simp only [qp,qa,qb,qc]
 refine xaf (.agg (incC inc0)) (xat (by rfl) 26 [] rfl [] rfl (incC inc0) z_inc) ?_
 try simp only [qp,qa,qb,qc]
 have eqw:Hid _:=fun W=>eq_inc x.inc inc0 hx.inc inc0_G.ok W
 rw [hc5.out] at eqw
 refine xaf (.bool c5) (xbh (by rfl) .eql 26 _ _ _ rfl (incC x.inc) (incC inc0) rfl rfl (.bool c5) guard_inc (fun W=>by rw [eqw.out W])) ?_
 try simp only [qp,qa,qb,qc]
 clear eqw
 iterate 2
  refine xaf _ (.inl ⟨by rfl,fun W hS=>by subst hS;go_simp;try with_reducible rfl⟩) ?_
  try simp only [qp,qa,qb,qc]
 cases c5 with
 | false =>
  refine xbj 2 false (by kernel_rfl) (fun a' h1 h2=>?_)
  go_wp2
  refine bodyPost_ret (results_tmp rfl _ _ _) h2 ?_
  rw [h1]
  exact ⟨by rw [hM.out];try rfl,hb⟩
 | true =>
 iterate 5
  refine xaf _ (.inl ⟨by rfl,fun W hS=>by subst hS;go_simp;try with_reducible rfl⟩) ?_
  try simp only [qp,qa,qb,qc]
 cases c6 with
 | false =>
  refine xbj 2 false (by kernel_rfl) (fun a' h1 h2=>?_)
  go_wp2
  refine bodyPost_ret (results_tmp rfl _ _ _) h2 ?_
  rw [h1]
  exact ⟨by rw [hM.out];try rfl,hb⟩
 | true =>
 clear x_epoch x_has x_group
 refine xaf _ (.inl ⟨by rfl,fun W hS=>by subst hS;go_simp;try with_reducible rfl⟩) ?_
 try simp only [qp,qa,qb,qc]
 refine xaf (.agg (stL x.st a1 e1).toArray) (xaj (by rfl) 44 _ rfl (w.heap.size) 13 rfl (stL x.st a1 e1) _ Tryz.underlying44 rfl (xcg x.st a1 e1) (fun W hS=>by subst hS;exact hX.m_st)) ?_
 try simp only [qp,qa,qb,qc]
 refine xaf (.agg (stC st0 none 0)) (xat (by rfl) 44 [] rfl [] rfl (stC st0 none 0) z_st) ?_
 try simp only [qp,qa,qb,qc]
 refine xer (by rfl) (fun K hK=>?_)
 go_simp
 refine (xfz x.st st0 a1 none e1 0 _ hx.st st0_okZ sx.st (Sl.nothing _ _)).mono ?_
 rintro en w2 ⟨rfl,hq⟩
 refine hK.out _ _ ?_
 clear hK K
 try simp only [qp,qa,qb,qc]
 replace hX:=hX.later hq
 replace sx:=sx.later hq
 replace hb:=hb.trans (hq.mono hb.size)
 rw [hc7.out]
 clear hq
 iterate 2
  refine xaf _ (.inl ⟨by rfl,fun W hS=>by subst hS;go_simp;try with_reducible rfl⟩) ?_
  try simp only [qp,qa,qb,qc]
 cases c7 with
 | false =>
  refine xbj 2 false (by kernel_rfl) (fun a' h1 h2=>?_)
  go_wp2
  refine bodyPost_ret (results_tmp rfl _ _ _) h2 ?_
  rw [h1]
  exact ⟨by rw [hM.out];try rfl,hb⟩
 | true =>
 refine xaf _ (.inl ⟨by rfl,fun W hS=>by subst hS;go_simp;try with_reducible rfl⟩) ?_
 try simp only [qp,qa,qb,qc]
 refine xaf (.agg (diffL x.diff a2 e2 a3 e3).toArray) (xaj (by rfl) 46 _ rfl (w.heap.size) 62 rfl (diffL x.diff a2 e2 a3 e3) _ Tryz.underlying46 rfl (xdw x.diff a2 a3 e2 e3) (fun W hS=>by subst hS;exact hX.m_diff)) ?_
 try simp only [qp,qa,qb,qc]
 refine xer (by rfl) (fun K hK=>?_)
 go_simp
 refine (zdiff_any x.diff a2 a3 e2 e3 _ hx.diff ⟨sx.log,sx.whole⟩).mono ?_
 rintro en w3 ⟨rfl,hq⟩
 refine hK.out _ _ ?_
 clear hK K
 try simp only [qp,qa,qb,qc]
 replace hX:=hX.later hq
 replace hb:=hb.trans (hq.mono hb.size)
 rw [hc8.out]
 clear hq
 iterate 2
  refine xaf _ (.inl ⟨by rfl,fun W hS=>by subst hS;go_simp;try with_reducible rfl⟩) ?_
  try simp only [qp,qa,qb,qc]
 cases c8 with
 | false =>
  refine xbj 2 false (by kernel_rfl) (fun a' h1 h2=>?_)
  go_wp2
  refine bodyPost_ret (results_tmp rfl _ _ _) h2 ?_
  rw [h1]
  exact ⟨by rw [hM.out];try rfl,hb⟩
 | true =>
 refine xaf _ (.inl ⟨by rfl,fun W hS=>by subst hS;go_simp;try with_reducible rfl⟩) ?_
 try simp only [qp,qa,qb,qc]
 refine xaf (.agg (entL x.ent).toArray) (xaj (by rfl) 41 _ rfl (w.heap.size) 114 rfl (entL x.ent) _ Tryz.underlying41 rfl (xax x.ent) (fun W hS=>by subst hS;exact hX.m_ent)) ?_
 try simp only [qp,qa,qb,qc]
 refine xaf (.agg (entC ent0)) (xat (by rfl) 41 [] rfl [] rfl (entC ent0) z_ent) ?_
 try simp only [qp,qa,qb,qc]
 have eqw:Hid _:=fun W=>eqv_ent x.ent ent0 hx.ent ent0_okZ W
 rw [hc9.out] at eqw
 refine xaf (.bool c9) (xbh (by rfl) .eql 41 _ _ _ rfl (entC x.ent) (entC ent0) rfl rfl (.bool c9) xdv (fun W=>by rw [eqw.out W])) ?_
 try simp only [qp,qa,qb,qc]
 clear eqw
 iterate 2
  refine xaf _ (.inl ⟨by rfl,fun W hS=>by subst hS;go_simp;try with_reducible rfl⟩) ?_
  try simp only [qp,qa,qb,qc]
 cases c9 with
 | false =>
  refine xbj 2 false (by kernel_rfl) (fun a' h1 h2=>?_)
  go_wp2
  refine bodyPost_ret (results_tmp rfl _ _ _) h2 ?_
  rw [h1]
  exact ⟨by rw [hM.out];try rfl,hb⟩
 | true =>
 have x_n:=hX.mc_n
 iterate 5
  refine xaf _ (.inl ⟨by rfl,fun W hS=>by subst hS;go_simp;try with_reducible rfl⟩) ?_
  try simp only [qp,qa,qb,qc]
 cases c10 with
 | false =>
  refine xbj 2 false (by kernel_rfl) (fun a' h1 h2=>?_)
  go_wp2
  refine bodyPost_ret (results_tmp rfl _ _ _) h2 ?_
  rw [h1]
  exact ⟨by rw [hM.out];try rfl,hb⟩
 | true =>
 refine xaf _ (.inl ⟨by rfl,fun W hS=>by subst hS;go_simp;try with_reducible rfl⟩) ?_
 try simp only [qp,qa,qb,qc]
 refine xaf (.agg (opL x.op).toArray) (xaj (by rfl) 39 _ rfl (w.heap.size) 123 rfl (opL x.op) _ Tryz.underlying39 rfl (xca x.op) (fun W hS=>by subst hS;exact hX.m_op)) ?_
 try simp only [qp,qa,qb,qc]
 refine xaf (.agg (opC op0)) (xat (by rfl) 39 [] rfl [] rfl (opC op0) z_op) ?_
 try simp only [qp,qa,qb,qc]
 have eqw:Hid (∀ W,(binOp .eql 39 (.agg (opC x.op)) (.agg (opC op0))).run Tryz.prog W = .ok (.bool (same tOp x.op op0)) W):=fun W=>eq_op x.op op0 hx.op op0_ok W
 rw [hc11.out] at eqw
 refine xaf (.bool c11) (xbh (by rfl) .eql 39 _ _ _ rfl (opC x.op) (opC op0) rfl rfl (.bool c11) xgq (fun W=>by rw [eqw.out W])) ?_
 try simp only [qp,qa,qb,qc]
 clear eqw
 iterate 2
  refine xaf _ (.inl ⟨by rfl,fun W hS=>by subst hS;go_simp;try with_reducible rfl⟩) ?_
  try simp only [qp,qa,qb,qc]
 cases c11 with
 | false =>
  refine xbj 2 false (by kernel_rfl) (fun a' h1 h2=>?_)
  go_wp2
  refine bodyPost_ret (results_tmp rfl _ _ _) h2 ?_
  rw [h1]
  exact ⟨by rw [hM.out];try rfl,hb⟩
 | true =>
 refine xaf _ (.inl ⟨by rfl,fun W hS=>by subst hS;go_simp;try with_reducible rfl⟩) ?_
 try simp only [qp,qa,qb,qc]
 refine xaf (.agg (resL x.r).toArray) (xaj (by rfl) 32 _ rfl (w.heap.size) 129 rfl (resL x.r) _ Tryz.underlying32 rfl (xeb x.r) (fun W hS=>by subst hS;exact hX.m_r)) ?_
 try simp only [qp,qa,qb,qc]
 refine xaf (.agg (resC res0)) (xat (by rfl) 32 [] rfl [] rfl (resC res0) z_res) ?_
 try simp only [qp,qa,qb,qc]
 have eqw:Hid _:=fun W=>eqv_res x.r res0 hx.r.code hx.r.data (by decide) (by decide) W
 rw [hc12.out] at eqw
 refine xaf (.bool c12) (xbh (by rfl) .eql 32 _ _ _ rfl (resC x.r) (resC res0) rfl rfl (.bool c12) guard_res (fun W=>by rw [eqw.out W])) ?_
 try simp only [qp,qa,qb,qc]
 clear eqw
 iterate 2
  refine xaf _ (.inl ⟨by rfl,fun W hS=>by subst hS;go_simp;try with_reducible rfl⟩) ?_
  try simp only [qp,qa,qb,qc]
 refine wpList_nil ?_
 go_wp2
 go_ret
 exact ⟨by rw [hM.out];try rfl,hb⟩

theorem z_diff:Tryz.prog.built 46 [] = some (diffC diff0 none 0 none 0):=by kernel_rfl
section
variable {k f t e:Nat} {b a:BalV} {h:Bool} {i:IncV} {g:Nat} {s:StV} {d:DiffV} {x:EntV} {n:Nat} {o:OpV} {r:ResV} {a1 a2 a3:Option Addr} {c1 c2 c3:Nat}
theorem xcz (y:Nat):(msgC ⟨k,f,t,e,b,a,h,i,g,s,d,x,n,o,r⟩ a1 c1 a2 c2 a3 c3).setIfInBounds 3 (.int .u32 (y:Int)) = msgC ⟨k,f,t,y,b,a,h,i,g,s,d,x,n,o,r⟩ a1 c1 a2 c2 a3 c3:=by kernel_rfl
end
set_option maxHeartbeats 8000000 in
theorem rest_1 (f t e:Nat) (b a:BalV) (h:Bool) (i:IncV) (g:Nat) (s:StV) (d:DiffV) (x:EntV) (n:Nat) (o:OpV) (r:ResV) (a1 a2 a3:Option Addr) (c1 c2 c3:Nat) (w:World) :
  Calls Tryz.prog 45 #[.agg (msgC ⟨1,f,t,e,b,a,h,i,g,s,d,x,n,o,r⟩ a1 c1 a2 c2 a3 c3)] w fun en w'=>en = .returned (.agg (msgC ⟨1,f,t,0,bal0,a,h,i,g,s,d,x,n,o,r⟩ a1 c1 a2 c2 a3 c3)) ∧ Below w.heap.size w w':=by
 obtain ⟨w1,hw1,hX1,hY1,hb1⟩:=xbl w 48 48 (msgC ⟨1,f,t,e,b,a,h,i,g,s,d,x,n,o,r⟩ a1 c1 a2 c2 a3 c3) (msgC msg0 none 0 none 0 none 0)
 have hgl1:w.heap.size < w1.heap.size:=hX1.lt
 have x01:w1.cell? ⟨w.heap.size,0,none⟩ = some (.int .u8 1):=hX1.mc_kind
 have xc1:∃ v,w1.cell? ⟨w.heap.size,3,none⟩ = some v:=⟨_,(hX1.cell 3).trans rfl⟩
 obtain ⟨v1,xc1⟩:=xc1
 have xf1:=hX1.free 3
 have hX2:=hX1.set 3 (.int .u32 ((0:Nat):Int))
 rw [xcz] at hX2
 have hY2:=hY1.set_other (a:=⟨w.heap.size,3,none⟩) (show w.heap.size + 1 ≠ w.heap.size by omega) (.int .u32 ((0:Nat):Int))
 have hb2:=hb1.setCell (p:=⟨w.heap.size,3,none⟩) (Nat.le_refl _) (.int .u32 ((0:Nat):Int))
 obtain ⟨w2,hw2⟩:∃ W,w1.setCell ⟨w.heap.size,3,none⟩ (.int .u32 0) = W:=⟨_,rfl⟩
 replace hX2:Has w2 w.heap.size 48 (msgC ⟨1,f,t,0,b,a,h,i,g,s,d,x,n,o,r⟩ a1 c1 a2 c2 a3 c3):=by rw [← hw2];exact hX2
 replace hY2:Has w2 (w.heap.size + 1) 48 (msgC msg0 none 0 none 0 none 0):=by rw [← hw2];exact hY2
 replace hb2:Below w.heap.size w w2:=by rw [← hw2];exact hb2
 have x02:w2.cell? ⟨w.heap.size,0,none⟩ = some (.int .u8 1):=hX2.mc_kind
 have ht2:=hX2.there 4 2 (show 4 + 2 ≤ 131 by decide)
 have hX3:=(show Has w2 w.heap.size 48 (msgL ⟨1,f,t,0,b,a,h,i,g,s,d,x,n,o,r⟩ a1 c1 a2 c2 a3 c3).toArray from hX2).putCells (balC bal0).toList 4 (show 4 + 2 ≤ 131 by decide)
 rw [mput_b] at hX3
 have hY3:=hY2.cells_other (show w.heap.size + 1 ≠ w.heap.size by omega) (balC bal0).toList 4
 have hb3:=xbv hb2 (Nat.le_refl w.heap.size) (balC bal0).toList 4
 obtain ⟨w3,hw3⟩:∃ W,w2.setCells w.heap.size 4 (balC bal0).toList = W:=⟨_,rfl⟩
 rw [hw3] at hX3 hY3 hb3
 have hR:=hY3.row (msgC ⟨1,f,t,0,bal0,a,h,i,g,s,d,x,n,o,r⟩ a1 c1 a2 c2 a3 c3)
 have hbR:=below_setRow hb3 (Nat.le_succ w.heap.size) (msgC ⟨1,f,t,0,bal0,a,h,i,g,s,d,x,n,o,r⟩ a1 c1 a2 c2 a3 c3)
 go_enter Tryz.func45,Tryz.ntmps45
 go_wp2_with (first
  | (refine xac (by rfl) 48 rfl (msgC msg0 none 0 none 0 none 0) xbg ?_;rw [hw1];clear hw1)
  | (refine xak (by rfl) 24 _ _ rfl w.heap.size 4 (balC bal0) rfl rfl ?ht (xbx _) (xhm _) ?_;(case ht=>exact ht2);rw [show w2.setCells w.heap.size 4 (balC bal0).toList = w3 from hw3];clear hw3 ht2)
  | (refine xbi (by rfl) 24 [] rfl [] rfl (balC bal0) z_bal ?_)
  | (refine xab (by rfl) 48 _ rfl w.heap.size rfl 48 (msgC ⟨1,f,t,0,bal0,a,h,i,g,s,d,x,n,o,r⟩ a1 c1 a2 c2 a3 c3) _ Tryz.underlying48 rfl (xah _ _ _ _ _ _ _) ?hg ?_;(case hg=>exact hX3))
  | (refine xao (by rfl) 48 _ _ rfl (w.heap.size + 1) rfl (msgC ⟨1,f,t,0,bal0,a,h,i,g,s,d,x,n,o,r⟩ a1 c1 a2 c2 a3 c3) rfl 48 (msgC msg0 none 0 none 0 none 0) (xah _ _ _ _ _ _ _) (xbe _ _ _ _ _ _ _ _ _ _ _ _ _ _) (xbn _ _ _ _ _ _ _) ?hg ?_;(case hg=>exact hY3))
  | fail)
 exact xba rfl (w.heap.size + 1) rfl 48 (msgC ⟨1,f,t,0,bal0,a,h,i,g,s,d,x,n,o,r⟩ a1 c1 a2 c2 a3 c3) _ Tryz.underlying48 rfl (xah _ _ _ _ _ _ _) hR rfl ⟨rfl,hbR⟩
set_option maxHeartbeats 8000000 in
theorem rest_2 (f t e:Nat) (b a:BalV) (h:Bool) (i:IncV) (g:Nat) (s:StV) (d:DiffV) (x:EntV) (n:Nat) (o:OpV) (r:ResV) (a1 a2 a3:Option Addr) (c1 c2 c3:Nat) (w:World) :
  Calls Tryz.prog 45 #[.agg (msgC ⟨2,f,t,e,b,a,h,i,g,s,d,x,n,o,r⟩ a1 c1 a2 c2 a3 c3)] w fun en w'=>en = .returned (.agg (msgC ⟨2,f,t,0,bal0,bal0,false,inc0,g,s,d,x,n,o,r⟩ a1 c1 a2 c2 a3 c3)) ∧ Below w.heap.size w w':=by
 obtain ⟨w1,hw1,hX1,hY1,hb1⟩:=xbl w 48 48 (msgC ⟨2,f,t,e,b,a,h,i,g,s,d,x,n,o,r⟩ a1 c1 a2 c2 a3 c3) (msgC msg0 none 0 none 0 none 0)
 have hgl1:w.heap.size < w1.heap.size:=hX1.lt
 have x01:w1.cell? ⟨w.heap.size,0,none⟩ = some (.int .u8 2):=hX1.mc_kind
 have xc1:∃ v,w1.cell? ⟨w.heap.size,3,none⟩ = some v:=⟨_,(hX1.cell 3).trans rfl⟩
 obtain ⟨v1,xc1⟩:=xc1
 have xf1:=hX1.free 3
 have hX2:=hX1.set 3 (.int .u32 ((0:Nat):Int))
 rw [xcz] at hX2
 have hY2:=hY1.set_other (a:=⟨w.heap.size,3,none⟩) (show w.heap.size + 1 ≠ w.heap.size by omega) (.int .u32 ((0:Nat):Int))
 have hb2:=hb1.setCell (p:=⟨w.heap.size,3,none⟩) (Nat.le_refl _) (.int .u32 ((0:Nat):Int))
 obtain ⟨w2,hw2⟩:∃ W,w1.setCell ⟨w.heap.size,3,none⟩ (.int .u32 0) = W:=⟨_,rfl⟩
 replace hX2:Has w2 w.heap.size 48 (msgC ⟨2,f,t,0,b,a,h,i,g,s,d,x,n,o,r⟩ a1 c1 a2 c2 a3 c3):=by rw [← hw2];exact hX2
 replace hY2:Has w2 (w.heap.size + 1) 48 (msgC msg0 none 0 none 0 none 0):=by rw [← hw2];exact hY2
 replace hb2:Below w.heap.size w w2:=by rw [← hw2];exact hb2
 have x02:w2.cell? ⟨w.heap.size,0,none⟩ = some (.int .u8 2):=hX2.mc_kind
 have ht2:=hX2.there 4 2 (show 4 + 2 ≤ 131 by decide)
 have hX3:=(show Has w2 w.heap.size 48 (msgL ⟨2,f,t,0,b,a,h,i,g,s,d,x,n,o,r⟩ a1 c1 a2 c2 a3 c3).toArray from hX2).putCells (balC bal0).toList 4 (show 4 + 2 ≤ 131 by decide)
 rw [mput_b] at hX3
 have hY3:=hY2.cells_other (show w.heap.size + 1 ≠ w.heap.size by omega) (balC bal0).toList 4
 have hb3:=xbv hb2 (Nat.le_refl w.heap.size) (balC bal0).toList 4
 obtain ⟨w3,hw3⟩:∃ W,w2.setCells w.heap.size 4 (balC bal0).toList = W:=⟨_,rfl⟩
 rw [hw3] at hX3 hY3 hb3
 have xc3:∃ v,w3.cell? ⟨w.heap.size,8,none⟩ = some v:=⟨_,(hX3.cell 8).trans rfl⟩
 obtain ⟨v3,xc3⟩:=xc3
 have xf3:=hX3.free 8
 have hX4:=hX3.set 8 (.bool false)
 rw [mset_has] at hX4
 have hY4:=hY3.set_other (a:=⟨w.heap.size,8,none⟩) (show w.heap.size + 1 ≠ w.heap.size by omega) (.bool false)
 have hb4:=hb3.setCell (p:=⟨w.heap.size,8,none⟩) (Nat.le_refl _) (.bool false)
 obtain ⟨w4,hw4⟩:∃ W,w3.setCell ⟨w.heap.size,8,none⟩ (.bool false) = W:=⟨_,rfl⟩
 replace hX4:Has w4 w.heap.size 48 (msgC ⟨2,f,t,0,bal0,a,false,i,g,s,d,x,n,o,r⟩ a1 c1 a2 c2 a3 c3):=by rw [← hw4];exact hX4
 replace hY4:Has w4 (w.heap.size + 1) 48 (msgC msg0 none 0 none 0 none 0):=by rw [← hw4];exact hY4
 replace hb4:Below w.heap.size w w4:=by rw [← hw4];exact hb4
 have ht4:=hX4.there 6 2 (show 6 + 2 ≤ 131 by decide)
 have hX5:=(show Has w4 w.heap.size 48 (msgL ⟨2,f,t,0,bal0,a,false,i,g,s,d,x,n,o,r⟩ a1 c1 a2 c2 a3 c3).toArray from hX4).putCells (balC bal0).toList 6 (show 6 + 2 ≤ 131 by decide)
 rw [mput_acc] at hX5
 have hY5:=hY4.cells_other (show w.heap.size + 1 ≠ w.heap.size by omega) (balC bal0).toList 6
 have hb5:=xbv hb4 (Nat.le_refl w.heap.size) (balC bal0).toList 6
 obtain ⟨w5,hw5⟩:∃ W,w4.setCells w.heap.size 6 (balC bal0).toList = W:=⟨_,rfl⟩
 rw [hw5] at hX5 hY5 hb5
 have ht5:=hX5.there 9 3 (show 9 + 3 ≤ 131 by decide)
 have hX6:=(show Has w5 w.heap.size 48 (msgL ⟨2,f,t,0,bal0,bal0,false,i,g,s,d,x,n,o,r⟩ a1 c1 a2 c2 a3 c3).toArray from hX5).putCells (incC inc0).toList 9 (show 9 + 3 ≤ 131 by decide)
 rw [xhh] at hX6
 have hY6:=hY5.cells_other (show w.heap.size + 1 ≠ w.heap.size by omega) (incC inc0).toList 9
 have hb6:=xbv hb5 (Nat.le_refl w.heap.size) (incC inc0).toList 9
 obtain ⟨w6,hw6⟩:∃ W,w5.setCells w.heap.size 9 (incC inc0).toList = W:=⟨_,rfl⟩
 rw [hw6] at hX6 hY6 hb6
 have hR:=hY6.row (msgC ⟨2,f,t,0,bal0,bal0,false,inc0,g,s,d,x,n,o,r⟩ a1 c1 a2 c2 a3 c3)
 have hbR:=below_setRow hb6 (Nat.le_succ w.heap.size) (msgC ⟨2,f,t,0,bal0,bal0,false,inc0,g,s,d,x,n,o,r⟩ a1 c1 a2 c2 a3 c3)
 go_enter Tryz.func45,Tryz.ntmps45
 go_wp2_with (first
  | (refine xac (by rfl) 48 rfl (msgC msg0 none 0 none 0 none 0) xbg ?_;rw [hw1];clear hw1)
  | (refine xak (by rfl) 24 _ _ rfl w.heap.size 4 (balC bal0) rfl rfl ?ht (xbx _) (xhm _) ?_;(case ht=>exact ht2);rw [show w2.setCells w.heap.size 4 (balC bal0).toList = w3 from hw3];clear hw3 ht2)
  | (refine xbi (by rfl) 24 [] rfl [] rfl (balC bal0) z_bal ?_)
  | (refine xak (by rfl) 24 _ _ rfl w.heap.size 6 (balC bal0) rfl rfl ?ht (xbx _) (xhm _) ?_;(case ht=>exact ht4);rw [show w4.setCells w.heap.size 6 (balC bal0).toList = w5 from hw5];clear hw5 ht4)
  | (refine xak (by rfl) 26 _ _ rfl w.heap.size 9 (incC inc0) rfl rfl ?ht (ws_inc _) (wo_inc _) ?_;(case ht=>exact ht5);rw [show w5.setCells w.heap.size 9 (incC inc0).toList = w6 from hw6];clear hw6 ht5)
  | (refine xbi (by rfl) 26 [] rfl [] rfl (incC inc0) z_inc ?_)
  | (refine xab (by rfl) 48 _ rfl w.heap.size rfl 48 (msgC ⟨2,f,t,0,bal0,bal0,false,inc0,g,s,d,x,n,o,r⟩ a1 c1 a2 c2 a3 c3) _ Tryz.underlying48 rfl (xah _ _ _ _ _ _ _) ?hg ?_;(case hg=>exact hX6))
  | (refine xao (by rfl) 48 _ _ rfl (w.heap.size + 1) rfl (msgC ⟨2,f,t,0,bal0,bal0,false,inc0,g,s,d,x,n,o,r⟩ a1 c1 a2 c2 a3 c3) rfl 48 (msgC msg0 none 0 none 0 none 0) (xah _ _ _ _ _ _ _) (xbe _ _ _ _ _ _ _ _ _ _ _ _ _ _) (xbn _ _ _ _ _ _ _) ?hg ?_;(case hg=>exact hY6))
  | fail)
 exact xba rfl (w.heap.size + 1) rfl 48 (msgC ⟨2,f,t,0,bal0,bal0,false,inc0,g,s,d,x,n,o,r⟩ a1 c1 a2 c2 a3 c3) _ Tryz.underlying48 rfl (xah _ _ _ _ _ _ _) hR rfl ⟨rfl,hbR⟩
set_option maxHeartbeats 8000000 in
theorem rest_3 (f t e:Nat) (b a:BalV) (h:Bool) (i:IncV) (g:Nat) (s:StV) (d:DiffV) (x:EntV) (n:Nat) (o:OpV) (r:ResV) (a1 a2 a3:Option Addr) (c1 c2 c3:Nat) (w:World) :
  Calls Tryz.prog 45 #[.agg (msgC ⟨3,f,t,e,b,a,h,i,g,s,d,x,n,o,r⟩ a1 c1 a2 c2 a3 c3)] w fun en w'=>en = .returned (.agg (msgC ⟨3,f,t,0,bal0,a,h,inc0,g,s,d,x,n,o,r⟩ a1 c1 a2 c2 a3 c3)) ∧ Below w.heap.size w w':=by
 obtain ⟨w1,hw1,hX1,hY1,hb1⟩:=xbl w 48 48 (msgC ⟨3,f,t,e,b,a,h,i,g,s,d,x,n,o,r⟩ a1 c1 a2 c2 a3 c3) (msgC msg0 none 0 none 0 none 0)
 have hgl1:w.heap.size < w1.heap.size:=hX1.lt
 have x01:w1.cell? ⟨w.heap.size,0,none⟩ = some (.int .u8 3):=hX1.mc_kind
 have xc1:∃ v,w1.cell? ⟨w.heap.size,3,none⟩ = some v:=⟨_,(hX1.cell 3).trans rfl⟩
 obtain ⟨v1,xc1⟩:=xc1
 have xf1:=hX1.free 3
 have hX2:=hX1.set 3 (.int .u32 ((0:Nat):Int))
 rw [xcz] at hX2
 have hY2:=hY1.set_other (a:=⟨w.heap.size,3,none⟩) (show w.heap.size + 1 ≠ w.heap.size by omega) (.int .u32 ((0:Nat):Int))
 have hb2:=hb1.setCell (p:=⟨w.heap.size,3,none⟩) (Nat.le_refl _) (.int .u32 ((0:Nat):Int))
 obtain ⟨w2,hw2⟩:∃ W,w1.setCell ⟨w.heap.size,3,none⟩ (.int .u32 0) = W:=⟨_,rfl⟩
 replace hX2:Has w2 w.heap.size 48 (msgC ⟨3,f,t,0,b,a,h,i,g,s,d,x,n,o,r⟩ a1 c1 a2 c2 a3 c3):=by rw [← hw2];exact hX2
 replace hY2:Has w2 (w.heap.size + 1) 48 (msgC msg0 none 0 none 0 none 0):=by rw [← hw2];exact hY2
 replace hb2:Below w.heap.size w w2:=by rw [← hw2];exact hb2
 have x02:w2.cell? ⟨w.heap.size,0,none⟩ = some (.int .u8 3):=hX2.mc_kind
 have ht2:=hX2.there 4 2 (show 4 + 2 ≤ 131 by decide)
 have hX3:=(show Has w2 w.heap.size 48 (msgL ⟨3,f,t,0,b,a,h,i,g,s,d,x,n,o,r⟩ a1 c1 a2 c2 a3 c3).toArray from hX2).putCells (balC bal0).toList 4 (show 4 + 2 ≤ 131 by decide)
 rw [mput_b] at hX3
 have hY3:=hY2.cells_other (show w.heap.size + 1 ≠ w.heap.size by omega) (balC bal0).toList 4
 have hb3:=xbv hb2 (Nat.le_refl w.heap.size) (balC bal0).toList 4
 obtain ⟨w3,hw3⟩:∃ W,w2.setCells w.heap.size 4 (balC bal0).toList = W:=⟨_,rfl⟩
 rw [hw3] at hX3 hY3 hb3
 have ht3:=hX3.there 9 3 (show 9 + 3 ≤ 131 by decide)
 have hX4:=(show Has w3 w.heap.size 48 (msgL ⟨3,f,t,0,bal0,a,h,i,g,s,d,x,n,o,r⟩ a1 c1 a2 c2 a3 c3).toArray from hX3).putCells (incC inc0).toList 9 (show 9 + 3 ≤ 131 by decide)
 rw [xhh] at hX4
 have hY4:=hY3.cells_other (show w.heap.size + 1 ≠ w.heap.size by omega) (incC inc0).toList 9
 have hb4:=xbv hb3 (Nat.le_refl w.heap.size) (incC inc0).toList 9
 obtain ⟨w4,hw4⟩:∃ W,w3.setCells w.heap.size 9 (incC inc0).toList = W:=⟨_,rfl⟩
 rw [hw4] at hX4 hY4 hb4
 have hR:=hY4.row (msgC ⟨3,f,t,0,bal0,a,h,inc0,g,s,d,x,n,o,r⟩ a1 c1 a2 c2 a3 c3)
 have hbR:=below_setRow hb4 (Nat.le_succ w.heap.size) (msgC ⟨3,f,t,0,bal0,a,h,inc0,g,s,d,x,n,o,r⟩ a1 c1 a2 c2 a3 c3)
 go_enter Tryz.func45,Tryz.ntmps45
 go_wp2_with (first
  | (refine xac (by rfl) 48 rfl (msgC msg0 none 0 none 0 none 0) xbg ?_;rw [hw1];clear hw1)
  | (refine xak (by rfl) 24 _ _ rfl w.heap.size 4 (balC bal0) rfl rfl ?ht (xbx _) (xhm _) ?_;(case ht=>exact ht2);rw [show w2.setCells w.heap.size 4 (balC bal0).toList = w3 from hw3];clear hw3 ht2)
  | (refine xbi (by rfl) 24 [] rfl [] rfl (balC bal0) z_bal ?_)
  | (refine xak (by rfl) 26 _ _ rfl w.heap.size 9 (incC inc0) rfl rfl ?ht (ws_inc _) (wo_inc _) ?_;(case ht=>exact ht3);rw [show w3.setCells w.heap.size 9 (incC inc0).toList = w4 from hw4];clear hw4 ht3)
  | (refine xbi (by rfl) 26 [] rfl [] rfl (incC inc0) z_inc ?_)
  | (refine xab (by rfl) 48 _ rfl w.heap.size rfl 48 (msgC ⟨3,f,t,0,bal0,a,h,inc0,g,s,d,x,n,o,r⟩ a1 c1 a2 c2 a3 c3) _ Tryz.underlying48 rfl (xah _ _ _ _ _ _ _) ?hg ?_;(case hg=>exact hX4))
  | (refine xao (by rfl) 48 _ _ rfl (w.heap.size + 1) rfl (msgC ⟨3,f,t,0,bal0,a,h,inc0,g,s,d,x,n,o,r⟩ a1 c1 a2 c2 a3 c3) rfl 48 (msgC msg0 none 0 none 0 none 0) (xah _ _ _ _ _ _ _) (xbe _ _ _ _ _ _ _ _ _ _ _ _ _ _) (xbn _ _ _ _ _ _ _) ?hg ?_;(case hg=>exact hY4))
  | fail)
 exact xba rfl (w.heap.size + 1) rfl 48 (msgC ⟨3,f,t,0,bal0,a,h,inc0,g,s,d,x,n,o,r⟩ a1 c1 a2 c2 a3 c3) _ Tryz.underlying48 rfl (xah _ _ _ _ _ _ _) hR rfl ⟨rfl,hbR⟩
set_option maxHeartbeats 8000000 in
theorem rest_4 (f t e:Nat) (b a:BalV) (h:Bool) (i:IncV) (g:Nat) (s:StV) (d:DiffV) (x:EntV) (n:Nat) (o:OpV) (r:ResV) (a1 a2 a3:Option Addr) (c1 c2 c3:Nat) (w:World) :
  Calls Tryz.prog 45 #[.agg (msgC ⟨4,f,t,e,b,a,h,i,g,s,d,x,n,o,r⟩ a1 c1 a2 c2 a3 c3)] w fun en w'=>en = .returned (.agg (msgC ⟨4,f,t,0,bal0,a,h,i,g,s,d,x,n,o,r⟩ a1 c1 a2 c2 a3 c3)) ∧ Below w.heap.size w w':=by
 obtain ⟨w1,hw1,hX1,hY1,hb1⟩:=xbl w 48 48 (msgC ⟨4,f,t,e,b,a,h,i,g,s,d,x,n,o,r⟩ a1 c1 a2 c2 a3 c3) (msgC msg0 none 0 none 0 none 0)
 have hgl1:w.heap.size < w1.heap.size:=hX1.lt
 have x01:w1.cell? ⟨w.heap.size,0,none⟩ = some (.int .u8 4):=hX1.mc_kind
 have xc1:∃ v,w1.cell? ⟨w.heap.size,3,none⟩ = some v:=⟨_,(hX1.cell 3).trans rfl⟩
 obtain ⟨v1,xc1⟩:=xc1
 have xf1:=hX1.free 3
 have hX2:=hX1.set 3 (.int .u32 ((0:Nat):Int))
 rw [xcz] at hX2
 have hY2:=hY1.set_other (a:=⟨w.heap.size,3,none⟩) (show w.heap.size + 1 ≠ w.heap.size by omega) (.int .u32 ((0:Nat):Int))
 have hb2:=hb1.setCell (p:=⟨w.heap.size,3,none⟩) (Nat.le_refl _) (.int .u32 ((0:Nat):Int))
 obtain ⟨w2,hw2⟩:∃ W,w1.setCell ⟨w.heap.size,3,none⟩ (.int .u32 0) = W:=⟨_,rfl⟩
 replace hX2:Has w2 w.heap.size 48 (msgC ⟨4,f,t,0,b,a,h,i,g,s,d,x,n,o,r⟩ a1 c1 a2 c2 a3 c3):=by rw [← hw2];exact hX2
 replace hY2:Has w2 (w.heap.size + 1) 48 (msgC msg0 none 0 none 0 none 0):=by rw [← hw2];exact hY2
 replace hb2:Below w.heap.size w w2:=by rw [← hw2];exact hb2
 have x02:w2.cell? ⟨w.heap.size,0,none⟩ = some (.int .u8 4):=hX2.mc_kind
 have ht2:=hX2.there 4 2 (show 4 + 2 ≤ 131 by decide)
 have hX3:=(show Has w2 w.heap.size 48 (msgL ⟨4,f,t,0,b,a,h,i,g,s,d,x,n,o,r⟩ a1 c1 a2 c2 a3 c3).toArray from hX2).putCells (balC bal0).toList 4 (show 4 + 2 ≤ 131 by decide)
 rw [mput_b] at hX3
 have hY3:=hY2.cells_other (show w.heap.size + 1 ≠ w.heap.size by omega) (balC bal0).toList 4
 have hb3:=xbv hb2 (Nat.le_refl w.heap.size) (balC bal0).toList 4
 obtain ⟨w3,hw3⟩:∃ W,w2.setCells w.heap.size 4 (balC bal0).toList = W:=⟨_,rfl⟩
 rw [hw3] at hX3 hY3 hb3
 have hR:=hY3.row (msgC ⟨4,f,t,0,bal0,a,h,i,g,s,d,x,n,o,r⟩ a1 c1 a2 c2 a3 c3)
 have hbR:=below_setRow hb3 (Nat.le_succ w.heap.size) (msgC ⟨4,f,t,0,bal0,a,h,i,g,s,d,x,n,o,r⟩ a1 c1 a2 c2 a3 c3)
 go_enter Tryz.func45,Tryz.ntmps45
 go_wp2_with (first
  | (refine xac (by rfl) 48 rfl (msgC msg0 none 0 none 0 none 0) xbg ?_;rw [hw1];clear hw1)
  | (refine xak (by rfl) 24 _ _ rfl w.heap.size 4 (balC bal0) rfl rfl ?ht (xbx _) (xhm _) ?_;(case ht=>exact ht2);rw [show w2.setCells w.heap.size 4 (balC bal0).toList = w3 from hw3];clear hw3 ht2)
  | (refine xbi (by rfl) 24 [] rfl [] rfl (balC bal0) z_bal ?_)
  | (refine xab (by rfl) 48 _ rfl w.heap.size rfl 48 (msgC ⟨4,f,t,0,bal0,a,h,i,g,s,d,x,n,o,r⟩ a1 c1 a2 c2 a3 c3) _ Tryz.underlying48 rfl (xah _ _ _ _ _ _ _) ?hg ?_;(case hg=>exact hX3))
  | (refine xao (by rfl) 48 _ _ rfl (w.heap.size + 1) rfl (msgC ⟨4,f,t,0,bal0,a,h,i,g,s,d,x,n,o,r⟩ a1 c1 a2 c2 a3 c3) rfl 48 (msgC msg0 none 0 none 0 none 0) (xah _ _ _ _ _ _ _) (xbe _ _ _ _ _ _ _ _ _ _ _ _ _ _) (xbn _ _ _ _ _ _ _) ?hg ?_;(case hg=>exact hY3))
  | fail)
 exact xba rfl (w.heap.size + 1) rfl 48 (msgC ⟨4,f,t,0,bal0,a,h,i,g,s,d,x,n,o,r⟩ a1 c1 a2 c2 a3 c3) _ Tryz.underlying48 rfl (xah _ _ _ _ _ _ _) hR rfl ⟨rfl,hbR⟩
set_option maxHeartbeats 8000000 in
theorem rest_5 (f t e:Nat) (b a:BalV) (h:Bool) (i:IncV) (g:Nat) (s:StV) (d:DiffV) (x:EntV) (n:Nat) (o:OpV) (r:ResV) (a1 a2 a3:Option Addr) (c1 c2 c3:Nat) (w:World) :
  Calls Tryz.prog 45 #[.agg (msgC ⟨5,f,t,e,b,a,h,i,g,s,d,x,n,o,r⟩ a1 c1 a2 c2 a3 c3)] w fun en w'=>en = .returned (.agg (msgC ⟨5,f,t,0,b,a,h,inc0,g,s,d,x,n,o,r⟩ a1 c1 a2 c2 a3 c3)) ∧ Below w.heap.size w w':=by
 obtain ⟨w1,hw1,hX1,hY1,hb1⟩:=xbl w 48 48 (msgC ⟨5,f,t,e,b,a,h,i,g,s,d,x,n,o,r⟩ a1 c1 a2 c2 a3 c3) (msgC msg0 none 0 none 0 none 0)
 have hgl1:w.heap.size < w1.heap.size:=hX1.lt
 have x01:w1.cell? ⟨w.heap.size,0,none⟩ = some (.int .u8 5):=hX1.mc_kind
 have xc1:∃ v,w1.cell? ⟨w.heap.size,3,none⟩ = some v:=⟨_,(hX1.cell 3).trans rfl⟩
 obtain ⟨v1,xc1⟩:=xc1
 have xf1:=hX1.free 3
 have hX2:=hX1.set 3 (.int .u32 ((0:Nat):Int))
 rw [xcz] at hX2
 have hY2:=hY1.set_other (a:=⟨w.heap.size,3,none⟩) (show w.heap.size + 1 ≠ w.heap.size by omega) (.int .u32 ((0:Nat):Int))
 have hb2:=hb1.setCell (p:=⟨w.heap.size,3,none⟩) (Nat.le_refl _) (.int .u32 ((0:Nat):Int))
 obtain ⟨w2,hw2⟩:∃ W,w1.setCell ⟨w.heap.size,3,none⟩ (.int .u32 0) = W:=⟨_,rfl⟩
 replace hX2:Has w2 w.heap.size 48 (msgC ⟨5,f,t,0,b,a,h,i,g,s,d,x,n,o,r⟩ a1 c1 a2 c2 a3 c3):=by rw [← hw2];exact hX2
 replace hY2:Has w2 (w.heap.size + 1) 48 (msgC msg0 none 0 none 0 none 0):=by rw [← hw2];exact hY2
 replace hb2:Below w.heap.size w w2:=by rw [← hw2];exact hb2
 have x02:w2.cell? ⟨w.heap.size,0,none⟩ = some (.int .u8 5):=hX2.mc_kind
 have ht2:=hX2.there 9 3 (show 9 + 3 ≤ 131 by decide)
 have hX3:=(show Has w2 w.heap.size 48 (msgL ⟨5,f,t,0,b,a,h,i,g,s,d,x,n,o,r⟩ a1 c1 a2 c2 a3 c3).toArray from hX2).putCells (incC inc0).toList 9 (show 9 + 3 ≤ 131 by decide)
 rw [xhh] at hX3
 have hY3:=hY2.cells_other (show w.heap.size + 1 ≠ w.heap.size by omega) (incC inc0).toList 9
 have hb3:=xbv hb2 (Nat.le_refl w.heap.size) (incC inc0).toList 9
 obtain ⟨w3,hw3⟩:∃ W,w2.setCells w.heap.size 9 (incC inc0).toList = W:=⟨_,rfl⟩
 rw [hw3] at hX3 hY3 hb3
 have hR:=hY3.row (msgC ⟨5,f,t,0,b,a,h,inc0,g,s,d,x,n,o,r⟩ a1 c1 a2 c2 a3 c3)
 have hbR:=below_setRow hb3 (Nat.le_succ w.heap.size) (msgC ⟨5,f,t,0,b,a,h,inc0,g,s,d,x,n,o,r⟩ a1 c1 a2 c2 a3 c3)
 go_enter Tryz.func45,Tryz.ntmps45
 go_wp2_with (first
  | (refine xac (by rfl) 48 rfl (msgC msg0 none 0 none 0 none 0) xbg ?_;rw [hw1];clear hw1)
  | (refine xak (by rfl) 26 _ _ rfl w.heap.size 9 (incC inc0) rfl rfl ?ht (ws_inc _) (wo_inc _) ?_;(case ht=>exact ht2);rw [show w2.setCells w.heap.size 9 (incC inc0).toList = w3 from hw3];clear hw3 ht2)
  | (refine xbi (by rfl) 26 [] rfl [] rfl (incC inc0) z_inc ?_)
  | (refine xab (by rfl) 48 _ rfl w.heap.size rfl 48 (msgC ⟨5,f,t,0,b,a,h,inc0,g,s,d,x,n,o,r⟩ a1 c1 a2 c2 a3 c3) _ Tryz.underlying48 rfl (xah _ _ _ _ _ _ _) ?hg ?_;(case hg=>exact hX3))
  | (refine xao (by rfl) 48 _ _ rfl (w.heap.size + 1) rfl (msgC ⟨5,f,t,0,b,a,h,inc0,g,s,d,x,n,o,r⟩ a1 c1 a2 c2 a3 c3) rfl 48 (msgC msg0 none 0 none 0 none 0) (xah _ _ _ _ _ _ _) (xbe _ _ _ _ _ _ _ _ _ _ _ _ _ _) (xbn _ _ _ _ _ _ _) ?hg ?_;(case hg=>exact hY3))
  | fail)
 exact xba rfl (w.heap.size + 1) rfl 48 (msgC ⟨5,f,t,0,b,a,h,inc0,g,s,d,x,n,o,r⟩ a1 c1 a2 c2 a3 c3) _ Tryz.underlying48 rfl (xah _ _ _ _ _ _ _) hR rfl ⟨rfl,hbR⟩
set_option maxHeartbeats 8000000 in
theorem rest_6 (f t e:Nat) (b a:BalV) (h:Bool) (i:IncV) (g:Nat) (s:StV) (d:DiffV) (x:EntV) (n:Nat) (o:OpV) (r:ResV) (a1 a2 a3:Option Addr) (c1 c2 c3:Nat) (w:World) :
  Calls Tryz.prog 45 #[.agg (msgC ⟨6,f,t,e,b,a,h,i,g,s,d,x,n,o,r⟩ a1 c1 a2 c2 a3 c3)] w fun en w'=>en = .returned (.agg (msgC ⟨6,f,t,0,b,a,h,i,g,s,d,x,n,o,r⟩ a1 c1 a2 c2 a3 c3)) ∧ Below w.heap.size w w':=by
 obtain ⟨w1,hw1,hX1,hY1,hb1⟩:=xbl w 48 48 (msgC ⟨6,f,t,e,b,a,h,i,g,s,d,x,n,o,r⟩ a1 c1 a2 c2 a3 c3) (msgC msg0 none 0 none 0 none 0)
 have hgl1:w.heap.size < w1.heap.size:=hX1.lt
 have x01:w1.cell? ⟨w.heap.size,0,none⟩ = some (.int .u8 6):=hX1.mc_kind
 have xc1:∃ v,w1.cell? ⟨w.heap.size,3,none⟩ = some v:=⟨_,(hX1.cell 3).trans rfl⟩
 obtain ⟨v1,xc1⟩:=xc1
 have xf1:=hX1.free 3
 have hX2:=hX1.set 3 (.int .u32 ((0:Nat):Int))
 rw [xcz] at hX2
 have hY2:=hY1.set_other (a:=⟨w.heap.size,3,none⟩) (show w.heap.size + 1 ≠ w.heap.size by omega) (.int .u32 ((0:Nat):Int))
 have hb2:=hb1.setCell (p:=⟨w.heap.size,3,none⟩) (Nat.le_refl _) (.int .u32 ((0:Nat):Int))
 obtain ⟨w2,hw2⟩:∃ W,w1.setCell ⟨w.heap.size,3,none⟩ (.int .u32 0) = W:=⟨_,rfl⟩
 replace hX2:Has w2 w.heap.size 48 (msgC ⟨6,f,t,0,b,a,h,i,g,s,d,x,n,o,r⟩ a1 c1 a2 c2 a3 c3):=by rw [← hw2];exact hX2
 replace hY2:Has w2 (w.heap.size + 1) 48 (msgC msg0 none 0 none 0 none 0):=by rw [← hw2];exact hY2
 replace hb2:Below w.heap.size w w2:=by rw [← hw2];exact hb2
 have x02:w2.cell? ⟨w.heap.size,0,none⟩ = some (.int .u8 6):=hX2.mc_kind
 have hR:=hY2.row (msgC ⟨6,f,t,0,b,a,h,i,g,s,d,x,n,o,r⟩ a1 c1 a2 c2 a3 c3)
 have hbR:=below_setRow hb2 (Nat.le_succ w.heap.size) (msgC ⟨6,f,t,0,b,a,h,i,g,s,d,x,n,o,r⟩ a1 c1 a2 c2 a3 c3)
 go_enter Tryz.func45,Tryz.ntmps45
 go_wp2_with (first
  | (refine xac (by rfl) 48 rfl (msgC msg0 none 0 none 0 none 0) xbg ?_;rw [hw1];clear hw1)
  | (refine xab (by rfl) 48 _ rfl w.heap.size rfl 48 (msgC ⟨6,f,t,0,b,a,h,i,g,s,d,x,n,o,r⟩ a1 c1 a2 c2 a3 c3) _ Tryz.underlying48 rfl (xah _ _ _ _ _ _ _) ?hg ?_;(case hg=>exact hX2))
  | (refine xao (by rfl) 48 _ _ rfl (w.heap.size + 1) rfl (msgC ⟨6,f,t,0,b,a,h,i,g,s,d,x,n,o,r⟩ a1 c1 a2 c2 a3 c3) rfl 48 (msgC msg0 none 0 none 0 none 0) (xah _ _ _ _ _ _ _) (xbe _ _ _ _ _ _ _ _ _ _ _ _ _ _) (xbn _ _ _ _ _ _ _) ?hg ?_;(case hg=>exact hY2))
  | fail)
 exact xba rfl (w.heap.size + 1) rfl 48 (msgC ⟨6,f,t,0,b,a,h,i,g,s,d,x,n,o,r⟩ a1 c1 a2 c2 a3 c3) _ Tryz.underlying48 rfl (xah _ _ _ _ _ _ _) hR rfl ⟨rfl,hbR⟩
set_option maxHeartbeats 8000000 in
theorem rest_7 (f t e:Nat) (b a:BalV) (h:Bool) (i:IncV) (g:Nat) (s:StV) (d:DiffV) (x:EntV) (n:Nat) (o:OpV) (r:ResV) (a1 a2 a3:Option Addr) (c1 c2 c3:Nat) (w:World) :
  Calls Tryz.prog 45 #[.agg (msgC ⟨7,f,t,e,b,a,h,i,g,s,d,x,n,o,r⟩ a1 c1 a2 c2 a3 c3)] w fun en w'=>en = .returned (.agg (msgC ⟨7,f,t,0,b,a,h,i,0,s,d,x,n,o,r⟩ a1 c1 a2 c2 a3 c3)) ∧ Below w.heap.size w w':=by
 obtain ⟨w1,hw1,hX1,hY1,hb1⟩:=xbl w 48 48 (msgC ⟨7,f,t,e,b,a,h,i,g,s,d,x,n,o,r⟩ a1 c1 a2 c2 a3 c3) (msgC msg0 none 0 none 0 none 0)
 have hgl1:w.heap.size < w1.heap.size:=hX1.lt
 have x01:w1.cell? ⟨w.heap.size,0,none⟩ = some (.int .u8 7):=hX1.mc_kind
 have xc1:∃ v,w1.cell? ⟨w.heap.size,3,none⟩ = some v:=⟨_,(hX1.cell 3).trans rfl⟩
 obtain ⟨v1,xc1⟩:=xc1
 have xf1:=hX1.free 3
 have hX2:=hX1.set 3 (.int .u32 ((0:Nat):Int))
 rw [xcz] at hX2
 have hY2:=hY1.set_other (a:=⟨w.heap.size,3,none⟩) (show w.heap.size + 1 ≠ w.heap.size by omega) (.int .u32 ((0:Nat):Int))
 have hb2:=hb1.setCell (p:=⟨w.heap.size,3,none⟩) (Nat.le_refl _) (.int .u32 ((0:Nat):Int))
 obtain ⟨w2,hw2⟩:∃ W,w1.setCell ⟨w.heap.size,3,none⟩ (.int .u32 0) = W:=⟨_,rfl⟩
 replace hX2:Has w2 w.heap.size 48 (msgC ⟨7,f,t,0,b,a,h,i,g,s,d,x,n,o,r⟩ a1 c1 a2 c2 a3 c3):=by rw [← hw2];exact hX2
 replace hY2:Has w2 (w.heap.size + 1) 48 (msgC msg0 none 0 none 0 none 0):=by rw [← hw2];exact hY2
 replace hb2:Below w.heap.size w w2:=by rw [← hw2];exact hb2
 have x02:w2.cell? ⟨w.heap.size,0,none⟩ = some (.int .u8 7):=hX2.mc_kind
 have xc2:∃ v,w2.cell? ⟨w.heap.size,12,none⟩ = some v:=⟨_,(hX2.cell 12).trans rfl⟩
 obtain ⟨v2,xc2⟩:=xc2
 have xf2:=hX2.free 12
 have hX3:=hX2.set 12 (.int .u8 ((0:Nat):Int))
 rw [xem] at hX3
 have hY3:=hY2.set_other (a:=⟨w.heap.size,12,none⟩) (show w.heap.size + 1 ≠ w.heap.size by omega) (.int .u8 ((0:Nat):Int))
 have hb3:=hb2.setCell (p:=⟨w.heap.size,12,none⟩) (Nat.le_refl _) (.int .u8 ((0:Nat):Int))
 obtain ⟨w3,hw3⟩:∃ W,w2.setCell ⟨w.heap.size,12,none⟩ (.int .u8 0) = W:=⟨_,rfl⟩
 replace hX3:Has w3 w.heap.size 48 (msgC ⟨7,f,t,0,b,a,h,i,0,s,d,x,n,o,r⟩ a1 c1 a2 c2 a3 c3):=by rw [← hw3];exact hX3
 replace hY3:Has w3 (w.heap.size + 1) 48 (msgC msg0 none 0 none 0 none 0):=by rw [← hw3];exact hY3
 replace hb3:Below w.heap.size w w3:=by rw [← hw3];exact hb3
 have hR:=hY3.row (msgC ⟨7,f,t,0,b,a,h,i,0,s,d,x,n,o,r⟩ a1 c1 a2 c2 a3 c3)
 have hbR:=below_setRow hb3 (Nat.le_succ w.heap.size) (msgC ⟨7,f,t,0,b,a,h,i,0,s,d,x,n,o,r⟩ a1 c1 a2 c2 a3 c3)
 go_enter Tryz.func45,Tryz.ntmps45
 go_wp2_with (first
  | (refine xac (by rfl) 48 rfl (msgC msg0 none 0 none 0 none 0) xbg ?_;rw [hw1];clear hw1)
  | (refine xab (by rfl) 48 _ rfl w.heap.size rfl 48 (msgC ⟨7,f,t,0,b,a,h,i,0,s,d,x,n,o,r⟩ a1 c1 a2 c2 a3 c3) _ Tryz.underlying48 rfl (xah _ _ _ _ _ _ _) ?hg ?_;(case hg=>exact hX3))
  | (refine xao (by rfl) 48 _ _ rfl (w.heap.size + 1) rfl (msgC ⟨7,f,t,0,b,a,h,i,0,s,d,x,n,o,r⟩ a1 c1 a2 c2 a3 c3) rfl 48 (msgC msg0 none 0 none 0 none 0) (xah _ _ _ _ _ _ _) (xbe _ _ _ _ _ _ _ _ _ _ _ _ _ _) (xbn _ _ _ _ _ _ _) ?hg ?_;(case hg=>exact hY3))
  | fail)
 exact xba rfl (w.heap.size + 1) rfl 48 (msgC ⟨7,f,t,0,b,a,h,i,0,s,d,x,n,o,r⟩ a1 c1 a2 c2 a3 c3) _ Tryz.underlying48 rfl (xah _ _ _ _ _ _ _) hR rfl ⟨rfl,hbR⟩
set_option maxHeartbeats 8000000 in
theorem rest_8 (f t e:Nat) (b a:BalV) (h:Bool) (i:IncV) (g:Nat) (s:StV) (d:DiffV) (x:EntV) (n:Nat) (o:OpV) (r:ResV) (a1 a2 a3:Option Addr) (c1 c2 c3:Nat) (w:World) :
  Calls Tryz.prog 45 #[.agg (msgC ⟨8,f,t,e,b,a,h,i,g,s,d,x,n,o,r⟩ a1 c1 a2 c2 a3 c3)] w fun en w'=>en = .returned (.agg (msgC ⟨8,f,t,0,b,a,h,i,0,st0,d,x,n,o,r⟩ none 0 a2 c2 a3 c3)) ∧ Below w.heap.size w w':=by
 obtain ⟨w1,hw1,hX1,hY1,hb1⟩:=xbl w 48 48 (msgC ⟨8,f,t,e,b,a,h,i,g,s,d,x,n,o,r⟩ a1 c1 a2 c2 a3 c3) (msgC msg0 none 0 none 0 none 0)
 have hgl1:w.heap.size < w1.heap.size:=hX1.lt
 have x01:w1.cell? ⟨w.heap.size,0,none⟩ = some (.int .u8 8):=hX1.mc_kind
 have xc1:∃ v,w1.cell? ⟨w.heap.size,3,none⟩ = some v:=⟨_,(hX1.cell 3).trans rfl⟩
 obtain ⟨v1,xc1⟩:=xc1
 have xf1:=hX1.free 3
 have hX2:=hX1.set 3 (.int .u32 ((0:Nat):Int))
 rw [xcz] at hX2
 have hY2:=hY1.set_other (a:=⟨w.heap.size,3,none⟩) (show w.heap.size + 1 ≠ w.heap.size by omega) (.int .u32 ((0:Nat):Int))
 have hb2:=hb1.setCell (p:=⟨w.heap.size,3,none⟩) (Nat.le_refl _) (.int .u32 ((0:Nat):Int))
 obtain ⟨w2,hw2⟩:∃ W,w1.setCell ⟨w.heap.size,3,none⟩ (.int .u32 0) = W:=⟨_,rfl⟩
 replace hX2:Has w2 w.heap.size 48 (msgC ⟨8,f,t,0,b,a,h,i,g,s,d,x,n,o,r⟩ a1 c1 a2 c2 a3 c3):=by rw [← hw2];exact hX2
 replace hY2:Has w2 (w.heap.size + 1) 48 (msgC msg0 none 0 none 0 none 0):=by rw [← hw2];exact hY2
 replace hb2:Below w.heap.size w w2:=by rw [← hw2];exact hb2
 have x02:w2.cell? ⟨w.heap.size,0,none⟩ = some (.int .u8 8):=hX2.mc_kind
 have xc2:∃ v,w2.cell? ⟨w.heap.size,12,none⟩ = some v:=⟨_,(hX2.cell 12).trans rfl⟩
 obtain ⟨v2,xc2⟩:=xc2
 have xf2:=hX2.free 12
 have hX3:=hX2.set 12 (.int .u8 ((0:Nat):Int))
 rw [xem] at hX3
 have hY3:=hY2.set_other (a:=⟨w.heap.size,12,none⟩) (show w.heap.size + 1 ≠ w.heap.size by omega) (.int .u8 ((0:Nat):Int))
 have hb3:=hb2.setCell (p:=⟨w.heap.size,12,none⟩) (Nat.le_refl _) (.int .u8 ((0:Nat):Int))
 obtain ⟨w3,hw3⟩:∃ W,w2.setCell ⟨w.heap.size,12,none⟩ (.int .u8 0) = W:=⟨_,rfl⟩
 replace hX3:Has w3 w.heap.size 48 (msgC ⟨8,f,t,0,b,a,h,i,0,s,d,x,n,o,r⟩ a1 c1 a2 c2 a3 c3):=by rw [← hw3];exact hX3
 replace hY3:Has w3 (w.heap.size + 1) 48 (msgC msg0 none 0 none 0 none 0):=by rw [← hw3];exact hY3
 replace hb3:Below w.heap.size w w3:=by rw [← hw3];exact hb3
 have ht3:=hX3.there 13 49 (show 13 + 49 ≤ 131 by decide)
 have hX4:=(show Has w3 w.heap.size 48 (msgL ⟨8,f,t,0,b,a,h,i,0,s,d,x,n,o,r⟩ a1 c1 a2 c2 a3 c3).toArray from hX3).putCells (stL st0 none 0) 13 (show 13 + 49 ≤ 131 by decide)
 rw [mput_st] at hX4
 have hY4:=hY3.cells_other (show w.heap.size + 1 ≠ w.heap.size by omega) (stL st0 none 0) 13
 have hb4:=xbv hb3 (Nat.le_refl w.heap.size) (stL st0 none 0) 13
 obtain ⟨w4,hw4⟩:∃ W,w3.setCells w.heap.size 13 (stL st0 none 0) = W:=⟨_,rfl⟩
 rw [hw4] at hX4 hY4 hb4
 have hR:=hY4.row (msgC ⟨8,f,t,0,b,a,h,i,0,st0,d,x,n,o,r⟩ none 0 a2 c2 a3 c3)
 have hbR:=below_setRow hb4 (Nat.le_succ w.heap.size) (msgC ⟨8,f,t,0,b,a,h,i,0,st0,d,x,n,o,r⟩ none 0 a2 c2 a3 c3)
 go_enter Tryz.func45,Tryz.ntmps45
 go_wp2_with (first
  | (refine xac (by rfl) 48 rfl (msgC msg0 none 0 none 0 none 0) xbg ?_;rw [hw1];clear hw1)
  | (refine xak (by rfl) 44 _ _ rfl w.heap.size 13 (stC st0 none 0) rfl rfl ?ht (xcg _ _ _) (st_one _ _ _) ?_;(case ht=>exact ht3);rw [show w3.setCells w.heap.size 13 (stC st0 none 0).toList = w4 from hw4];clear hw4 ht3)
  | (refine xbi (by rfl) 44 [] rfl [] rfl (stC st0 none 0) z_st ?_)
  | (refine xab (by rfl) 48 _ rfl w.heap.size rfl 48 (msgC ⟨8,f,t,0,b,a,h,i,0,st0,d,x,n,o,r⟩ none 0 a2 c2 a3 c3) _ Tryz.underlying48 rfl (xah _ _ _ _ _ _ _) ?hg ?_;(case hg=>exact hX4))
  | (refine xao (by rfl) 48 _ _ rfl (w.heap.size + 1) rfl (msgC ⟨8,f,t,0,b,a,h,i,0,st0,d,x,n,o,r⟩ none 0 a2 c2 a3 c3) rfl 48 (msgC msg0 none 0 none 0 none 0) (xah _ _ _ _ _ _ _) (xbe _ _ _ _ _ _ _ _ _ _ _ _ _ _) (xbn _ _ _ _ _ _ _) ?hg ?_;(case hg=>exact hY4))
  | fail)
 exact xba rfl (w.heap.size + 1) rfl 48 (msgC ⟨8,f,t,0,b,a,h,i,0,st0,d,x,n,o,r⟩ none 0 a2 c2 a3 c3) _ Tryz.underlying48 rfl (xah _ _ _ _ _ _ _) hR rfl ⟨rfl,hbR⟩
set_option maxHeartbeats 8000000 in
theorem rest_9 (f t e:Nat) (b a:BalV) (h:Bool) (i:IncV) (g:Nat) (s:StV) (d:DiffV) (x:EntV) (n:Nat) (o:OpV) (r:ResV) (a1 a2 a3:Option Addr) (c1 c2 c3:Nat) (w:World) :
  Calls Tryz.prog 45 #[.agg (msgC ⟨9,f,t,e,b,a,h,i,g,s,d,x,n,o,r⟩ a1 c1 a2 c2 a3 c3)] w fun en w'=>en = .returned (.agg (msgC ⟨9,f,t,0,b,a,h,i,0,s,diff0,x,n,o,r⟩ a1 c1 none 0 none 0)) ∧ Below w.heap.size w w':=by
 obtain ⟨w1,hw1,hX1,hY1,hb1⟩:=xbl w 48 48 (msgC ⟨9,f,t,e,b,a,h,i,g,s,d,x,n,o,r⟩ a1 c1 a2 c2 a3 c3) (msgC msg0 none 0 none 0 none 0)
 have hgl1:w.heap.size < w1.heap.size:=hX1.lt
 have x01:w1.cell? ⟨w.heap.size,0,none⟩ = some (.int .u8 9):=hX1.mc_kind
 have xc1:∃ v,w1.cell? ⟨w.heap.size,3,none⟩ = some v:=⟨_,(hX1.cell 3).trans rfl⟩
 obtain ⟨v1,xc1⟩:=xc1
 have xf1:=hX1.free 3
 have hX2:=hX1.set 3 (.int .u32 ((0:Nat):Int))
 rw [xcz] at hX2
 have hY2:=hY1.set_other (a:=⟨w.heap.size,3,none⟩) (show w.heap.size + 1 ≠ w.heap.size by omega) (.int .u32 ((0:Nat):Int))
 have hb2:=hb1.setCell (p:=⟨w.heap.size,3,none⟩) (Nat.le_refl _) (.int .u32 ((0:Nat):Int))
 obtain ⟨w2,hw2⟩:∃ W,w1.setCell ⟨w.heap.size,3,none⟩ (.int .u32 0) = W:=⟨_,rfl⟩
 replace hX2:Has w2 w.heap.size 48 (msgC ⟨9,f,t,0,b,a,h,i,g,s,d,x,n,o,r⟩ a1 c1 a2 c2 a3 c3):=by rw [← hw2];exact hX2
 replace hY2:Has w2 (w.heap.size + 1) 48 (msgC msg0 none 0 none 0 none 0):=by rw [← hw2];exact hY2
 replace hb2:Below w.heap.size w w2:=by rw [← hw2];exact hb2
 have x02:w2.cell? ⟨w.heap.size,0,none⟩ = some (.int .u8 9):=hX2.mc_kind
 have xc2:∃ v,w2.cell? ⟨w.heap.size,12,none⟩ = some v:=⟨_,(hX2.cell 12).trans rfl⟩
 obtain ⟨v2,xc2⟩:=xc2
 have xf2:=hX2.free 12
 have hX3:=hX2.set 12 (.int .u8 ((0:Nat):Int))
 rw [xem] at hX3
 have hY3:=hY2.set_other (a:=⟨w.heap.size,12,none⟩) (show w.heap.size + 1 ≠ w.heap.size by omega) (.int .u8 ((0:Nat):Int))
 have hb3:=hb2.setCell (p:=⟨w.heap.size,12,none⟩) (Nat.le_refl _) (.int .u8 ((0:Nat):Int))
 obtain ⟨w3,hw3⟩:∃ W,w2.setCell ⟨w.heap.size,12,none⟩ (.int .u8 0) = W:=⟨_,rfl⟩
 replace hX3:Has w3 w.heap.size 48 (msgC ⟨9,f,t,0,b,a,h,i,0,s,d,x,n,o,r⟩ a1 c1 a2 c2 a3 c3):=by rw [← hw3];exact hX3
 replace hY3:Has w3 (w.heap.size + 1) 48 (msgC msg0 none 0 none 0 none 0):=by rw [← hw3];exact hY3
 replace hb3:Below w.heap.size w w3:=by rw [← hw3];exact hb3
 have ht3:=hX3.there 62 52 (show 62 + 52 ≤ 131 by decide)
 have hX4:=(show Has w3 w.heap.size 48 (msgL ⟨9,f,t,0,b,a,h,i,0,s,d,x,n,o,r⟩ a1 c1 a2 c2 a3 c3).toArray from hX3).putCells (diffL diff0 none 0 none 0) 62 (show 62 + 52 ≤ 131 by decide)
 rw [mput_diff] at hX4
 have hY4:=hY3.cells_other (show w.heap.size + 1 ≠ w.heap.size by omega) (diffL diff0 none 0 none 0) 62
 have hb4:=xbv hb3 (Nat.le_refl w.heap.size) (diffL diff0 none 0 none 0) 62
 obtain ⟨w4,hw4⟩:∃ W,w3.setCells w.heap.size 62 (diffL diff0 none 0 none 0) = W:=⟨_,rfl⟩
 rw [hw4] at hX4 hY4 hb4
 have hR:=hY4.row (msgC ⟨9,f,t,0,b,a,h,i,0,s,diff0,x,n,o,r⟩ a1 c1 none 0 none 0)
 have hbR:=below_setRow hb4 (Nat.le_succ w.heap.size) (msgC ⟨9,f,t,0,b,a,h,i,0,s,diff0,x,n,o,r⟩ a1 c1 none 0 none 0)
 go_enter Tryz.func45,Tryz.ntmps45
 go_wp2_with (first
  | (refine xac (by rfl) 48 rfl (msgC msg0 none 0 none 0 none 0) xbg ?_;rw [hw1];clear hw1)
  | (refine xak (by rfl) 46 _ _ rfl w.heap.size 62 (diffC diff0 none 0 none 0) rfl rfl ?ht (xdw _ _ _ _ _) (diff_one _ _ _ _ _) ?_;(case ht=>exact ht3);rw [show w3.setCells w.heap.size 62 (diffC diff0 none 0 none 0).toList = w4 from hw4];clear hw4 ht3)
  | (refine xbi (by rfl) 46 [] rfl [] rfl (diffC diff0 none 0 none 0) z_diff ?_)
  | (refine xab (by rfl) 48 _ rfl w.heap.size rfl 48 (msgC ⟨9,f,t,0,b,a,h,i,0,s,diff0,x,n,o,r⟩ a1 c1 none 0 none 0) _ Tryz.underlying48 rfl (xah _ _ _ _ _ _ _) ?hg ?_;(case hg=>exact hX4))
  | (refine xao (by rfl) 48 _ _ rfl (w.heap.size + 1) rfl (msgC ⟨9,f,t,0,b,a,h,i,0,s,diff0,x,n,o,r⟩ a1 c1 none 0 none 0) rfl 48 (msgC msg0 none 0 none 0 none 0) (xah _ _ _ _ _ _ _) (xbe _ _ _ _ _ _ _ _ _ _ _ _ _ _) (xbn _ _ _ _ _ _ _) ?hg ?_;(case hg=>exact hY4))
  | fail)
 exact xba rfl (w.heap.size + 1) rfl 48 (msgC ⟨9,f,t,0,b,a,h,i,0,s,diff0,x,n,o,r⟩ a1 c1 none 0 none 0) _ Tryz.underlying48 rfl (xah _ _ _ _ _ _ _) hR rfl ⟨rfl,hbR⟩
set_option maxHeartbeats 8000000 in
theorem rest_10 (f t e:Nat) (b a:BalV) (h:Bool) (i:IncV) (g:Nat) (s:StV) (d:DiffV) (x:EntV) (n:Nat) (o:OpV) (r:ResV) (a1 a2 a3:Option Addr) (c1 c2 c3:Nat) (w:World) :
  Calls Tryz.prog 45 #[.agg (msgC ⟨10,f,t,e,b,a,h,i,g,s,d,x,n,o,r⟩ a1 c1 a2 c2 a3 c3)] w fun en w'=>en = .returned (.agg (msgC ⟨10,f,t,0,b,a,h,i,0,s,d,x,0,o,r⟩ a1 c1 a2 c2 a3 c3)) ∧ Below w.heap.size w w':=by
 obtain ⟨w1,hw1,hX1,hY1,hb1⟩:=xbl w 48 48 (msgC ⟨10,f,t,e,b,a,h,i,g,s,d,x,n,o,r⟩ a1 c1 a2 c2 a3 c3) (msgC msg0 none 0 none 0 none 0)
 have hgl1:w.heap.size < w1.heap.size:=hX1.lt
 have x01:w1.cell? ⟨w.heap.size,0,none⟩ = some (.int .u8 10):=hX1.mc_kind
 have xc1:∃ v,w1.cell? ⟨w.heap.size,3,none⟩ = some v:=⟨_,(hX1.cell 3).trans rfl⟩
 obtain ⟨v1,xc1⟩:=xc1
 have xf1:=hX1.free 3
 have hX2:=hX1.set 3 (.int .u32 ((0:Nat):Int))
 rw [xcz] at hX2
 have hY2:=hY1.set_other (a:=⟨w.heap.size,3,none⟩) (show w.heap.size + 1 ≠ w.heap.size by omega) (.int .u32 ((0:Nat):Int))
 have hb2:=hb1.setCell (p:=⟨w.heap.size,3,none⟩) (Nat.le_refl _) (.int .u32 ((0:Nat):Int))
 obtain ⟨w2,hw2⟩:∃ W,w1.setCell ⟨w.heap.size,3,none⟩ (.int .u32 0) = W:=⟨_,rfl⟩
 replace hX2:Has w2 w.heap.size 48 (msgC ⟨10,f,t,0,b,a,h,i,g,s,d,x,n,o,r⟩ a1 c1 a2 c2 a3 c3):=by rw [← hw2];exact hX2
 replace hY2:Has w2 (w.heap.size + 1) 48 (msgC msg0 none 0 none 0 none 0):=by rw [← hw2];exact hY2
 replace hb2:Below w.heap.size w w2:=by rw [← hw2];exact hb2
 have x02:w2.cell? ⟨w.heap.size,0,none⟩ = some (.int .u8 10):=hX2.mc_kind
 have xc2:∃ v,w2.cell? ⟨w.heap.size,12,none⟩ = some v:=⟨_,(hX2.cell 12).trans rfl⟩
 obtain ⟨v2,xc2⟩:=xc2
 have xf2:=hX2.free 12
 have hX3:=hX2.set 12 (.int .u8 ((0:Nat):Int))
 rw [xem] at hX3
 have hY3:=hY2.set_other (a:=⟨w.heap.size,12,none⟩) (show w.heap.size + 1 ≠ w.heap.size by omega) (.int .u8 ((0:Nat):Int))
 have hb3:=hb2.setCell (p:=⟨w.heap.size,12,none⟩) (Nat.le_refl _) (.int .u8 ((0:Nat):Int))
 obtain ⟨w3,hw3⟩:∃ W,w2.setCell ⟨w.heap.size,12,none⟩ (.int .u8 0) = W:=⟨_,rfl⟩
 replace hX3:Has w3 w.heap.size 48 (msgC ⟨10,f,t,0,b,a,h,i,0,s,d,x,n,o,r⟩ a1 c1 a2 c2 a3 c3):=by rw [← hw3];exact hX3
 replace hY3:Has w3 (w.heap.size + 1) 48 (msgC msg0 none 0 none 0 none 0):=by rw [← hw3];exact hY3
 replace hb3:Below w.heap.size w w3:=by rw [← hw3];exact hb3
 have xc3:∃ v,w3.cell? ⟨w.heap.size,122,none⟩ = some v:=⟨_,(hX3.cell 122).trans rfl⟩
 obtain ⟨v3,xc3⟩:=xc3
 have xf3:=hX3.free 122
 have hX4:=hX3.set 122 (.int .u32 ((0:Nat):Int))
 rw [mset_n] at hX4
 have hY4:=hY3.set_other (a:=⟨w.heap.size,122,none⟩) (show w.heap.size + 1 ≠ w.heap.size by omega) (.int .u32 ((0:Nat):Int))
 have hb4:=hb3.setCell (p:=⟨w.heap.size,122,none⟩) (Nat.le_refl _) (.int .u32 ((0:Nat):Int))
 obtain ⟨w4,hw4⟩:∃ W,w3.setCell ⟨w.heap.size,122,none⟩ (.int .u32 0) = W:=⟨_,rfl⟩
 replace hX4:Has w4 w.heap.size 48 (msgC ⟨10,f,t,0,b,a,h,i,0,s,d,x,0,o,r⟩ a1 c1 a2 c2 a3 c3):=by rw [← hw4];exact hX4
 replace hY4:Has w4 (w.heap.size + 1) 48 (msgC msg0 none 0 none 0 none 0):=by rw [← hw4];exact hY4
 replace hb4:Below w.heap.size w w4:=by rw [← hw4];exact hb4
 have hR:=hY4.row (msgC ⟨10,f,t,0,b,a,h,i,0,s,d,x,0,o,r⟩ a1 c1 a2 c2 a3 c3)
 have hbR:=below_setRow hb4 (Nat.le_succ w.heap.size) (msgC ⟨10,f,t,0,b,a,h,i,0,s,d,x,0,o,r⟩ a1 c1 a2 c2 a3 c3)
 go_enter Tryz.func45,Tryz.ntmps45
 go_wp2_with (first
  | (refine xac (by rfl) 48 rfl (msgC msg0 none 0 none 0 none 0) xbg ?_;rw [hw1];clear hw1)
  | (refine xab (by rfl) 48 _ rfl w.heap.size rfl 48 (msgC ⟨10,f,t,0,b,a,h,i,0,s,d,x,0,o,r⟩ a1 c1 a2 c2 a3 c3) _ Tryz.underlying48 rfl (xah _ _ _ _ _ _ _) ?hg ?_;(case hg=>exact hX4))
  | (refine xao (by rfl) 48 _ _ rfl (w.heap.size + 1) rfl (msgC ⟨10,f,t,0,b,a,h,i,0,s,d,x,0,o,r⟩ a1 c1 a2 c2 a3 c3) rfl 48 (msgC msg0 none 0 none 0 none 0) (xah _ _ _ _ _ _ _) (xbe _ _ _ _ _ _ _ _ _ _ _ _ _ _) (xbn _ _ _ _ _ _ _) ?hg ?_;(case hg=>exact hY4))
  | fail)
 exact xba rfl (w.heap.size + 1) rfl 48 (msgC ⟨10,f,t,0,b,a,h,i,0,s,d,x,0,o,r⟩ a1 c1 a2 c2 a3 c3) _ Tryz.underlying48 rfl (xah _ _ _ _ _ _ _) hR rfl ⟨rfl,hbR⟩
set_option maxHeartbeats 8000000 in
theorem rest_11 (f t e:Nat) (b a:BalV) (h:Bool) (i:IncV) (g:Nat) (s:StV) (d:DiffV) (x:EntV) (n:Nat) (o:OpV) (r:ResV) (a1 a2 a3:Option Addr) (c1 c2 c3:Nat) (w:World) :
  Calls Tryz.prog 45 #[.agg (msgC ⟨11,f,t,e,b,a,h,i,g,s,d,x,n,o,r⟩ a1 c1 a2 c2 a3 c3)] w fun en w'=>en = .returned (.agg (msgC ⟨11,f,t,0,b,a,h,i,0,s,d,ent0,n,o,r⟩ a1 c1 a2 c2 a3 c3)) ∧ Below w.heap.size w w':=by
 obtain ⟨w1,hw1,hX1,hY1,hb1⟩:=xbl w 48 48 (msgC ⟨11,f,t,e,b,a,h,i,g,s,d,x,n,o,r⟩ a1 c1 a2 c2 a3 c3) (msgC msg0 none 0 none 0 none 0)
 have hgl1:w.heap.size < w1.heap.size:=hX1.lt
 have x01:w1.cell? ⟨w.heap.size,0,none⟩ = some (.int .u8 11):=hX1.mc_kind
 have xc1:∃ v,w1.cell? ⟨w.heap.size,3,none⟩ = some v:=⟨_,(hX1.cell 3).trans rfl⟩
 obtain ⟨v1,xc1⟩:=xc1
 have xf1:=hX1.free 3
 have hX2:=hX1.set 3 (.int .u32 ((0:Nat):Int))
 rw [xcz] at hX2
 have hY2:=hY1.set_other (a:=⟨w.heap.size,3,none⟩) (show w.heap.size + 1 ≠ w.heap.size by omega) (.int .u32 ((0:Nat):Int))
 have hb2:=hb1.setCell (p:=⟨w.heap.size,3,none⟩) (Nat.le_refl _) (.int .u32 ((0:Nat):Int))
 obtain ⟨w2,hw2⟩:∃ W,w1.setCell ⟨w.heap.size,3,none⟩ (.int .u32 0) = W:=⟨_,rfl⟩
 replace hX2:Has w2 w.heap.size 48 (msgC ⟨11,f,t,0,b,a,h,i,g,s,d,x,n,o,r⟩ a1 c1 a2 c2 a3 c3):=by rw [← hw2];exact hX2
 replace hY2:Has w2 (w.heap.size + 1) 48 (msgC msg0 none 0 none 0 none 0):=by rw [← hw2];exact hY2
 replace hb2:Below w.heap.size w w2:=by rw [← hw2];exact hb2
 have x02:w2.cell? ⟨w.heap.size,0,none⟩ = some (.int .u8 11):=hX2.mc_kind
 have xc2:∃ v,w2.cell? ⟨w.heap.size,12,none⟩ = some v:=⟨_,(hX2.cell 12).trans rfl⟩
 obtain ⟨v2,xc2⟩:=xc2
 have xf2:=hX2.free 12
 have hX3:=hX2.set 12 (.int .u8 ((0:Nat):Int))
 rw [xem] at hX3
 have hY3:=hY2.set_other (a:=⟨w.heap.size,12,none⟩) (show w.heap.size + 1 ≠ w.heap.size by omega) (.int .u8 ((0:Nat):Int))
 have hb3:=hb2.setCell (p:=⟨w.heap.size,12,none⟩) (Nat.le_refl _) (.int .u8 ((0:Nat):Int))
 obtain ⟨w3,hw3⟩:∃ W,w2.setCell ⟨w.heap.size,12,none⟩ (.int .u8 0) = W:=⟨_,rfl⟩
 replace hX3:Has w3 w.heap.size 48 (msgC ⟨11,f,t,0,b,a,h,i,0,s,d,x,n,o,r⟩ a1 c1 a2 c2 a3 c3):=by rw [← hw3];exact hX3
 replace hY3:Has w3 (w.heap.size + 1) 48 (msgC msg0 none 0 none 0 none 0):=by rw [← hw3];exact hY3
 replace hb3:Below w.heap.size w w3:=by rw [← hw3];exact hb3
 have ht3:=hX3.there 114 8 (show 114 + 8 ≤ 131 by decide)
 have hX4:=(show Has w3 w.heap.size 48 (msgL ⟨11,f,t,0,b,a,h,i,0,s,d,x,n,o,r⟩ a1 c1 a2 c2 a3 c3).toArray from hX3).putCells (entL ent0) 114 (show 114 + 8 ≤ 131 by decide)
 rw [mput_ent] at hX4
 have hY4:=hY3.cells_other (show w.heap.size + 1 ≠ w.heap.size by omega) (entL ent0) 114
 have hb4:=xbv hb3 (Nat.le_refl w.heap.size) (entL ent0) 114
 obtain ⟨w4,hw4⟩:∃ W,w3.setCells w.heap.size 114 (entL ent0) = W:=⟨_,rfl⟩
 rw [hw4] at hX4 hY4 hb4
 have hR:=hY4.row (msgC ⟨11,f,t,0,b,a,h,i,0,s,d,ent0,n,o,r⟩ a1 c1 a2 c2 a3 c3)
 have hbR:=below_setRow hb4 (Nat.le_succ w.heap.size) (msgC ⟨11,f,t,0,b,a,h,i,0,s,d,ent0,n,o,r⟩ a1 c1 a2 c2 a3 c3)
 go_enter Tryz.func45,Tryz.ntmps45
 go_wp2_with (first
  | (refine xac (by rfl) 48 rfl (msgC msg0 none 0 none 0 none 0) xbg ?_;rw [hw1];clear hw1)
  | (refine xak (by rfl) 41 _ _ rfl w.heap.size 114 (entC ent0) rfl rfl ?ht (xax _) (xet _) ?_;(case ht=>exact ht3);rw [show w3.setCells w.heap.size 114 (entC ent0).toList = w4 from hw4];clear hw4 ht3)
  | (refine xbi (by rfl) 41 [] rfl [] rfl (entC ent0) z_ent ?_)
  | (refine xab (by rfl) 48 _ rfl w.heap.size rfl 48 (msgC ⟨11,f,t,0,b,a,h,i,0,s,d,ent0,n,o,r⟩ a1 c1 a2 c2 a3 c3) _ Tryz.underlying48 rfl (xah _ _ _ _ _ _ _) ?hg ?_;(case hg=>exact hX4))
  | (refine xao (by rfl) 48 _ _ rfl (w.heap.size + 1) rfl (msgC ⟨11,f,t,0,b,a,h,i,0,s,d,ent0,n,o,r⟩ a1 c1 a2 c2 a3 c3) rfl 48 (msgC msg0 none 0 none 0 none 0) (xah _ _ _ _ _ _ _) (xbe _ _ _ _ _ _ _ _ _ _ _ _ _ _) (xbn _ _ _ _ _ _ _) ?hg ?_;(case hg=>exact hY4))
  | fail)
 exact xba rfl (w.heap.size + 1) rfl 48 (msgC ⟨11,f,t,0,b,a,h,i,0,s,d,ent0,n,o,r⟩ a1 c1 a2 c2 a3 c3) _ Tryz.underlying48 rfl (xah _ _ _ _ _ _ _) hR rfl ⟨rfl,hbR⟩
set_option maxHeartbeats 8000000 in
theorem rest_12 (f t e:Nat) (b a:BalV) (h:Bool) (i:IncV) (g:Nat) (s:StV) (d:DiffV) (x:EntV) (n:Nat) (o:OpV) (r:ResV) (a1 a2 a3:Option Addr) (c1 c2 c3:Nat) (w:World) :
  Calls Tryz.prog 45 #[.agg (msgC ⟨12,f,t,e,b,a,h,i,g,s,d,x,n,o,r⟩ a1 c1 a2 c2 a3 c3)] w fun en w'=>en = .returned (.agg (msgC ⟨12,f,t,0,b,a,h,i,0,s,d,x,0,o,r⟩ a1 c1 a2 c2 a3 c3)) ∧ Below w.heap.size w w':=by
 obtain ⟨w1,hw1,hX1,hY1,hb1⟩:=xbl w 48 48 (msgC ⟨12,f,t,e,b,a,h,i,g,s,d,x,n,o,r⟩ a1 c1 a2 c2 a3 c3) (msgC msg0 none 0 none 0 none 0)
 have hgl1:w.heap.size < w1.heap.size:=hX1.lt
 have x01:w1.cell? ⟨w.heap.size,0,none⟩ = some (.int .u8 12):=hX1.mc_kind
 have xc1:∃ v,w1.cell? ⟨w.heap.size,3,none⟩ = some v:=⟨_,(hX1.cell 3).trans rfl⟩
 obtain ⟨v1,xc1⟩:=xc1
 have xf1:=hX1.free 3
 have hX2:=hX1.set 3 (.int .u32 ((0:Nat):Int))
 rw [xcz] at hX2
 have hY2:=hY1.set_other (a:=⟨w.heap.size,3,none⟩) (show w.heap.size + 1 ≠ w.heap.size by omega) (.int .u32 ((0:Nat):Int))
 have hb2:=hb1.setCell (p:=⟨w.heap.size,3,none⟩) (Nat.le_refl _) (.int .u32 ((0:Nat):Int))
 obtain ⟨w2,hw2⟩:∃ W,w1.setCell ⟨w.heap.size,3,none⟩ (.int .u32 0) = W:=⟨_,rfl⟩
 replace hX2:Has w2 w.heap.size 48 (msgC ⟨12,f,t,0,b,a,h,i,g,s,d,x,n,o,r⟩ a1 c1 a2 c2 a3 c3):=by rw [← hw2];exact hX2
 replace hY2:Has w2 (w.heap.size + 1) 48 (msgC msg0 none 0 none 0 none 0):=by rw [← hw2];exact hY2
 replace hb2:Below w.heap.size w w2:=by rw [← hw2];exact hb2
 have x02:w2.cell? ⟨w.heap.size,0,none⟩ = some (.int .u8 12):=hX2.mc_kind
 have xc2:∃ v,w2.cell? ⟨w.heap.size,12,none⟩ = some v:=⟨_,(hX2.cell 12).trans rfl⟩
 obtain ⟨v2,xc2⟩:=xc2
 have xf2:=hX2.free 12
 have hX3:=hX2.set 12 (.int .u8 ((0:Nat):Int))
 rw [xem] at hX3
 have hY3:=hY2.set_other (a:=⟨w.heap.size,12,none⟩) (show w.heap.size + 1 ≠ w.heap.size by omega) (.int .u8 ((0:Nat):Int))
 have hb3:=hb2.setCell (p:=⟨w.heap.size,12,none⟩) (Nat.le_refl _) (.int .u8 ((0:Nat):Int))
 obtain ⟨w3,hw3⟩:∃ W,w2.setCell ⟨w.heap.size,12,none⟩ (.int .u8 0) = W:=⟨_,rfl⟩
 replace hX3:Has w3 w.heap.size 48 (msgC ⟨12,f,t,0,b,a,h,i,0,s,d,x,n,o,r⟩ a1 c1 a2 c2 a3 c3):=by rw [← hw3];exact hX3
 replace hY3:Has w3 (w.heap.size + 1) 48 (msgC msg0 none 0 none 0 none 0):=by rw [← hw3];exact hY3
 replace hb3:Below w.heap.size w w3:=by rw [← hw3];exact hb3
 have xc3:∃ v,w3.cell? ⟨w.heap.size,122,none⟩ = some v:=⟨_,(hX3.cell 122).trans rfl⟩
 obtain ⟨v3,xc3⟩:=xc3
 have xf3:=hX3.free 122
 have hX4:=hX3.set 122 (.int .u32 ((0:Nat):Int))
 rw [mset_n] at hX4
 have hY4:=hY3.set_other (a:=⟨w.heap.size,122,none⟩) (show w.heap.size + 1 ≠ w.heap.size by omega) (.int .u32 ((0:Nat):Int))
 have hb4:=hb3.setCell (p:=⟨w.heap.size,122,none⟩) (Nat.le_refl _) (.int .u32 ((0:Nat):Int))
 obtain ⟨w4,hw4⟩:∃ W,w3.setCell ⟨w.heap.size,122,none⟩ (.int .u32 0) = W:=⟨_,rfl⟩
 replace hX4:Has w4 w.heap.size 48 (msgC ⟨12,f,t,0,b,a,h,i,0,s,d,x,0,o,r⟩ a1 c1 a2 c2 a3 c3):=by rw [← hw4];exact hX4
 replace hY4:Has w4 (w.heap.size + 1) 48 (msgC msg0 none 0 none 0 none 0):=by rw [← hw4];exact hY4
 replace hb4:Below w.heap.size w w4:=by rw [← hw4];exact hb4
 have hR:=hY4.row (msgC ⟨12,f,t,0,b,a,h,i,0,s,d,x,0,o,r⟩ a1 c1 a2 c2 a3 c3)
 have hbR:=below_setRow hb4 (Nat.le_succ w.heap.size) (msgC ⟨12,f,t,0,b,a,h,i,0,s,d,x,0,o,r⟩ a1 c1 a2 c2 a3 c3)
 go_enter Tryz.func45,Tryz.ntmps45
 go_wp2_with (first
  | (refine xac (by rfl) 48 rfl (msgC msg0 none 0 none 0 none 0) xbg ?_;rw [hw1];clear hw1)
  | (refine xab (by rfl) 48 _ rfl w.heap.size rfl 48 (msgC ⟨12,f,t,0,b,a,h,i,0,s,d,x,0,o,r⟩ a1 c1 a2 c2 a3 c3) _ Tryz.underlying48 rfl (xah _ _ _ _ _ _ _) ?hg ?_;(case hg=>exact hX4))
  | (refine xao (by rfl) 48 _ _ rfl (w.heap.size + 1) rfl (msgC ⟨12,f,t,0,b,a,h,i,0,s,d,x,0,o,r⟩ a1 c1 a2 c2 a3 c3) rfl 48 (msgC msg0 none 0 none 0 none 0) (xah _ _ _ _ _ _ _) (xbe _ _ _ _ _ _ _ _ _ _ _ _ _ _) (xbn _ _ _ _ _ _ _) ?hg ?_;(case hg=>exact hY4))
  | fail)
 exact xba rfl (w.heap.size + 1) rfl 48 (msgC ⟨12,f,t,0,b,a,h,i,0,s,d,x,0,o,r⟩ a1 c1 a2 c2 a3 c3) _ Tryz.underlying48 rfl (xah _ _ _ _ _ _ _) hR rfl ⟨rfl,hbR⟩
set_option maxHeartbeats 8000000 in
theorem rest_13 (f t e:Nat) (b a:BalV) (h:Bool) (i:IncV) (g:Nat) (s:StV) (d:DiffV) (x:EntV) (n:Nat) (o:OpV) (r:ResV) (a1 a2 a3:Option Addr) (c1 c2 c3:Nat) (w:World) :
  Calls Tryz.prog 45 #[.agg (msgC ⟨13,f,t,e,b,a,h,i,g,s,d,x,n,o,r⟩ a1 c1 a2 c2 a3 c3)] w fun en w'=>en = .returned (.agg (msgC ⟨13,f,t,0,b,a,h,i,0,s,d,x,n,op0,r⟩ a1 c1 a2 c2 a3 c3)) ∧ Below w.heap.size w w':=by
 obtain ⟨w1,hw1,hX1,hY1,hb1⟩:=xbl w 48 48 (msgC ⟨13,f,t,e,b,a,h,i,g,s,d,x,n,o,r⟩ a1 c1 a2 c2 a3 c3) (msgC msg0 none 0 none 0 none 0)
 have hgl1:w.heap.size < w1.heap.size:=hX1.lt
 have x01:w1.cell? ⟨w.heap.size,0,none⟩ = some (.int .u8 13):=hX1.mc_kind
 have xc1:∃ v,w1.cell? ⟨w.heap.size,3,none⟩ = some v:=⟨_,(hX1.cell 3).trans rfl⟩
 obtain ⟨v1,xc1⟩:=xc1
 have xf1:=hX1.free 3
 have hX2:=hX1.set 3 (.int .u32 ((0:Nat):Int))
 rw [xcz] at hX2
 have hY2:=hY1.set_other (a:=⟨w.heap.size,3,none⟩) (show w.heap.size + 1 ≠ w.heap.size by omega) (.int .u32 ((0:Nat):Int))
 have hb2:=hb1.setCell (p:=⟨w.heap.size,3,none⟩) (Nat.le_refl _) (.int .u32 ((0:Nat):Int))
 obtain ⟨w2,hw2⟩:∃ W,w1.setCell ⟨w.heap.size,3,none⟩ (.int .u32 0) = W:=⟨_,rfl⟩
 replace hX2:Has w2 w.heap.size 48 (msgC ⟨13,f,t,0,b,a,h,i,g,s,d,x,n,o,r⟩ a1 c1 a2 c2 a3 c3):=by rw [← hw2];exact hX2
 replace hY2:Has w2 (w.heap.size + 1) 48 (msgC msg0 none 0 none 0 none 0):=by rw [← hw2];exact hY2
 replace hb2:Below w.heap.size w w2:=by rw [← hw2];exact hb2
 have x02:w2.cell? ⟨w.heap.size,0,none⟩ = some (.int .u8 13):=hX2.mc_kind
 have xc2:∃ v,w2.cell? ⟨w.heap.size,12,none⟩ = some v:=⟨_,(hX2.cell 12).trans rfl⟩
 obtain ⟨v2,xc2⟩:=xc2
 have xf2:=hX2.free 12
 have hX3:=hX2.set 12 (.int .u8 ((0:Nat):Int))
 rw [xem] at hX3
 have hY3:=hY2.set_other (a:=⟨w.heap.size,12,none⟩) (show w.heap.size + 1 ≠ w.heap.size by omega) (.int .u8 ((0:Nat):Int))
 have hb3:=hb2.setCell (p:=⟨w.heap.size,12,none⟩) (Nat.le_refl _) (.int .u8 ((0:Nat):Int))
 obtain ⟨w3,hw3⟩:∃ W,w2.setCell ⟨w.heap.size,12,none⟩ (.int .u8 0) = W:=⟨_,rfl⟩
 replace hX3:Has w3 w.heap.size 48 (msgC ⟨13,f,t,0,b,a,h,i,0,s,d,x,n,o,r⟩ a1 c1 a2 c2 a3 c3):=by rw [← hw3];exact hX3
 replace hY3:Has w3 (w.heap.size + 1) 48 (msgC msg0 none 0 none 0 none 0):=by rw [← hw3];exact hY3
 replace hb3:Below w.heap.size w w3:=by rw [← hw3];exact hb3
 have ht3:=hX3.there 123 6 (show 123 + 6 ≤ 131 by decide)
 have hX4:=(show Has w3 w.heap.size 48 (msgL ⟨13,f,t,0,b,a,h,i,0,s,d,x,n,o,r⟩ a1 c1 a2 c2 a3 c3).toArray from hX3).putCells (opL op0) 123 (show 123 + 6 ≤ 131 by decide)
 rw [xhg] at hX4
 have hY4:=hY3.cells_other (show w.heap.size + 1 ≠ w.heap.size by omega) (opL op0) 123
 have hb4:=xbv hb3 (Nat.le_refl w.heap.size) (opL op0) 123
 obtain ⟨w4,hw4⟩:∃ W,w3.setCells w.heap.size 123 (opL op0) = W:=⟨_,rfl⟩
 rw [hw4] at hX4 hY4 hb4
 have hR:=hY4.row (msgC ⟨13,f,t,0,b,a,h,i,0,s,d,x,n,op0,r⟩ a1 c1 a2 c2 a3 c3)
 have hbR:=below_setRow hb4 (Nat.le_succ w.heap.size) (msgC ⟨13,f,t,0,b,a,h,i,0,s,d,x,n,op0,r⟩ a1 c1 a2 c2 a3 c3)
 go_enter Tryz.func45,Tryz.ntmps45
 go_wp2_with (first
  | (refine xac (by rfl) 48 rfl (msgC msg0 none 0 none 0 none 0) xbg ?_;rw [hw1];clear hw1)
  | (refine xak (by rfl) 39 _ _ rfl w.heap.size 123 (opC op0) rfl rfl ?ht (xca _) (op_one _) ?_;(case ht=>exact ht3);rw [show w3.setCells w.heap.size 123 (opC op0).toList = w4 from hw4];clear hw4 ht3)
  | (refine xbi (by rfl) 39 [] rfl [] rfl (opC op0) z_op ?_)
  | (refine xab (by rfl) 48 _ rfl w.heap.size rfl 48 (msgC ⟨13,f,t,0,b,a,h,i,0,s,d,x,n,op0,r⟩ a1 c1 a2 c2 a3 c3) _ Tryz.underlying48 rfl (xah _ _ _ _ _ _ _) ?hg ?_;(case hg=>exact hX4))
  | (refine xao (by rfl) 48 _ _ rfl (w.heap.size + 1) rfl (msgC ⟨13,f,t,0,b,a,h,i,0,s,d,x,n,op0,r⟩ a1 c1 a2 c2 a3 c3) rfl 48 (msgC msg0 none 0 none 0 none 0) (xah _ _ _ _ _ _ _) (xbe _ _ _ _ _ _ _ _ _ _ _ _ _ _) (xbn _ _ _ _ _ _ _) ?hg ?_;(case hg=>exact hY4))
  | fail)
 exact xba rfl (w.heap.size + 1) rfl 48 (msgC ⟨13,f,t,0,b,a,h,i,0,s,d,x,n,op0,r⟩ a1 c1 a2 c2 a3 c3) _ Tryz.underlying48 rfl (xah _ _ _ _ _ _ _) hR rfl ⟨rfl,hbR⟩
set_option maxHeartbeats 8000000 in
theorem rest_14 (f t e:Nat) (b a:BalV) (h:Bool) (i:IncV) (g:Nat) (s:StV) (d:DiffV) (x:EntV) (n:Nat) (o:OpV) (r:ResV) (a1 a2 a3:Option Addr) (c1 c2 c3:Nat) (w:World) :
  Calls Tryz.prog 45 #[.agg (msgC ⟨14,f,t,e,b,a,h,i,g,s,d,x,n,o,r⟩ a1 c1 a2 c2 a3 c3)] w fun en w'=>en = .returned (.agg (msgC ⟨14,f,t,0,b,a,h,i,0,s,d,x,n,op0,r⟩ a1 c1 a2 c2 a3 c3)) ∧ Below w.heap.size w w':=by
 obtain ⟨w1,hw1,hX1,hY1,hb1⟩:=xbl w 48 48 (msgC ⟨14,f,t,e,b,a,h,i,g,s,d,x,n,o,r⟩ a1 c1 a2 c2 a3 c3) (msgC msg0 none 0 none 0 none 0)
 have hgl1:w.heap.size < w1.heap.size:=hX1.lt
 have x01:w1.cell? ⟨w.heap.size,0,none⟩ = some (.int .u8 14):=hX1.mc_kind
 have xc1:∃ v,w1.cell? ⟨w.heap.size,3,none⟩ = some v:=⟨_,(hX1.cell 3).trans rfl⟩
 obtain ⟨v1,xc1⟩:=xc1
 have xf1:=hX1.free 3
 have hX2:=hX1.set 3 (.int .u32 ((0:Nat):Int))
 rw [xcz] at hX2
 have hY2:=hY1.set_other (a:=⟨w.heap.size,3,none⟩) (show w.heap.size + 1 ≠ w.heap.size by omega) (.int .u32 ((0:Nat):Int))
 have hb2:=hb1.setCell (p:=⟨w.heap.size,3,none⟩) (Nat.le_refl _) (.int .u32 ((0:Nat):Int))
 obtain ⟨w2,hw2⟩:∃ W,w1.setCell ⟨w.heap.size,3,none⟩ (.int .u32 0) = W:=⟨_,rfl⟩
 replace hX2:Has w2 w.heap.size 48 (msgC ⟨14,f,t,0,b,a,h,i,g,s,d,x,n,o,r⟩ a1 c1 a2 c2 a3 c3):=by rw [← hw2];exact hX2
 replace hY2:Has w2 (w.heap.size + 1) 48 (msgC msg0 none 0 none 0 none 0):=by rw [← hw2];exact hY2
 replace hb2:Below w.heap.size w w2:=by rw [← hw2];exact hb2
 have x02:w2.cell? ⟨w.heap.size,0,none⟩ = some (.int .u8 14):=hX2.mc_kind
 have xc2:∃ v,w2.cell? ⟨w.heap.size,12,none⟩ = some v:=⟨_,(hX2.cell 12).trans rfl⟩
 obtain ⟨v2,xc2⟩:=xc2
 have xf2:=hX2.free 12
 have hX3:=hX2.set 12 (.int .u8 ((0:Nat):Int))
 rw [xem] at hX3
 have hY3:=hY2.set_other (a:=⟨w.heap.size,12,none⟩) (show w.heap.size + 1 ≠ w.heap.size by omega) (.int .u8 ((0:Nat):Int))
 have hb3:=hb2.setCell (p:=⟨w.heap.size,12,none⟩) (Nat.le_refl _) (.int .u8 ((0:Nat):Int))
 obtain ⟨w3,hw3⟩:∃ W,w2.setCell ⟨w.heap.size,12,none⟩ (.int .u8 0) = W:=⟨_,rfl⟩
 replace hX3:Has w3 w.heap.size 48 (msgC ⟨14,f,t,0,b,a,h,i,0,s,d,x,n,o,r⟩ a1 c1 a2 c2 a3 c3):=by rw [← hw3];exact hX3
 replace hY3:Has w3 (w.heap.size + 1) 48 (msgC msg0 none 0 none 0 none 0):=by rw [← hw3];exact hY3
 replace hb3:Below w.heap.size w w3:=by rw [← hw3];exact hb3
 have ht3:=hX3.there 123 6 (show 123 + 6 ≤ 131 by decide)
 have hX4:=(show Has w3 w.heap.size 48 (msgL ⟨14,f,t,0,b,a,h,i,0,s,d,x,n,o,r⟩ a1 c1 a2 c2 a3 c3).toArray from hX3).putCells (opL op0) 123 (show 123 + 6 ≤ 131 by decide)
 rw [xhg] at hX4
 have hY4:=hY3.cells_other (show w.heap.size + 1 ≠ w.heap.size by omega) (opL op0) 123
 have hb4:=xbv hb3 (Nat.le_refl w.heap.size) (opL op0) 123
 obtain ⟨w4,hw4⟩:∃ W,w3.setCells w.heap.size 123 (opL op0) = W:=⟨_,rfl⟩
 rw [hw4] at hX4 hY4 hb4
 have hR:=hY4.row (msgC ⟨14,f,t,0,b,a,h,i,0,s,d,x,n,op0,r⟩ a1 c1 a2 c2 a3 c3)
 have hbR:=below_setRow hb4 (Nat.le_succ w.heap.size) (msgC ⟨14,f,t,0,b,a,h,i,0,s,d,x,n,op0,r⟩ a1 c1 a2 c2 a3 c3)
 go_enter Tryz.func45,Tryz.ntmps45
 go_wp2_with (first
  | (refine xac (by rfl) 48 rfl (msgC msg0 none 0 none 0 none 0) xbg ?_;rw [hw1];clear hw1)
  | (refine xak (by rfl) 39 _ _ rfl w.heap.size 123 (opC op0) rfl rfl ?ht (xca _) (op_one _) ?_;(case ht=>exact ht3);rw [show w3.setCells w.heap.size 123 (opC op0).toList = w4 from hw4];clear hw4 ht3)
  | (refine xbi (by rfl) 39 [] rfl [] rfl (opC op0) z_op ?_)
  | (refine xab (by rfl) 48 _ rfl w.heap.size rfl 48 (msgC ⟨14,f,t,0,b,a,h,i,0,s,d,x,n,op0,r⟩ a1 c1 a2 c2 a3 c3) _ Tryz.underlying48 rfl (xah _ _ _ _ _ _ _) ?hg ?_;(case hg=>exact hX4))
  | (refine xao (by rfl) 48 _ _ rfl (w.heap.size + 1) rfl (msgC ⟨14,f,t,0,b,a,h,i,0,s,d,x,n,op0,r⟩ a1 c1 a2 c2 a3 c3) rfl 48 (msgC msg0 none 0 none 0 none 0) (xah _ _ _ _ _ _ _) (xbe _ _ _ _ _ _ _ _ _ _ _ _ _ _) (xbn _ _ _ _ _ _ _) ?hg ?_;(case hg=>exact hY4))
  | fail)
 exact xba rfl (w.heap.size + 1) rfl 48 (msgC ⟨14,f,t,0,b,a,h,i,0,s,d,x,n,op0,r⟩ a1 c1 a2 c2 a3 c3) _ Tryz.underlying48 rfl (xah _ _ _ _ _ _ _) hR rfl ⟨rfl,hbR⟩
set_option maxHeartbeats 8000000 in
theorem rest_15 (f t e:Nat) (b a:BalV) (h:Bool) (i:IncV) (g:Nat) (s:StV) (d:DiffV) (x:EntV) (n:Nat) (o:OpV) (r:ResV) (a1 a2 a3:Option Addr) (c1 c2 c3:Nat) (w:World) :
  Calls Tryz.prog 45 #[.agg (msgC ⟨15,f,t,e,b,a,h,i,g,s,d,x,n,o,r⟩ a1 c1 a2 c2 a3 c3)] w fun en w'=>en = .returned (.agg (msgC ⟨15,f,t,e,b,a,h,i,g,s,d,x,n,op0,r⟩ a1 c1 a2 c2 a3 c3)) ∧ Below w.heap.size w w':=by
 obtain ⟨w1,hw1,hX1,hY1,hb1⟩:=xbl w 48 48 (msgC ⟨15,f,t,e,b,a,h,i,g,s,d,x,n,o,r⟩ a1 c1 a2 c2 a3 c3) (msgC msg0 none 0 none 0 none 0)
 have hgl1:w.heap.size < w1.heap.size:=hX1.lt
 have x01:w1.cell? ⟨w.heap.size,0,none⟩ = some (.int .u8 15):=hX1.mc_kind
 have ht1:=hX1.there 123 6 (show 123 + 6 ≤ 131 by decide)
 have hX2:=(show Has w1 w.heap.size 48 (msgL ⟨15,f,t,e,b,a,h,i,g,s,d,x,n,o,r⟩ a1 c1 a2 c2 a3 c3).toArray from hX1).putCells (opL op0) 123 (show 123 + 6 ≤ 131 by decide)
 rw [xhg] at hX2
 have hY2:=hY1.cells_other (show w.heap.size + 1 ≠ w.heap.size by omega) (opL op0) 123
 have hb2:=xbv hb1 (Nat.le_refl w.heap.size) (opL op0) 123
 obtain ⟨w2,hw2⟩:∃ W,w1.setCells w.heap.size 123 (opL op0) = W:=⟨_,rfl⟩
 rw [hw2] at hX2 hY2 hb2
 have hR:=hY2.row (msgC ⟨15,f,t,e,b,a,h,i,g,s,d,x,n,op0,r⟩ a1 c1 a2 c2 a3 c3)
 have hbR:=below_setRow hb2 (Nat.le_succ w.heap.size) (msgC ⟨15,f,t,e,b,a,h,i,g,s,d,x,n,op0,r⟩ a1 c1 a2 c2 a3 c3)
 go_enter Tryz.func45,Tryz.ntmps45
 go_wp2_with (first
  | (refine xac (by rfl) 48 rfl (msgC msg0 none 0 none 0 none 0) xbg ?_;rw [hw1];clear hw1)
  | (refine xak (by rfl) 39 _ _ rfl w.heap.size 123 (opC op0) rfl rfl ?ht (xca _) (op_one _) ?_;(case ht=>exact ht1);rw [show w1.setCells w.heap.size 123 (opC op0).toList = w2 from hw2];clear hw2 ht1)
  | (refine xbi (by rfl) 39 [] rfl [] rfl (opC op0) z_op ?_)
  | (refine xab (by rfl) 48 _ rfl w.heap.size rfl 48 (msgC ⟨15,f,t,e,b,a,h,i,g,s,d,x,n,op0,r⟩ a1 c1 a2 c2 a3 c3) _ Tryz.underlying48 rfl (xah _ _ _ _ _ _ _) ?hg ?_;(case hg=>exact hX2))
  | (refine xao (by rfl) 48 _ _ rfl (w.heap.size + 1) rfl (msgC ⟨15,f,t,e,b,a,h,i,g,s,d,x,n,op0,r⟩ a1 c1 a2 c2 a3 c3) rfl 48 (msgC msg0 none 0 none 0 none 0) (xah _ _ _ _ _ _ _) (xbe _ _ _ _ _ _ _ _ _ _ _ _ _ _) (xbn _ _ _ _ _ _ _) ?hg ?_;(case hg=>exact hY2))
  | fail)
 exact xba rfl (w.heap.size + 1) rfl 48 (msgC ⟨15,f,t,e,b,a,h,i,g,s,d,x,n,op0,r⟩ a1 c1 a2 c2 a3 c3) _ Tryz.underlying48 rfl (xah _ _ _ _ _ _ _) hR rfl ⟨rfl,hbR⟩
set_option maxHeartbeats 8000000 in
theorem rest_16 (f t e:Nat) (b a:BalV) (h:Bool) (i:IncV) (g:Nat) (s:StV) (d:DiffV) (x:EntV) (n:Nat) (o:OpV) (r:ResV) (a1 a2 a3:Option Addr) (c1 c2 c3:Nat) (w:World) :
  Calls Tryz.prog 45 #[.agg (msgC ⟨16,f,t,e,b,a,h,i,g,s,d,x,n,o,r⟩ a1 c1 a2 c2 a3 c3)] w fun en w'=>en = .returned (.agg (msgC ⟨16,f,t,e,b,a,h,i,g,s,d,x,n,op0,res0⟩ a1 c1 a2 c2 a3 c3)) ∧ Below w.heap.size w w':=by
 obtain ⟨w1,hw1,hX1,hY1,hb1⟩:=xbl w 48 48 (msgC ⟨16,f,t,e,b,a,h,i,g,s,d,x,n,o,r⟩ a1 c1 a2 c2 a3 c3) (msgC msg0 none 0 none 0 none 0)
 have hgl1:w.heap.size < w1.heap.size:=hX1.lt
 have x01:w1.cell? ⟨w.heap.size,0,none⟩ = some (.int .u8 16):=hX1.mc_kind
 have ht1:=hX1.there 123 6 (show 123 + 6 ≤ 131 by decide)
 have hX2:=(show Has w1 w.heap.size 48 (msgL ⟨16,f,t,e,b,a,h,i,g,s,d,x,n,o,r⟩ a1 c1 a2 c2 a3 c3).toArray from hX1).putCells (opL op0) 123 (show 123 + 6 ≤ 131 by decide)
 rw [xhg] at hX2
 have hY2:=hY1.cells_other (show w.heap.size + 1 ≠ w.heap.size by omega) (opL op0) 123
 have hb2:=xbv hb1 (Nat.le_refl w.heap.size) (opL op0) 123
 obtain ⟨w2,hw2⟩:∃ W,w1.setCells w.heap.size 123 (opL op0) = W:=⟨_,rfl⟩
 rw [hw2] at hX2 hY2 hb2
 have ht2:=hX2.there 129 2 (show 129 + 2 ≤ 131 by decide)
 have hX3:=(show Has w2 w.heap.size 48 (msgL ⟨16,f,t,e,b,a,h,i,g,s,d,x,n,op0,r⟩ a1 c1 a2 c2 a3 c3).toArray from hX2).putCells (resL res0) 129 (show 129 + 2 ≤ 131 by decide)
 rw [mput_r] at hX3
 have hY3:=hY2.cells_other (show w.heap.size + 1 ≠ w.heap.size by omega) (resL res0) 129
 have hb3:=xbv hb2 (Nat.le_refl w.heap.size) (resL res0) 129
 obtain ⟨w3,hw3⟩:∃ W,w2.setCells w.heap.size 129 (resL res0) = W:=⟨_,rfl⟩
 rw [hw3] at hX3 hY3 hb3
 have hR:=hY3.row (msgC ⟨16,f,t,e,b,a,h,i,g,s,d,x,n,op0,res0⟩ a1 c1 a2 c2 a3 c3)
 have hbR:=below_setRow hb3 (Nat.le_succ w.heap.size) (msgC ⟨16,f,t,e,b,a,h,i,g,s,d,x,n,op0,res0⟩ a1 c1 a2 c2 a3 c3)
 go_enter Tryz.func45,Tryz.ntmps45
 go_wp2_with (first
  | (refine xac (by rfl) 48 rfl (msgC msg0 none 0 none 0 none 0) xbg ?_;rw [hw1];clear hw1)
  | (refine xak (by rfl) 39 _ _ rfl w.heap.size 123 (opC op0) rfl rfl ?ht (xca _) (op_one _) ?_;(case ht=>exact ht1);rw [show w1.setCells w.heap.size 123 (opC op0).toList = w2 from hw2];clear hw2 ht1)
  | (refine xbi (by rfl) 39 [] rfl [] rfl (opC op0) z_op ?_)
  | (refine xak (by rfl) 32 _ _ rfl w.heap.size 129 (resC res0) rfl rfl ?ht (xeb _) (res_one _) ?_;(case ht=>exact ht2);rw [show w2.setCells w.heap.size 129 (resC res0).toList = w3 from hw3];clear hw3 ht2)
  | (refine xbi (by rfl) 32 [] rfl [] rfl (resC res0) z_res ?_)
  | (refine xab (by rfl) 48 _ rfl w.heap.size rfl 48 (msgC ⟨16,f,t,e,b,a,h,i,g,s,d,x,n,op0,res0⟩ a1 c1 a2 c2 a3 c3) _ Tryz.underlying48 rfl (xah _ _ _ _ _ _ _) ?hg ?_;(case hg=>exact hX3))
  | (refine xao (by rfl) 48 _ _ rfl (w.heap.size + 1) rfl (msgC ⟨16,f,t,e,b,a,h,i,g,s,d,x,n,op0,res0⟩ a1 c1 a2 c2 a3 c3) rfl 48 (msgC msg0 none 0 none 0 none 0) (xah _ _ _ _ _ _ _) (xbe _ _ _ _ _ _ _ _ _ _ _ _ _ _) (xbn _ _ _ _ _ _ _) ?hg ?_;(case hg=>exact hY3))
  | fail)
 exact xba rfl (w.heap.size + 1) rfl 48 (msgC ⟨16,f,t,e,b,a,h,i,g,s,d,x,n,op0,res0⟩ a1 c1 a2 c2 a3 c3) _ Tryz.underlying48 rfl (xah _ _ _ _ _ _ _) hR rfl ⟨rfl,hbR⟩
set_option maxHeartbeats 8000000 in
theorem rest_17 (f t e:Nat) (b a:BalV) (h:Bool) (i:IncV) (g:Nat) (s:StV) (d:DiffV) (x:EntV) (n:Nat) (o:OpV) (r:ResV) (a1 a2 a3:Option Addr) (c1 c2 c3:Nat) (w:World) :
  Calls Tryz.prog 45 #[.agg (msgC ⟨17,f,t,e,b,a,h,i,g,s,d,x,n,o,r⟩ a1 c1 a2 c2 a3 c3)] w fun en w'=>en = .returned (.agg (msgC ⟨17,f,t,e,b,a,h,i,g,s,d,x,0,o,r⟩ a1 c1 a2 c2 a3 c3)) ∧ Below w.heap.size w w':=by
 obtain ⟨w1,hw1,hX1,hY1,hb1⟩:=xbl w 48 48 (msgC ⟨17,f,t,e,b,a,h,i,g,s,d,x,n,o,r⟩ a1 c1 a2 c2 a3 c3) (msgC msg0 none 0 none 0 none 0)
 have hgl1:w.heap.size < w1.heap.size:=hX1.lt
 have x01:w1.cell? ⟨w.heap.size,0,none⟩ = some (.int .u8 17):=hX1.mc_kind
 have xc1:∃ v,w1.cell? ⟨w.heap.size,122,none⟩ = some v:=⟨_,(hX1.cell 122).trans rfl⟩
 obtain ⟨v1,xc1⟩:=xc1
 have xf1:=hX1.free 122
 have hX2:=hX1.set 122 (.int .u32 ((0:Nat):Int))
 rw [mset_n] at hX2
 have hY2:=hY1.set_other (a:=⟨w.heap.size,122,none⟩) (show w.heap.size + 1 ≠ w.heap.size by omega) (.int .u32 ((0:Nat):Int))
 have hb2:=hb1.setCell (p:=⟨w.heap.size,122,none⟩) (Nat.le_refl _) (.int .u32 ((0:Nat):Int))
 obtain ⟨w2,hw2⟩:∃ W,w1.setCell ⟨w.heap.size,122,none⟩ (.int .u32 0) = W:=⟨_,rfl⟩
 replace hX2:Has w2 w.heap.size 48 (msgC ⟨17,f,t,e,b,a,h,i,g,s,d,x,0,o,r⟩ a1 c1 a2 c2 a3 c3):=by rw [← hw2];exact hX2
 replace hY2:Has w2 (w.heap.size + 1) 48 (msgC msg0 none 0 none 0 none 0):=by rw [← hw2];exact hY2
 replace hb2:Below w.heap.size w w2:=by rw [← hw2];exact hb2
 have hR:=hY2.row (msgC ⟨17,f,t,e,b,a,h,i,g,s,d,x,0,o,r⟩ a1 c1 a2 c2 a3 c3)
 have hbR:=below_setRow hb2 (Nat.le_succ w.heap.size) (msgC ⟨17,f,t,e,b,a,h,i,g,s,d,x,0,o,r⟩ a1 c1 a2 c2 a3 c3)
 go_enter Tryz.func45,Tryz.ntmps45
 go_wp2_with (first
  | (refine xac (by rfl) 48 rfl (msgC msg0 none 0 none 0 none 0) xbg ?_;rw [hw1];clear hw1)
  | (refine xab (by rfl) 48 _ rfl w.heap.size rfl 48 (msgC ⟨17,f,t,e,b,a,h,i,g,s,d,x,0,o,r⟩ a1 c1 a2 c2 a3 c3) _ Tryz.underlying48 rfl (xah _ _ _ _ _ _ _) ?hg ?_;(case hg=>exact hX2))
  | (refine xao (by rfl) 48 _ _ rfl (w.heap.size + 1) rfl (msgC ⟨17,f,t,e,b,a,h,i,g,s,d,x,0,o,r⟩ a1 c1 a2 c2 a3 c3) rfl 48 (msgC msg0 none 0 none 0 none 0) (xah _ _ _ _ _ _ _) (xbe _ _ _ _ _ _ _ _ _ _ _ _ _ _) (xbn _ _ _ _ _ _ _) ?hg ?_;(case hg=>exact hY2))
  | fail)
 exact xba rfl (w.heap.size + 1) rfl 48 (msgC ⟨17,f,t,e,b,a,h,i,g,s,d,x,0,o,r⟩ a1 c1 a2 c2 a3 c3) _ Tryz.underlying48 rfl (xah _ _ _ _ _ _ _) hR rfl ⟨rfl,hbR⟩
set_option maxHeartbeats 8000000 in
theorem rest_18 (f t e:Nat) (b a:BalV) (h:Bool) (i:IncV) (g:Nat) (s:StV) (d:DiffV) (x:EntV) (n:Nat) (o:OpV) (r:ResV) (a1 a2 a3:Option Addr) (c1 c2 c3:Nat) (w:World) :
  Calls Tryz.prog 45 #[.agg (msgC ⟨18,f,t,e,b,a,h,i,g,s,d,x,n,o,r⟩ a1 c1 a2 c2 a3 c3)] w fun en w'=>en = .returned (.agg (msgC ⟨18,f,t,0,bal0,a,h,i,g,s,d,x,n,o,r⟩ a1 c1 a2 c2 a3 c3)) ∧ Below w.heap.size w w':=by
 obtain ⟨w1,hw1,hX1,hY1,hb1⟩:=xbl w 48 48 (msgC ⟨18,f,t,e,b,a,h,i,g,s,d,x,n,o,r⟩ a1 c1 a2 c2 a3 c3) (msgC msg0 none 0 none 0 none 0)
 have hgl1:w.heap.size < w1.heap.size:=hX1.lt
 have x01:w1.cell? ⟨w.heap.size,0,none⟩ = some (.int .u8 18):=hX1.mc_kind
 have xc1:∃ v,w1.cell? ⟨w.heap.size,3,none⟩ = some v:=⟨_,(hX1.cell 3).trans rfl⟩
 obtain ⟨v1,xc1⟩:=xc1
 have xf1:=hX1.free 3
 have hX2:=hX1.set 3 (.int .u32 ((0:Nat):Int))
 rw [xcz] at hX2
 have hY2:=hY1.set_other (a:=⟨w.heap.size,3,none⟩) (show w.heap.size + 1 ≠ w.heap.size by omega) (.int .u32 ((0:Nat):Int))
 have hb2:=hb1.setCell (p:=⟨w.heap.size,3,none⟩) (Nat.le_refl _) (.int .u32 ((0:Nat):Int))
 obtain ⟨w2,hw2⟩:∃ W,w1.setCell ⟨w.heap.size,3,none⟩ (.int .u32 0) = W:=⟨_,rfl⟩
 replace hX2:Has w2 w.heap.size 48 (msgC ⟨18,f,t,0,b,a,h,i,g,s,d,x,n,o,r⟩ a1 c1 a2 c2 a3 c3):=by rw [← hw2];exact hX2
 replace hY2:Has w2 (w.heap.size + 1) 48 (msgC msg0 none 0 none 0 none 0):=by rw [← hw2];exact hY2
 replace hb2:Below w.heap.size w w2:=by rw [← hw2];exact hb2
 have x02:w2.cell? ⟨w.heap.size,0,none⟩ = some (.int .u8 18):=hX2.mc_kind
 have ht2:=hX2.there 4 2 (show 4 + 2 ≤ 131 by decide)
 have hX3:=(show Has w2 w.heap.size 48 (msgL ⟨18,f,t,0,b,a,h,i,g,s,d,x,n,o,r⟩ a1 c1 a2 c2 a3 c3).toArray from hX2).putCells (balC bal0).toList 4 (show 4 + 2 ≤ 131 by decide)
 rw [mput_b] at hX3
 have hY3:=hY2.cells_other (show w.heap.size + 1 ≠ w.heap.size by omega) (balC bal0).toList 4
 have hb3:=xbv hb2 (Nat.le_refl w.heap.size) (balC bal0).toList 4
 obtain ⟨w3,hw3⟩:∃ W,w2.setCells w.heap.size 4 (balC bal0).toList = W:=⟨_,rfl⟩
 rw [hw3] at hX3 hY3 hb3
 have hR:=hY3.row (msgC ⟨18,f,t,0,bal0,a,h,i,g,s,d,x,n,o,r⟩ a1 c1 a2 c2 a3 c3)
 have hbR:=below_setRow hb3 (Nat.le_succ w.heap.size) (msgC ⟨18,f,t,0,bal0,a,h,i,g,s,d,x,n,o,r⟩ a1 c1 a2 c2 a3 c3)
 go_enter Tryz.func45,Tryz.ntmps45
 go_wp2_with (first
  | (refine xac (by rfl) 48 rfl (msgC msg0 none 0 none 0 none 0) xbg ?_;rw [hw1];clear hw1)
  | (refine xak (by rfl) 24 _ _ rfl w.heap.size 4 (balC bal0) rfl rfl ?ht (xbx _) (xhm _) ?_;(case ht=>exact ht2);rw [show w2.setCells w.heap.size 4 (balC bal0).toList = w3 from hw3];clear hw3 ht2)
  | (refine xbi (by rfl) 24 [] rfl [] rfl (balC bal0) z_bal ?_)
  | (refine xab (by rfl) 48 _ rfl w.heap.size rfl 48 (msgC ⟨18,f,t,0,bal0,a,h,i,g,s,d,x,n,o,r⟩ a1 c1 a2 c2 a3 c3) _ Tryz.underlying48 rfl (xah _ _ _ _ _ _ _) ?hg ?_;(case hg=>exact hX3))
  | (refine xao (by rfl) 48 _ _ rfl (w.heap.size + 1) rfl (msgC ⟨18,f,t,0,bal0,a,h,i,g,s,d,x,n,o,r⟩ a1 c1 a2 c2 a3 c3) rfl 48 (msgC msg0 none 0 none 0 none 0) (xah _ _ _ _ _ _ _) (xbe _ _ _ _ _ _ _ _ _ _ _ _ _ _) (xbn _ _ _ _ _ _ _) ?hg ?_;(case hg=>exact hY3))
  | fail)
 exact xba rfl (w.heap.size + 1) rfl 48 (msgC ⟨18,f,t,0,bal0,a,h,i,g,s,d,x,n,o,r⟩ a1 c1 a2 c2 a3 c3) _ Tryz.underlying48 rfl (xah _ _ _ _ _ _ _) hR rfl ⟨rfl,hbR⟩
theorem rest_any (m:MsgV) (a1 a2 a3:Option Addr) (c1 c2 c3:Nat) (w:World) (hk:1 ≤ m.kind ∧ m.kind ≤ 18) (sm:MsgSl w m a1 c1 a2 c2 a3 c3) :
  Calls Tryz.prog 45 #[.agg (msgC m a1 c1 a2 c2 a3 c3)] w fun en w'=>∃ b1 d1 b2 d2 b3 d3,en = .returned (.agg (msgC (restD m) b1 d1 b2 d2 b3 d3)) ∧ MsgSl w' (restD m) b1 d1 b2 d2 b3 d3 ∧ Below w.heap.size w w':=by
 obtain ⟨k,f,t,e,b,a,h,i,g,s,d,x,n,o,r⟩:=m
 replace hk:1 ≤ k ∧ k ≤ 18:=hk
 obtain ⟨s1,s2,s3⟩:=sm
 rcases (by omega:k = 1 ∨ k = 2 ∨ k = 3 ∨ k = 4 ∨ k = 5 ∨ k = 6 ∨ k = 7 ∨ k = 8 ∨ k = 9 ∨ k = 10 ∨ k = 11 ∨ k = 12 ∨ k = 13 ∨ k = 14 ∨ k = 15 ∨ k = 16 ∨ k = 17 ∨ k = 18) with rfl | rfl | rfl | rfl | rfl | rfl | rfl | rfl | rfl | rfl | rfl | rfl | rfl | rfl | rfl | rfl | rfl | rfl
 ·refine (rest_1 f t e b a h i g s d x n o r a1 a2 a3 c1 c2 c3 w).mono ?_
  rintro en w' ⟨rfl,hb⟩
  exact ⟨_,_,_,_,_,_,rfl,⟨s1.later hb,s2.later hb,s3.later hb⟩,hb⟩
 ·refine (rest_2 f t e b a h i g s d x n o r a1 a2 a3 c1 c2 c3 w).mono ?_
  rintro en w' ⟨rfl,hb⟩
  exact ⟨_,_,_,_,_,_,rfl,⟨s1.later hb,s2.later hb,s3.later hb⟩,hb⟩
 ·refine (rest_3 f t e b a h i g s d x n o r a1 a2 a3 c1 c2 c3 w).mono ?_
  rintro en w' ⟨rfl,hb⟩
  exact ⟨_,_,_,_,_,_,rfl,⟨s1.later hb,s2.later hb,s3.later hb⟩,hb⟩
 ·refine (rest_4 f t e b a h i g s d x n o r a1 a2 a3 c1 c2 c3 w).mono ?_
  rintro en w' ⟨rfl,hb⟩
  exact ⟨_,_,_,_,_,_,rfl,⟨s1.later hb,s2.later hb,s3.later hb⟩,hb⟩
 ·refine (rest_5 f t e b a h i g s d x n o r a1 a2 a3 c1 c2 c3 w).mono ?_
  rintro en w' ⟨rfl,hb⟩
  exact ⟨_,_,_,_,_,_,rfl,⟨s1.later hb,s2.later hb,s3.later hb⟩,hb⟩
 ·refine (rest_6 f t e b a h i g s d x n o r a1 a2 a3 c1 c2 c3 w).mono ?_
  rintro en w' ⟨rfl,hb⟩
  exact ⟨_,_,_,_,_,_,rfl,⟨s1.later hb,s2.later hb,s3.later hb⟩,hb⟩
 ·refine (rest_7 f t e b a h i g s d x n o r a1 a2 a3 c1 c2 c3 w).mono ?_
  rintro en w' ⟨rfl,hb⟩
  exact ⟨_,_,_,_,_,_,rfl,⟨s1.later hb,s2.later hb,s3.later hb⟩,hb⟩
 ·refine (rest_8 f t e b a h i g s d x n o r a1 a2 a3 c1 c2 c3 w).mono ?_
  rintro en w' ⟨rfl,hb⟩
  exact ⟨_,_,_,_,_,_,rfl,⟨Sl.nothing _ _,s2.later hb,s3.later hb⟩,hb⟩
 ·refine (rest_9 f t e b a h i g s d x n o r a1 a2 a3 c1 c2 c3 w).mono ?_
  rintro en w' ⟨rfl,hb⟩
  exact ⟨_,_,_,_,_,_,rfl,⟨s1.later hb,Sl.nothing _ _,Sl.nothing _ _⟩,hb⟩
 ·refine (rest_10 f t e b a h i g s d x n o r a1 a2 a3 c1 c2 c3 w).mono ?_
  rintro en w' ⟨rfl,hb⟩
  exact ⟨_,_,_,_,_,_,rfl,⟨s1.later hb,s2.later hb,s3.later hb⟩,hb⟩
 ·refine (rest_11 f t e b a h i g s d x n o r a1 a2 a3 c1 c2 c3 w).mono ?_
  rintro en w' ⟨rfl,hb⟩
  exact ⟨_,_,_,_,_,_,rfl,⟨s1.later hb,s2.later hb,s3.later hb⟩,hb⟩
 ·refine (rest_12 f t e b a h i g s d x n o r a1 a2 a3 c1 c2 c3 w).mono ?_
  rintro en w' ⟨rfl,hb⟩
  exact ⟨_,_,_,_,_,_,rfl,⟨s1.later hb,s2.later hb,s3.later hb⟩,hb⟩
 ·refine (rest_13 f t e b a h i g s d x n o r a1 a2 a3 c1 c2 c3 w).mono ?_
  rintro en w' ⟨rfl,hb⟩
  exact ⟨_,_,_,_,_,_,rfl,⟨s1.later hb,s2.later hb,s3.later hb⟩,hb⟩
 ·refine (rest_14 f t e b a h i g s d x n o r a1 a2 a3 c1 c2 c3 w).mono ?_
  rintro en w' ⟨rfl,hb⟩
  exact ⟨_,_,_,_,_,_,rfl,⟨s1.later hb,s2.later hb,s3.later hb⟩,hb⟩
 ·refine (rest_15 f t e b a h i g s d x n o r a1 a2 a3 c1 c2 c3 w).mono ?_
  rintro en w' ⟨rfl,hb⟩
  exact ⟨_,_,_,_,_,_,rfl,⟨s1.later hb,s2.later hb,s3.later hb⟩,hb⟩
 ·refine (rest_16 f t e b a h i g s d x n o r a1 a2 a3 c1 c2 c3 w).mono ?_
  rintro en w' ⟨rfl,hb⟩
  exact ⟨_,_,_,_,_,_,rfl,⟨s1.later hb,s2.later hb,s3.later hb⟩,hb⟩
 ·refine (rest_17 f t e b a h i g s d x n o r a1 a2 a3 c1 c2 c3 w).mono ?_
  rintro en w' ⟨rfl,hb⟩
  exact ⟨_,_,_,_,_,_,rfl,⟨s1.later hb,s2.later hb,s3.later hb⟩,hb⟩
 ·refine (rest_18 f t e b a h i g s d x n o r a1 a2 a3 c1 c2 c3 w).mono ?_
  rintro en w' ⟨rfl,hb⟩
  exact ⟨_,_,_,_,_,_,rfl,⟨s1.later hb,s2.later hb,s3.later hb⟩,hb⟩

set_option maxRecDepth 100000 in
set_option maxHeartbeats 1000000 in
theorem refisinc_any (x:IncV) (w:World) (hx:IncOk x) :
  Calls Tryz.prog 47 #[.agg (incC x)] w fun e w'=>e = .returned (.bool (isInc x)) ∧ Below w.heap.size w w':=by
 obtain ⟨k,o,n⟩:=x
 obtain ⟨h1,h2,h3,h4⟩:=hx
 simp only at h1 h2 h3 h4
 show Calls Tryz.prog 47 #[.agg #[.int .u8 (k:Int),.int .u8 (o:Int),.int .i64 n]] w _
 go_enter Tryz.func47,Tryz.ntmps47
 go_wp2
 all_goals
  go_ret
  refine ⟨ret_bool ?_,(Below.refl _ _).alloc (Nat.le_refl _) _⟩
  rw [isInc_of,Bool.eq_iff_iff]
  simp only [beq_iff_eq,beq_eq_false_iff_ne,ne_eq] at *
  simp
  omega

set_option maxHeartbeats 1000000 in
theorem docB_any (b:BalV) (w:World) (hb:BalOk b) :
  Calls Tryz.prog 46 #[.agg (balC b)] w fun e w'=>e = .returned (.bool (isB b)) ∧ Below w.heap.size w w':=by
 obtain ⟨n,k⟩:=b
 obtain ⟨h1,h2⟩:=hb
 simp only at h1 h2
 show Calls Tryz.prog 46 #[.agg #[.int .u32 (n:Int),.int .u8 (k:Int)]] w _
 go_enter Tryz.func46,Tryz.ntmps46
 go_wp2
 all_goals
  go_ret
  refine ⟨ret_bool ?_,(Below.refl _ _).alloc (Nat.le_refl _) _⟩
  rw [Bool.eq_iff_iff,isB_is]
  simp only [beq_iff_eq,beq_eq_false_iff_ne,ne_eq] at *
  simp
  omega
theorem diff0_okZ:DiffOk diff0:=⟨by show (-9223372036854775808:Int) ≤ 0;decide,by show (0:Int) ≤ 9223372036854775807;decide,by show 0 < 4294967296;decide,(fun e he=>by cases he),by show 0 ≤ 1000;decide,st0_okZ⟩
theorem rest_ok {m:MsgV} (h:MsgOk m):MsgOk (restD m):=by
 refine ⟨h.kind,h.src,h.dst,?_,?_,?_,?_,?_,?_,?_,?_,?_,?_,?_⟩
 ·show (if _ then m.epoch else 0) < 4294967296
  split
  ·exact h.epoch
  ·decide
 ·show BalOk (if _ then bal0 else m.b)
  split
  ·exact bal0_okZ
  ·exact h.b
 ·show BalOk (if _ then bal0 else m.acc)
  split
  ·exact bal0_okZ
  ·exact h.acc
 ·show IncOk (if _ then inc0 else m.inc)
  split
  ·exact inc0_G.ok
  ·exact h.inc
 ·show (if _ then 0 else m.group) < 256
  split
  ·decide
  ·exact h.group
 ·show StOk (if _ then st0 else m.st)
  split
  ·exact st0_okZ
  ·exact h.st
 ·show DiffOk (if _ then diff0 else m.diff)
  split
  ·exact diff0_okZ
  ·exact h.diff
 ·show EntOk (if _ then ent0 else m.ent)
  split
  ·exact ent0_okZ
  ·exact h.ent
 ·show (if _ then 0 else m.n) < 4294967296
  split
  ·decide
  ·exact h.n
 ·show OpOk (if _ then op0 else m.op)
  split
  ·exact op0_ok
  ·exact h.op
 ·show ResIn (if _ then res0 else m.r)
  split
  ·exact ⟨by decide,by decide⟩
  ·exact h.r
section
variable {w:World} {g:Nat} {t:TypeId} {m:MsgV} {a1 a2 a3:Option Addr} {c1 c2 c3:Nat}
theorem Has.m_entop (h:Has w g t (msgC m a1 c1 a2 c2 a3 c3)):w.rangeAt g 116 (opL m.ent.op):=xez ((msgL m a1 c1 a2 c2 a3 c3).take 116) (opL m.ent.op) ((msgL m a1 c1 a2 c2 a3 c3).drop 122) 116 rfl h
theorem Has.mc_entsince (h:Has w g t (msgC m a1 c1 a2 c2 a3 c3)):w.cell? ⟨g,114,none⟩ = some (.int .u32 (m.ent.since:Int)):=(h.cell 114).trans rfl
theorem Has.mc_entn (h:Has w g t (msgC m a1 c1 a2 c2 a3 c3)):w.cell? ⟨g,115,none⟩ = some (.int .u32 (m.ent.n:Int)):=(h.cell 115).trans rfl
end

theorem dd_built (s:Nat) (e:EntV):Tryz.prog.built 44 [(0,.int .u32 (s:Int)),(2,.agg (entC e))] = some (stC ⟨s,base0,e,[]⟩ none 0):=by kernel_rfl
theorem dd_ent (n:Nat):Tryz.prog.built 41 [(1,.int .u32 (n:Int))] = some (entC ⟨0,n,op0⟩):=by kernel_rfl
theorem dd_first (e:EntV) (l:List EntV) (ao:Option Addr) (c:Nat):Tryz.prog.built 44 [(2,.agg (entC e)),(3,.slice ao l.length c)] = some (stC ⟨0,base0,e,l⟩ ao c):=by kernel_rfl
section
variable {w:World} {g:Nat} {t:TypeId} {x:DiffV} {a2 a3:Option Addr} {e2 e3:Nat}
theorem Has.d_wstarted (h:Has w g t (diffC x a2 e2 a3 e3)):w.cell? ⟨g,3,none⟩ = some (.int .u32 (x.whole.started:Int)):=(h.cell 3).trans rfl
theorem Has.d_wtail (h:Has w g t (diffC x a2 e2 a3 e3)):w.rangeAt g 43 (entL x.whole.tail):=xez ((diffL x a2 e2 a3 e3).take 43) (entL x.whole.tail) ((diffL x a2 e2 a3 e3).drop 51) 43 rfl h
end
set_option maxHeartbeats 16000000 in
theorem docdiff_any (x:DiffV) (a2 a3:Option Addr) (e2 e3:Nat) (w:World) (hx:DiffOk x) (sx:DiffSl w x a2 e2 a3 e3) :
  Calls Tryz.prog 48 #[.agg (diffC x a2 e2 a3 e3)] w fun en w'=>en = .returned (.bool (diffD x)) ∧ Below w.heap.size w w':=by
 obtain ⟨w1,hw1,hX,hb⟩:=xbr w 46 (diffC x a2 e2 a3 e3)
 replace sx:=sx.later hb
 have x0:=hX.d_kind
 have x1:=hX.d_from
 have x2:=hX.d_log
 have x3:=hX.d_wstarted
 obtain ⟨ll,hll⟩:∃ n,x.log.length = n:=⟨_,rfl⟩
 rw [hll] at x2
 have hle:=sx.log.ent_le
 have hcap:=sx.log.cap
 rw [hll] at hle
 have hll':Hid _:=hll
 clear hll
 have hfr:=hx.fr
 go_enter Tryz.func48,Tryz.ntmps48
 by_cases k2:x.kind = 2
 ·have k2I:(x.kind == 2) = true:=by simp [k2]
  have hD0:diffD x = (decide (x.fr = 0) && (decide (x.log.length = 0) && isSt x.whole)):=by unfold diffD;rw [if_pos k2]
  rw [hll'.out] at hD0
  by_cases f0:x.fr = 0
  ·have f0I:((x.fr:Int) == 0) = true:=by simp [f0]
   have f0J:(x.fr:Int) = 0:=by omega
   by_cases l0:ll = 0
   ·have l0I:((ll:Int) == 0) = true:=by simp [l0]
    have l0J:(ll:Int) = 0:=by omega
    rw [decide_eq_true f0,decide_eq_true l0] at hD0
    have hD:Hid (diffD x = isSt x.whole):=hD0
    clear k2 f0 l0 hD0
    go_wp2_with (first
     | (refine xae (by rfl) 44 _ rfl w.heap.size 3 rfl (stL x.whole a3 e3) _ ?hc Tryz.underlying44 rfl (xcg x.whole a3 e3) ?_;(case hc=>exact hX.d_whole))
     | fail)
    refine (xgw x.whole a3 e3 _ hx.whole sx.whole).mono ?_
    rintro en w2 ⟨rfl,hq⟩
    replace hb:=hb.trans (hq.mono hb.size)
    go_wp2
    go_ret
    exact ⟨by rw [hD.out];try rfl,hb⟩
   ·have l0I:((ll:Int) == 0) = false:=by simp;omega
    have l0J:¬ (ll:Int) = 0:=by omega
    rw [decide_eq_false l0] at hD0
    have hD:Hid (diffD x = false):=by show _ = _;rw [hD0];simp
    clear k2 f0 l0 hD0
    go_wp2
    go_ret
    exact ⟨by rw [hD.out];try rfl,hb⟩
  ·have f0I:((x.fr:Int) == 0) = false:=by simp;omega
   have f0J:¬ (x.fr:Int) = 0:=by omega
   rw [decide_eq_false f0] at hD0
   have hD:Hid (diffD x = false):=by show _ = _;rw [hD0];rfl
   clear k2 f0 hD0
   go_wp2
   go_ret
   exact ⟨by rw [hD.out];try rfl,hb⟩
 have k2I:(x.kind == 2) = false:=by simp [k2]
 have hD0:diffD x = if x.kind < 0 ∨ 2 < x.kind ∨ same tSt (endsM x.whole) x.whole = false ∨ isSt (endsM x.whole) = false ∨ 6 < x.log.length then false else if x.kind = 0 then decide (x.fr = 0) && decide (x.log.length = 0) else firstD x.log:=by unfold diffD;rw [if_neg k2]
 rw [hll'.out] at hD0
 replace hD0:Hid _:=hD0
 have hoE:StOk (endsM x.whole):=⟨hx.whole.started,base0_ok.in',hx.whole.tail,(fun e he=>by cases he),by show 0 ≤ 1000;decide⟩
 obtain ⟨w2,hw2,hV,hq⟩:=xcm w1 44 (stC st0 none 0) (stC (endsM x.whole) none 0)
 have hX2:=hX.later hq
 have sx2:DiffSl w2 x a2 e2 a3 e3:=sx.later hq
 have hb2:=hb.trans (hq.mono hb.size)
 have y0:=hX2.d_kind
 have y2:=hX2.d_log
 rw [hll'.out] at y2
 have hbld:Hid (Tryz.prog.built 44 [(0,.int .u32 (x.whole.started:Int)),(2,.agg (entC x.whole.tail))] = some (stC (endsM x.whole) none 0)):=dd_built x.whole.started x.whole.tail
 go_upto_region 3 with fail
 refine wp_region_list ?_
 show wpList Tryz.prog _ _ [_,_,_,_,_,_,_,_,_] _ _
 iterate 5
  refine xaf _ (.inl ⟨by rfl,fun W hS=>by subst hS;go_simp;try with_reducible rfl⟩) ?_
  try simp only [qp,qa,qb,qc]
 refine xaf (.agg (entL x.whole.tail).toArray) (xaj (by rfl) 41 _ rfl (w.heap.size) 43 rfl (entL x.whole.tail) _ Tryz.underlying41 rfl (xax x.whole.tail) (fun W hS=>by subst hS;exact hX.d_wtail)) ?_
 try simp only [qp,qa,qb,qc]
 refine xed (by rfl) 44 0 2 _ _ rfl (.int .u32 (x.whole.started:Int)) (.agg (entC x.whole.tail)) rfl rfl (stC (endsM x.whole) none 0) hbld.out ?_
 try simp only [qp,qa,qb,qc]
 refine xac (by rfl) 44 rfl (stC st0 none 0) st_zero ?_
 try simp only [qp,qa,qb,qc]
 refine xai (by rfl) 44 _ _ rfl w1.heap.size rfl (stC (endsM x.whole) none 0) rfl 44 (stC st0 none 0) (xcg _ _ _) rfl (st_one _ _ _) ?hg w2 ?hW ?_
 case hg=>exact Has.new _ _ _
 case hW=>exact hw2
 clear hw2 hbld
 refine wpList_nil ?_
 go_upto_region 4 with fail
 have no:∀ (h:x.kind < 0 ∨ 2 < x.kind ∨ same tSt (endsM x.whole) x.whole = false ∨ isSt (endsM x.whole) = false ∨ 6 < ll),Hid (diffD x = false):=fun h=>by show _ = _;rw [hD0.out,if_pos h]
 replace no:Hid _:=no
 replace hoE:Hid _:=hoE
 replace hx:Hid _:=hx
 clear x0 x1 x2 x3 hX sx hq
 by_cases k0:x.kind < 0
 ·have hD:=no.out (.inl k0)
  clear no hD0 k2
  go_wp2
  go_ret
  exact ⟨by rw [hD.out];try rfl,hb2⟩
 have k0J:(0:Int) ≤ x.kind:=by omega
 by_cases k3:2 < x.kind
 ·have hD:=no.out (.inr (.inl k3))
  clear no hD0 k2
  go_wp2
  go_ret
  exact ⟨by rw [hD.out];try rfl,hb2⟩
 have k3J:x.kind ≤ 2:=by omega
 go_wp2_with (first
  | (refine xab (by rfl) 44 _ rfl w1.heap.size rfl 44 (stC (endsM x.whole) none 0) _ Tryz.underlying44 rfl (xcg _ _ _) ?hg ?_;(case hg=>exact hV))
  | (refine xae (by rfl) 44 _ rfl w.heap.size 3 rfl (stL x.whole a3 e3) _ ?hc Tryz.underlying44 rfl (xcg x.whole a3 e3) ?_;(case hc=>exact hX2.d_whole))
  | fail)
 refine (xfz (endsM x.whole) x.whole none a3 0 e3 _ hoE.out hx.out.whole (Sl.nothing _ _) sx2.whole).mono ?_
 rintro en w3 ⟨rfl,hq⟩
 have hX3:=hX2.later hq
 have sx3:DiffSl w3 x a2 e2 a3 e3:=sx2.later hq
 replace hV:=hV.later hq
 have hb3:=hb2.trans (hq.mono hb2.size)
 have z0:=hX3.d_kind
 have z2:=hX3.d_log
 rw [hll'.out] at z2
 clear hq hX2 sx2 y0 y2 hb2
 cases hs:same tSt (endsM x.whole) x.whole with
 | false =>
  have hD:=no.out (.inr (.inr (.inl hs)))
  clear no hD0 k2 hs
  go_wp2
  go_ret
  exact ⟨by rw [hD.out];try rfl,hb3⟩
 | true =>
 go_wp2_with (first
  | (refine xab (by rfl) 44 _ rfl w1.heap.size rfl 44 (stC (endsM x.whole) none 0) _ Tryz.underlying44 rfl (xcg _ _ _) ?hg ?_;(case hg=>exact hV))
  | fail)
 refine (xgw (endsM x.whole) none 0 _ hoE.out (Sl.nothing _ _)).mono ?_
 rintro en w4 ⟨rfl,hq⟩
 have hX4:=hX3.later hq
 have sx4:DiffSl w4 x a2 e2 a3 e3:=sx3.later hq
 have hb4:=hb3.trans (hq.mono hb3.size)
 have z0:=hX4.d_kind
 have z1:=hX4.d_from
 have z2:=hX4.d_log
 rw [hll'.out] at z2
 clear hq hX3 sx3 hb3 hV
 cases hi:isSt (endsM x.whole) with
 | false =>
  have hD:=no.out (.inr (.inr (.inr (.inl hi))))
  clear no hD0 k2 hs hi
  go_wp2
  go_ret
  exact ⟨by rw [hD.out];try rfl,hb4⟩
 | true =>
 by_cases l6:6 < ll
 ·have l6I:(6:Int) < (ll:Int):=by omega
  have hD:=no.out (.inr (.inr (.inr (.inr l6))))
  clear no hD0 k2 hs hi l6
  go_wp2
  go_ret
  exact ⟨by rw [hD.out];try rfl,hb4⟩
 have l6I:¬ (6:Int) < (ll:Int):=by omega
 replace hD0:=hD0.out
 rw [if_neg (by rw [hs,hi];rintro (h | h | h | h | h) <;> first | omega | cases h)] at hD0
 clear no hs hi hoE
 by_cases kz:x.kind = 0
 ·have kzI:(x.kind == 0) = true:=by simp [kz]
  rw [if_pos kz] at hD0
  by_cases f0:x.fr = 0
  ·have f0I:((x.fr:Int) == 0) = true:=by simp [f0]
   have f0J:(x.fr:Int) = 0:=by omega
   by_cases l0:ll = 0
   ·have l0I:((ll:Int) == 0) = true:=by simp [l0]
    have l0J:(ll:Int) = 0:=by omega
    rw [decide_eq_true f0,decide_eq_true l0] at hD0
    have hD:Hid (diffD x = true):=hD0
    clear kz f0 l0 hD0 k2
    go_wp2
    go_ret
    exact ⟨by rw [hD.out];try rfl,hb4⟩
   ·have l0I:((ll:Int) == 0) = false:=by simp;omega
    have l0J:¬ (ll:Int) = 0:=by omega
    rw [decide_eq_false l0] at hD0
    have hD:Hid (diffD x = false):=by show _ = _;rw [hD0];simp
    clear kz f0 l0 hD0 k2
    go_wp2
    go_ret
    exact ⟨by rw [hD.out];try rfl,hb4⟩
  ·have f0I:((x.fr:Int) == 0) = false:=by simp;omega
   have f0J:¬ (x.fr:Int) = 0:=by omega
   rw [decide_eq_false f0] at hD0
   have hD:Hid (diffD x = false):=by show _ = _;rw [hD0];rfl
   clear kz f0 hD0 k2
   go_wp2
   go_ret
   exact ⟨by rw [hD.out];try rfl,hb4⟩
 have kzI:(x.kind == 0) = false:=by simp [kz]
 rw [if_neg kz] at hD0
 replace hD0:Hid _:=hD0
 clear k2
 by_cases l0:ll = 0
 ·have l0I:((ll:Int) == 0) = true:=by simp [l0]
  have l0J:(ll:Int) = 0:=by omega
  have hn:x.log = []:=List.eq_nil_of_length_eq_zero (by rw [hll'.out];exact l0)
  have hD:Hid (diffD x = true):=by show _ = _;rw [hD0.out,hn];rfl
  clear kz l0 hD0 hn
  go_wp2
  go_ret
  exact ⟨by rw [hD.out];try rfl,hb4⟩
 have l0I:((ll:Int) == 0) = false:=by simp;omega
 have l0J:¬ (ll:Int) = 0:=by omega
 have l0P:(0:Int) < (ll:Int):=by omega
 obtain ⟨e,t,het⟩:∃ e t,x.log = e :: t:=by
  cases hq:x.log with
  | nil=>have:=hll'.out;rw [hq] at this;exact absurd this.symm l0
  | cons e t=>exact ⟨e,t,rfl⟩
 have hoe:EntOk e:=hx.out.log e (by rw [het];simp)
 obtain ⟨ad,rfl⟩:∃ ad,a2 = some ad:=by
  cases a2 with
  | some ad=>exact ⟨ad,rfl⟩
  | none=>have:=sx4.log.nil rfl;omega
 have hce:=ent_at sx4.log 0 (by rw [het];simp)
 have hget:x.log[0]'(by rw [het];simp) = e:=by simp [het]
 rw [hget] at hce
 have hcl:x.log = e :: t:=het
 replace hD0:=hD0.out
 rw [hcl] at hD0
 have hD1:diffD x = (decide (0 < e.n) && isSt ⟨0,base0,⟨0,e.n - 1,op0⟩,x.log⟩):=by rw [hD0,hcl];rfl
 clear hD0 hget hcl het kz l0
 replace hD1:Hid _:=hD1
 replace hoe:Hid _:=hoe
 have hce':∀ j v,(entL e)[j]? = some v → w4.cell? (ad.add j) = some v:=fun j v hj=>by
  have:=hce j v hj
  rw [Nat.zero_mul] at this
  simpa [Addr.add] using this
 obtain ⟨w5,hw5,hE,hq⟩:=xcm w4 41 (entC ent0) (entC e)
 have hX5:=hX4.later hq
 have sx5:DiffSl w5 x (some ad) e2 a3 e3:=sx4.later hq
 have hb5:=hb4.trans (hq.mono hb4.size)
 have y2:=hX5.d_log
 rw [hll'.out] at y2
 have ye:w5.cell? ⟨w4.heap.size,1,none⟩ = some (.int .u32 (e.n:Int)):=(hE.cell 1).trans rfl
 go_upto_region 10 with fail
 refine wp_region_list ?_
 show wpList Tryz.prog _ _ [_,_,_,_,_,_] _ _
 iterate 2
  refine xaf _ (.inl ⟨by rfl,fun W hS=>by subst hS;go_simp;try with_reducible rfl⟩) ?_
  try simp only [qp,qa,qb,qc]
 have l0N:0 < ll:=by omega
 refine xaf (.pointer (some ad)) (.inl ⟨by rfl,fun W hS=>by subst hS;go_simp⟩) ?_
 try simp only [qp,qa,qb,qc]
 clear l0N
 refine xei (by rfl) 41 _ rfl ad rfl (entL e) _ ?hc Tryz.underlying41 rfl (xax e) ?_
 case hc=>exact hce'
 try simp only [qp,qa,qb,qc]
 refine xac (by rfl) 41 rfl (entC ent0) xff ?_
 try simp only [qp,qa,qb,qc]
 refine xai (by rfl) 41 _ _ rfl w4.heap.size rfl (entC e) rfl 41 (entC ent0) (xax _) rfl (xet _) ?hg w5 ?hW ?_
 case hg=>exact Has.new _ _ _
 case hW=>exact hw5
 clear hw5
 refine wpList_nil ?_
 go_upto_region 11 with fail
 clear z0 z1 z2 hce hce' hX4 sx4 hq hb4
 by_cases en:0 < e.n
 ·have enI:(0:Int) < (e.n:Int):=by omega
  replace hD1:=hD1.out
  rw [decide_eq_true en,Bool.true_and] at hD1
  have hne:=hoe.out.n
  obtain ⟨q,hqn⟩:∃ q,e.n - 1 = q:=⟨_,rfl⟩
  rw [hqn] at hD1
  have hsub:IntKind.u32.wrap ((e.n:Int) - 1) = (q:Int):=by rw [IntKind.wrap_u32];omega
  obtain ⟨bq,hbq⟩:∃ b,isSt ⟨0,base0,⟨0,q,op0⟩,x.log⟩ = b:=⟨_,rfl⟩
  rw [hbq] at hD1
  have hD:Hid (diffD x = bq):=hD1
  have hoq:StOk ⟨0,base0,⟨0,q,op0⟩,x.log⟩:=⟨by show 0 < _;decide,base0_ok.in',⟨by show 0 < _;decide,by show q < _;omega,op0_ok⟩,hx.out.log,hx.out.len⟩
  have hsl:Sl w5 (some ad) e2 8 (entR (⟨0,base0,⟨0,q,op0⟩,x.log⟩:StV).log):=sx5.log
  have his:=xgw ⟨0,base0,⟨0,q,op0⟩,x.log⟩ (some ad) e2 w5 hoq hsl
  rw [hbq] at his
  replace his:Hid _:=his
  clear hbq
  have hbl:Hid (Tryz.prog.built 44 [(2,.agg (entC ⟨0,q,op0⟩)),(3,.slice (some ad) ll e2)] = some (stC ⟨0,base0,⟨0,q,op0⟩,x.log⟩ (some ad) e2)):=by
   show _ = _
   rw [← hll'.out]
   exact dd_first ⟨0,q,op0⟩ x.log (some ad) e2
  clear hD1 hoq hsl hne
  refine wp_region_list ?_
  show wpList Tryz.prog _ _ [_,_,_,_,_,_,_,_,_,_,_,_,_,_] _ _
  iterate 2
   refine xaf _ (.inl ⟨by rfl,fun W hS=>by subst hS;go_simp;try with_reducible rfl⟩) ?_
   try simp only [qp,qa,qb,qc]
  refine xaf (.bool true) (.inl ⟨by rfl,fun W hS=>by subst hS;go_simp;try simp [en]⟩) ?_
  try simp only [qp,qa,qb,qc]
  iterate 3
   refine xaf _ (.inl ⟨by rfl,fun W hS=>by subst hS;go_simp;try with_reducible rfl⟩) ?_
   try simp only [qp,qa,qb,qc]
  refine xaf (.int .u32 (q:Int)) (.inl ⟨by rfl,fun W hS=>by subst hS;first | (go_simp;done) | (go_simp;rw [hsub])⟩) ?_
  try simp only [qp,qa,qb,qc]
  refine xcu (by rfl) 41 1 _ rfl (.int .u32 (q:Int)) rfl (entC ⟨0,q,op0⟩) (dd_ent _) ?_
  try simp only [qp,qa,qb,qc]
  iterate 2
   refine xaf _ (.inl ⟨by rfl,fun W hS=>by subst hS;go_simp;try with_reducible rfl⟩) ?_
   try simp only [qp,qa,qb,qc]
  refine xed (by rfl) 44 2 3 _ _ rfl (.agg (entC ⟨0,q,op0⟩)) (.slice (some ad) ll e2) rfl rfl (stC ⟨0,base0,⟨0,q,op0⟩,x.log⟩ (some ad) e2) hbl.out ?_
  try simp only [qp,qa,qb,qc]
  refine xer (by rfl) (fun K hK=>?_)
  go_simp
  refine Calls.mono his.out ?_
  rintro en w6 ⟨rfl,hq⟩
  refine hK.out _ _ ?_
  clear hK K
  try simp only [qp,qa,qb,qc]
  have hb6:=hb5.trans (hq.mono hb5.size)
  iterate 2
   refine xaf _ (.inl ⟨by rfl,fun W hS=>by subst hS;go_simp;try with_reducible rfl⟩) ?_
   try simp only [qp,qa,qb,qc]
  refine wpList_nil ?_
  go_wp2
  go_ret
  exact ⟨by rw [hD.out];try rfl,hb6⟩
 ·have enI:¬ (0:Int) < (e.n:Int):=by omega
  replace hD1:=hD1.out
  rw [decide_eq_false en,Bool.false_and] at hD1
  have hD:Hid (diffD x = false):=hD1
  clear en hD1
  go_wp2
  go_ret
  exact ⟨by rw [hD.out];try rfl,hb5⟩
end Go.Proofs.YtecilienolabfaaGreatDoor
