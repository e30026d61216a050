/- Messages as mathematics: what is one, its bytes, what is read of bytes; whatever goes through a message, by who is handed its numbers and texts (layer 12). Nothing of the program is in it. -/
import Derived.Test.YtecilienolabfaaGreatDoorMergeMath
import Derived.Test.YtecilienolabfaaGreatDoorPackBal
import Derived.Test.YtecilienolabfaaGreatDoorPackMaps
import Derived.Test.YtecilienolabfaaGreatDoorPackBits
namespace Go.Proofs.YtecilienolabfaaGreatDoor
set_option linter.unusedSimpArgs false
set_option linter.unusedVariables false
open Go.RowKit
structure MsgV where
 kind:Nat
 src:Nat
 dst:Nat
 epoch:Nat
 b:BalV
 acc:BalV
 has:Bool
 inc:IncV
 group:Nat
 st:StV
 diff:DiffV
 ent:EntV
 n:Nat
 op:OpV
 r:ResV
def msg0:MsgV:=⟨0,0,0,0,bal0,bal0,false,inc0,0,st0,diff0,ent0,0,op0,res0⟩
structure ShV where
 fr:Nat
 dst:Nat
 least:Nat
 bal:Nat
 pro:Bool
 inc:Bool
 grp:Bool
 st:Bool
 dif:Bool
 ent:Bool
 mostN:Nat
 op:Nat
 res:Bool
def sh0:ShV:=⟨0,0,0,0,false,false,false,false,false,false,0,0,false⟩
def shapeM (k:Nat):ShV:=match k with
 | 1=>⟨1,1,2,1,false,false,false,false,false,false,0,0,false⟩
 | 2=>⟨1,1,2,2,true,true,false,false,false,false,0,0,false⟩
 | 3=>⟨1,1,2,1,false,true,false,false,false,false,0,0,false⟩
 | 4=>⟨1,1,2,2,false,false,false,false,false,false,0,0,false⟩
 | 5=>⟨1,3,2,0,false,true,false,false,false,false,0,0,false⟩
 | 6=>⟨3,1,1,0,false,false,false,false,false,false,0,0,false⟩
 | 7=>⟨2,2,1,0,false,false,true,false,false,false,0,0,false⟩
 | 8=>⟨2,2,1,0,false,false,true,true,false,false,0,0,false⟩
 | 9=>⟨2,2,1,0,false,false,true,false,true,false,0,0,false⟩
 | 10=>⟨2,2,1,0,false,false,true,false,false,false,4294967295,0,false⟩
 | 11=>⟨2,2,1,0,false,false,true,false,false,true,0,0,false⟩
 | 12=>⟨2,2,1,0,false,false,true,false,false,false,4294967295,0,false⟩
 | 13=>⟨2,2,1,0,false,false,true,false,false,false,0,3,false⟩
 | 14=>⟨2,2,1,0,false,false,true,false,false,false,0,3,false⟩
 | 15=>⟨4,2,0,0,false,false,false,false,false,false,0,1,false⟩
 | 16=>⟨2,4,0,0,false,false,false,false,false,false,0,2,true⟩
 | 17=>⟨2,1,0,0,false,false,false,false,false,false,4,0,false⟩
 | 18=>⟨1,1,2,3,false,false,false,false,false,false,0,0,false⟩
 | _=>sh0
def sideM (n:Nat):Nat:=if n < 3 then 1 else if 10 ≤ n ∧ n < 15 then 2 else if 20 < n ∧ n ≤ 23 then 4 else 0
def goesM (s:ShV) (m:MsgV):Bool:=decide (s.fr &&& sideM m.src ≠ 0) && (decide (s.dst &&& sideM m.dst ≠ 0) && decide (m.src ≠ m.dst))
def ownsM (v node:Nat) (m:MsgV):Bool:=if v = 1 then decide (node = m.src) else if v = 2 then decide (node = m.dst) else decide (v = 3)
def isEntM (e:EntV):Bool:=xdz e.op && decide (0 < e.n ∧ 1 ≤ e.since ∧ e.since ≤ 60)
def bearsM (d:DiffV):Bool:=decide (d.fr ≠ 0) || decide (0 < d.log.length)
def isLgM (l:List EntV):Bool:=match l with
 | []=>true
 | e :: t=>isSt ⟨0,base0,⟨0,(e.n + 4294967295) % 4294967296,op0⟩,e :: t⟩
def xfr (s:StV):Bool:=isSt s && same tSt s (endsM s)
def xcq (d:DiffV):Bool :=
 if d.kind = 0 then !bearsM d && xfr d.whole
 else if d.kind = 1 then isLgM d.log && xfr d.whole
 else if d.kind = 2 then !bearsM d && isSt d.whole
 else false
def xcv (s:ShV) (e:Nat):Bool:=if s.least = 0 then decide (e = 0) else decide (s.least ≤ e ∧ e ≤ 60)
def xcp (s:ShV) (m:MsgV):Bool:=decide (s.bal = 0) || (isB m.b && ownsM s.bal m.b.who m)
def xcj (s:ShV) (m:MsgV):Bool :=
 if s.inc = false then true
 else if s.pro = false then isInc m.inc
 else if m.has = true then isB m.acc && isInc m.inc
 else xcr m.acc bal0 && xea m.inc inc0
def xct (s:ShV) (m:MsgV):Bool :=
 if s.op = 0 then true
 else if s.op = 3 then isOpM m.op && decide (m.op.kind = 5)
 else isOpM m.op && ownsM s.op ((20 + m.op.client) % 256) m
def fitsM (s:ShV) (m:MsgV):Bool :=
 xcv s m.epoch && (xcp s m && (xcj s m && (decide (m.group < 4) && ((!s.st || isSt m.st) && ((!s.dif || xcq m.diff) && ((!s.ent || isEntM m.ent) && (decide (m.n ≤ s.mostN) && (xct s m && (decide (m.r.code ≤ 3) && decide (m.r.data.length ≤ 80))))))))))
def xfw (a b:DiffV):Bool:=decide (a.kind = b.kind) && (decide (a.fr = b.fr) && (same tRows a.log b.log && same tSt a.whole b.whole))
def xej (a b:MsgV):Bool :=
 decide (a.kind = b.kind) && (decide (a.src = b.src) && (decide (a.dst = b.dst) && (decide (a.epoch = b.epoch) && (xcr a.b b.b && (xcr a.acc b.acc && (decide (a.has = b.has) && (xea a.inc b.inc && (decide (a.group = b.group) && (same tSt a.st b.st && (xfw a.diff b.diff && (same tEnt a.ent b.ent && (decide (a.n = b.n) && (same tOp a.op b.op && same tRes a.r b.r)))))))))))))
theorem sameDiff_is (a b:DiffV):xfw a b = true ↔ a = b:=by
 obtain ⟨k,o,n,z⟩:=a
 obtain ⟨k',o',n',z'⟩:=b
 unfold xfw
 simp [xcn]
theorem sameMsg_is (a b:MsgV):xej a b = true ↔ a = b:=by
 obtain ⟨a1,a2,a3,a4,a5,a6,a7,a8,a9,a10,a11,a12,a13,a14,a15⟩:=a
 obtain ⟨b1,b2,b3,b4,b5,b6,b7,b8,b9,b10,b11,b12,b13,b14,b15⟩:=b
 unfold xej
 simp [xcn,xcf,xcc,sameDiff_is]
/-! Whoever is handed numbers and texts: what stands there then, and what is there of it; or what is thrown. -/
abbrev Wk (α:Type):=List UInt8 → Except Nat (α × List UInt8)
def Wk.ret {α:Type} (x:α):Wk α:=fun s=>.ok (x,s)
def Wk.err {α:Type} (n:Nat):Wk α:=fun _=>.error n
def Wk.bind {α β:Type} (m:Wk α) (f:α → Wk β):Wk β:=fun s=>match m s with
 | .ok (x,t)=>f x t
 | .error n=>.error n
structure CodM where
 num:Nat → Nat → Wk Nat
 txt:List UInt8 → Nat → Wk (List UInt8)
theorem xaw {α β:Type} {m:Wk α} {f:α → Wk β} {s t:List UInt8} {y:β}:m.bind f s = .ok (y,t) ↔ ∃ x r,m s = .ok (x,r) ∧ f x r = .ok (y,t):=by
 unfold Wk.bind
 constructor
 ·intro h
  split at h
  ·rename_i x r hx
   exact ⟨x,r,hx,h⟩
  ·cases h
 ·rintro ⟨x,r,hx,h⟩
  rw [hx]
  exact h
theorem xag {α β:Type} {m:Wk α} {f:α → Wk β} {s t:List UInt8} {x:α} (h:m s = .ok (x,t)):m.bind f s = f x t:=by
 unfold Wk.bind
 rw [h]
theorem xau {α β:Type} {m:Wk α} {f:α → Wk β} {s:List UInt8} {n:Nat} (h:m s = .error n):m.bind f s = .error n:=by
 unfold Wk.bind
 rw [h]
theorem ret_ok {α:Type} {x y:α} {s t:List UInt8}:Wk.ret x s = .ok (y,t) ↔ x = y ∧ s = t:=by
 unfold Wk.ret
 constructor
 ·intro h
  injection h with h
  injection h with h1 h2
  exact ⟨h1,h2⟩
 ·rintro ⟨rfl,rfl⟩
  rfl
def sgn (m:Nat):Int:=if m < 9223372036854775808 then (m:Int) else (m:Int) - 18446744073709551616
section
variable (C:CodM)
def oneM (n:Nat):Wk Nat:=(C.num n 1).bind fun m=>.ret (m % 256)
def fourM (n:Nat):Wk Nat:=(C.num n 4).bind fun m=>.ret (m % 4294967296)
def smallM (n:Int):Wk Int:=(C.num (n % 18446744073709551616).toNat 1).bind fun m=>.ret (sgn m)
def dataM (t:List UInt8):Wk (List UInt8):=C.txt t 16
def flagM (x:Bool):Wk Bool:=(oneM C (if x = true then 1 else 0)).bind fun m=>if m = 0 then .ret false else if m = 1 then .ret true else .err 10
def balM (x:BalV):Wk BalV:=(fourM C x.n).bind fun n=>(oneM C x.who).bind fun k=>.ret ⟨n,k⟩
def incM (x:IncV):Wk IncV:=(oneM C x.kind).bind fun k=>(oneM C x.osd).bind fun o=>(smallM C x.n).bind fun n=>.ret ⟨k,o,n⟩
def opM (o:OpV):Wk OpV:=(oneM C o.client).bind fun c=>(fourM C o.seq).bind fun s=>(oneM C o.kind).bind fun k=>(oneM C o.obj).bind fun j=>(oneM C o.pos).bind fun p=>(dataM C o.data).bind fun d=>.ret ⟨c,s,k,j,p,d⟩
def resM (r:ResV):Wk ResV:=(oneM C r.code).bind fun c=>(C.txt r.data 80).bind fun d=>.ret ⟨c,d⟩
def entM (e:EntV):Wk EntV:=(fourM C e.since).bind fun s=>(fourM C e.n).bind fun n=>(opM C e.op).bind fun o=>.ret ⟨s,n,o⟩
def entsM:List EntV → Wk (List EntV)
 | []=>.ret []
 | e :: l=>(entM C e).bind fun x=>(entsM l).bind fun y=>.ret (x :: y)
def padE (n:Nat) (l:List EntV):List EntV:=l.take n ++ List.replicate (n - l.length) ent0
def logM (l:List EntV):Wk (List EntV):=(smallM C (l.length:Int)).bind fun n=>if 6 < n then .err 13 else entsM C (padE n.toNat l)
def tlM (e:EntV):Wk EntV:=(fourM C e.since).bind fun s=>(fourM C e.n).bind fun n=>.ret ⟨s,n,op0⟩
def lstM (l:LastV):Wk LastV:=(fourM C l.seq).bind fun s=>(oneM C l.r.code).bind fun c=>.ret ⟨s,⟨c,[]⟩⟩
def obM (x:ObjV):Wk ObjV:=(flagM C x.there).bind fun t=>(dataM C x.data).bind fun d=>(dataM C x.a0).bind fun a=>(dataM C x.a1).bind fun b=>(dataM C x.a2).bind fun c=>.ret ⟨t,d,a,b,c⟩
def objs6 (a b c d e f:ObjV):Fin 6 → ObjV:=fun i=>if i = 0 then a else if i = 1 then b else if i = 2 then c else if i = 3 then d else if i = 4 then e else f
def lasts3 (a b c:LastV):Fin 3 → LastV:=fun i=>if i = 0 then a else if i = 1 then b else c
def bsM (b:BaseV):Wk BaseV :=
 (obM C (b.obj 0)).bind fun o0=>(obM C (b.obj 1)).bind fun o1=>(obM C (b.obj 2)).bind fun o2=>(obM C (b.obj 3)).bind fun o3=>(obM C (b.obj 4)).bind fun o4=>(obM C (b.obj 5)).bind fun o5 =>
 (lstM C (b.last 0)).bind fun l0=>(lstM C (b.last 1)).bind fun l1=>(lstM C (b.last 2)).bind fun l2=>.ret ⟨objs6 o0 o1 o2 o3 o4 o5,lasts3 l0 l1 l2⟩
def statM (s:StV):Wk StV:=(fourM C s.started).bind fun a=>(tlM C s.tail).bind fun t=>(bsM C s.base).bind fun b=>(logM C s.log).bind fun l=>.ret ⟨a,b,t,l⟩
def difM (d:DiffV):Wk DiffV:=(smallM C d.kind).bind fun k=>(fourM C d.fr).bind fun f=>(logM C d.log).bind fun l=>(statM C d.whole).bind fun w=>.ret ⟨k,f,l,w⟩
def onlyIf {α:Type} (t:Bool) (z:α) (m:Wk α):Wk α:=if t = true then m else .ret z
def msgM (m:MsgV):Wk MsgV :=
 (oneM C m.kind).bind fun k=>(oneM C m.src).bind fun f=>(oneM C m.dst).bind fun t=>(fourM C m.epoch).bind fun e =>
 (onlyIf (decide ((shapeM k).bal ≠ 0)) bal0 (balM C m.b)).bind fun b =>
 (onlyIf (shapeM k).pro bal0 (balM C m.acc)).bind fun a =>
 (onlyIf (shapeM k).pro false (flagM C m.has)).bind fun h =>
 (onlyIf (shapeM k).inc inc0 (incM C m.inc)).bind fun i =>
 (onlyIf (shapeM k).grp 0 (oneM C m.group)).bind fun g =>
 (onlyIf (shapeM k).st st0 (statM C m.st)).bind fun s =>
 (onlyIf (shapeM k).dif diff0 (difM C m.diff)).bind fun d =>
 (onlyIf (shapeM k).ent ent0 (entM C m.ent)).bind fun x =>
 (onlyIf (decide (0 < (shapeM k).mostN)) 0 (fourM C m.n)).bind fun n =>
 (onlyIf (decide ((shapeM k).op ≠ 0)) op0 (opM C m.op)).bind fun o =>
 (onlyIf (shapeM k).res res0 (resM C m.r)).bind fun r=>.ret ⟨k,f,t,e,b,a,h,i,g,s,d,x,n,o,r⟩
end
def textB (t:List UInt8):List UInt8:=putB t.length 2 ++ t
def PutC:CodM:=⟨fun n k s=>.ok (n,s ++ putB n k),fun t _ s=>.ok (t,s ++ textB t)⟩
def GetC:CodM:=⟨fun _ k s=>if s.length < k then .error 11 else .ok (getN (s.take k),s.drop k),
 fun _ most s=>if xbt s (most:Int) = 0 then .ok ((s.drop 2).take (lenN s),s.drop (2 + lenN s)) else .error (xbt s (most:Int)).toNat⟩
/-! Bytes. -/
def balB (x:BalV):List UInt8:=putB x.n 4 ++ putB x.who 1
def incB (x:IncV):List UInt8:=putB x.kind 1 ++ (putB x.osd 1 ++ putB (x.n % 18446744073709551616).toNat 1)
def opB (o:OpV):List UInt8:=putB o.client 1 ++ (putB o.seq 4 ++ (putB o.kind 1 ++ (putB o.obj 1 ++ (putB o.pos 1 ++ textB o.data))))
def resB (r:ResV):List UInt8:=putB r.code 1 ++ textB r.data
def entB (e:EntV):List UInt8:=putB e.since 4 ++ (putB e.n 4 ++ opB e.op)
def entsB:List EntV → List UInt8
 | []=>[]
 | e :: l=>entB e ++ entsB l
def logB (l:List EntV):List UInt8:=putB l.length 1 ++ entsB l
def tlB (e:EntV):List UInt8:=putB e.since 4 ++ putB e.n 4
def lstB (l:LastV):List UInt8:=putB l.seq 4 ++ putB l.r.code 1
def flagB (x:Bool):List UInt8:=putB (if x = true then 1 else 0) 1
def obB (x:ObjV):List UInt8:=flagB x.there ++ (textB x.data ++ (textB x.a0 ++ (textB x.a1 ++ textB x.a2)))
def bsB (b:BaseV):List UInt8:=obB (b.obj 0) ++ (obB (b.obj 1) ++ (obB (b.obj 2) ++ (obB (b.obj 3) ++ (obB (b.obj 4) ++ (obB (b.obj 5) ++ (lstB (b.last 0) ++ (lstB (b.last 1) ++ lstB (b.last 2))))))))
def statB (s:StV):List UInt8:=putB s.started 4 ++ (tlB s.tail ++ (bsB s.base ++ logB s.log))
def difB (d:DiffV):List UInt8:=putB (d.kind % 18446744073709551616).toNat 1 ++ (putB d.fr 4 ++ (logB d.log ++ statB d.whole))
def ifB (t:Bool) (l:List UInt8):List UInt8:=if t = true then l else []
def msgB (m:MsgV):List UInt8 :=
 putB m.kind 1 ++ (putB m.src 1 ++ (putB m.dst 1 ++ (putB m.epoch 4 ++ (ifB (decide ((shapeM m.kind).bal ≠ 0)) (balB m.b) ++ (ifB (shapeM m.kind).pro (balB m.acc) ++ (ifB (shapeM m.kind).pro (flagB m.has) ++
 (ifB (shapeM m.kind).inc (incB m.inc) ++ (ifB (shapeM m.kind).grp (putB m.group 1) ++ (ifB (shapeM m.kind).st (statB m.st) ++ (ifB (shapeM m.kind).dif (difB m.diff) ++ (ifB (shapeM m.kind).ent (entB m.ent) ++
 (ifB (decide (0 < (shapeM m.kind).mostN)) (putB m.n 4) ++ (ifB (decide ((shapeM m.kind).op ≠ 0)) (opB m.op) ++ ifB (shapeM m.kind).res (resB m.r))))))))))))))
/-! What is left of a message that is gone through. -/
def lstN (l:LastV):LastV:=⟨l.seq,⟨l.r.code,[]⟩⟩
def bsN (b:BaseV):BaseV:=⟨b.obj,fun i=>lstN (b.last i)⟩
def statN (s:StV):StV:=⟨s.started,bsN s.base,posE s.tail,s.log⟩
def difN (d:DiffV):DiffV:=⟨d.kind,d.fr,d.log,statN d.whole⟩
def ifN {α:Type} (t:Bool) (z x:α):α:=if t = true then x else z
def onlyM (m:MsgV):MsgV :=
 ⟨m.kind,m.src,m.dst,m.epoch,ifN (decide ((shapeM m.kind).bal ≠ 0)) bal0 m.b,ifN (shapeM m.kind).pro bal0 m.acc,ifN (shapeM m.kind).pro false m.has,ifN (shapeM m.kind).inc inc0 m.inc,
  ifN (shapeM m.kind).grp 0 m.group,ifN (shapeM m.kind).st st0 (statN m.st),ifN (shapeM m.kind).dif diff0 (difN m.diff),ifN (shapeM m.kind).ent ent0 m.ent,ifN (decide (0 < (shapeM m.kind).mostN)) 0 m.n,
  ifN (decide ((shapeM m.kind).op ≠ 0)) op0 m.op,ifN (shapeM m.kind).res res0 m.r⟩
def isMsg (m:MsgV):Bool:=goesM (shapeM m.kind) m && (fitsM (shapeM m.kind) m && xej m (onlyM m))
def sumB (b:List UInt8):List UInt8:=b ++ putB (sumN b) 8
def openM (b:List UInt8):Except Nat (List UInt8) :=
 if 2000 < b.length then .error 13 else if b.length < 8 then .error 11 else if getN (b.drop (b.length - 8)) = sumN (b.take (b.length - 8)) then .ok (b.take (b.length - 8)) else .error 12
def rdMsgM (b:List UInt8):Except Nat MsgV:=match openM b with
 | .error n=>.error n
 | .ok c=>match msgM GetC msg0 c with
  | .error n=>.error n
  | .ok (m,r)=>if r.length = 0 ∧ isMsg m = true then .ok m else .error 10
def decM (b:List UInt8):MsgV × Nat:=match rdMsgM b with
 | .ok m=>(m,0)
 | .error n=>(msg0,n)
theorem xgu {m:Nat} (h:m < 9223372036854775808):sgn m = (m:Int):=by
 unfold sgn
 rw [if_pos h]
theorem sgn_of (n:Int) (h0:-9223372036854775808 ≤ n) (h1:n ≤ 9223372036854775807):sgn (n % 18446744073709551616).toNat = n:=by
 unfold sgn
 split <;> omega
theorem pad_self (l:List EntV):padE l.length l = l:=by
 unfold padE
 rw [List.take_length,Nat.sub_self]
 simp
theorem objs6_self (f:Fin 6 → ObjV):objs6 (f 0) (f 1) (f 2) (f 3) (f 4) (f 5) = f:=by
 funext i
 match i with
 | 0=>rfl
 | 1=>rfl
 | 2=>rfl
 | 3=>rfl
 | 4=>rfl
 | 5=>rfl
theorem lasts3_self (f:Fin 3 → LastV):lasts3 (f 0) (f 1) (f 2) = f:=by
 funext i
 match i with
 | 0=>rfl
 | 1=>rfl
 | 2=>rfl
end Go.Proofs.YtecilienolabfaaGreatDoor
