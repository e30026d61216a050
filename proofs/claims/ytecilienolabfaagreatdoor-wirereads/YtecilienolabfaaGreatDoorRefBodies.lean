/- RdBody, RefReadBal, RefBody, RefDec, joined. -/
import Derived.Test.YtecilienolabfaaGreatDoorRefReads
import Derived.Test.YtecilienolabfaaGreatDoorDocBase
import Derived.Test.YtecilienolabfaaGreatDoorPackRead
import Derived.Test.YtecilienolabfaaGreatDoorBytesOwn
import Derived.Test.YtecilienolabfaaGreatDoorDocEncAll
namespace Go.Proofs.YtecilienolabfaaGreatDoor
set_option linter.unusedSimpArgs false
set_option linter.unusedVariables false
set_option maxRecDepth 100000
open Go.RowKit
def balZ:Rd BalV:=fourZ.bind fun n=>oneZ.bind fun k=>.ret ⟨n,k⟩
def smallZ:Rd Int:=(numZ 1).bind fun n=>.ret (sgn n)
def incZ:Rd IncV:=oneZ.bind fun k=>oneZ.bind fun o=>smallZ.bind fun n=>.ret ⟨k,o,n⟩
def hasZ:Rd Bool:=(numZ 1).bind fun n=>.ret (decide (n = 1))
def resZ:Rd ResV:=oneZ.bind fun c=>(txtZ 80).bind fun d=>.ret ⟨c,d⟩
def difZ:Rd DiffV:=smallZ.bind fun k=>fourZ.bind fun f=>logZ.bind fun l=>stZ.bind fun w=>.ret ⟨k,f,l,w⟩
def grpZ (k f t e:Nat):Rd MsgV:=oneZ.bind fun g=>.ret ⟨k,f,t,e,bal0,bal0,false,inc0,g,st0,diff0,ent0,0,op0,res0⟩
def bodyZ (k f t e:Nat):Rd MsgV:=match k with
 | 1=>balZ.bind fun b=>.ret ⟨1,f,t,e,b,bal0,false,inc0,0,st0,diff0,ent0,0,op0,res0⟩
 | 2=>balZ.bind fun b=>balZ.bind fun a=>hasZ.bind fun h=>incZ.bind fun i=>.ret ⟨2,f,t,e,b,a,h,i,0,st0,diff0,ent0,0,op0,res0⟩
 | 3=>balZ.bind fun b=>incZ.bind fun i=>.ret ⟨3,f,t,e,b,bal0,false,i,0,st0,diff0,ent0,0,op0,res0⟩
 | 4=>balZ.bind fun b=>.ret ⟨4,f,t,e,b,bal0,false,inc0,0,st0,diff0,ent0,0,op0,res0⟩
 | 5=>incZ.bind fun i=>.ret ⟨5,f,t,e,bal0,bal0,false,i,0,st0,diff0,ent0,0,op0,res0⟩
 | 6=>.ret ⟨6,f,t,e,bal0,bal0,false,inc0,0,st0,diff0,ent0,0,op0,res0⟩
 | 7=>oneZ.bind fun g=>.ret ⟨7,f,t,e,bal0,bal0,false,inc0,g,st0,diff0,ent0,0,op0,res0⟩
 | 8=>oneZ.bind fun g=>stZ.bind fun s=>.ret ⟨8,f,t,e,bal0,bal0,false,inc0,g,s,diff0,ent0,0,op0,res0⟩
 | 9=>oneZ.bind fun g=>difZ.bind fun d=>.ret ⟨9,f,t,e,bal0,bal0,false,inc0,g,st0,d,ent0,0,op0,res0⟩
 | 10=>oneZ.bind fun g=>fourZ.bind fun n=>.ret ⟨10,f,t,e,bal0,bal0,false,inc0,g,st0,diff0,ent0,n,op0,res0⟩
 | 11=>oneZ.bind fun g=>entZ.bind fun x=>.ret ⟨11,f,t,e,bal0,bal0,false,inc0,g,st0,diff0,x,0,op0,res0⟩
 | 12=>oneZ.bind fun g=>fourZ.bind fun n=>.ret ⟨12,f,t,e,bal0,bal0,false,inc0,g,st0,diff0,ent0,n,op0,res0⟩
 | 13=>oneZ.bind fun g=>opZ.bind fun o=>.ret ⟨13,f,t,e,bal0,bal0,false,inc0,g,st0,diff0,ent0,0,o,res0⟩
 | 14=>oneZ.bind fun g=>opZ.bind fun o=>.ret ⟨14,f,t,e,bal0,bal0,false,inc0,g,st0,diff0,ent0,0,o,res0⟩
 | 15=>opZ.bind fun o=>.ret ⟨15,f,t,e,bal0,bal0,false,inc0,0,st0,diff0,ent0,0,o,res0⟩
 | 16=>opZ.bind fun o=>resZ.bind fun r=>.ret ⟨16,f,t,e,bal0,bal0,false,inc0,0,st0,diff0,ent0,0,o,r⟩
 | 17=>fourZ.bind fun n=>.ret ⟨17,f,t,e,bal0,bal0,false,inc0,0,st0,diff0,ent0,n,op0,res0⟩
 | 18=>balZ.bind fun b=>.ret ⟨18,f,t,e,b,bal0,false,inc0,0,st0,diff0,ent0,0,op0,res0⟩
 | k=>grpZ k f t e
def headZ:Rd MsgV:=oneZ.bind fun k=>oneZ.bind fun f=>oneZ.bind fun t=>fourZ.bind fun e=>bodyZ k f t e
def decZ (b:List UInt8):Option MsgV :=
 if 2000 < b.length then none else
  if (numZ 8 (headZ ⟨b,false⟩).2).2.bad = true ∨ (numZ 8 (headZ ⟨b,false⟩).2).2.left ≠ [] then none
  else if isMsg (headZ ⟨b,false⟩).1 = true ∧ sumB (msgB (headZ ⟨b,false⟩).1) = b then some (headZ ⟨b,false⟩).1 else none
def Fol {α:Type} (R:Rd α) (M:Wk α):Prop:=∀ s x r,M s = .ok (x,r) → R ⟨s,false⟩ = (x,⟨r,false⟩)
theorem Like.fol {α:Type} {R:Rd α} {M:Wk α} (h:Like R M):Fol R M:=fun s x r e=>(h.is s x r).2 e
theorem xeh {α:Type} (x:α):Fol (.ret x) (.ret x):=(xdq x).fol
theorem xci {α β:Type} {R:Rd α} {M:Wk α} {f:α → Rd β} {g:α → Wk β} (h:Fol R M) (hf:∀ x,Fol (f x) (g x)):Fol (R.bind f) (M.bind g):=fun s y r e=>by
 obtain ⟨x,t,h1,h2⟩:=xaw.1 e
 show (f (R ⟨s,false⟩).1) (R ⟨s,false⟩).2 = _
 rw [h s x t h1]
 exact hf x t y r h2
theorem like_small (z:Int):Like smallZ (smallM GetC z):=xbd (like_num _ _) fun _=>xdq _
theorem like_bal:Like balZ (balM GetC bal0):=xbd (xdt _) fun _=>xbd (xcy _) fun _=>xdq _
theorem like_inc:Like incZ (incM GetC inc0):=xbd (xcy _) fun _=>xbd (xcy _) fun _=>xbd (like_small _) fun _=>xdq _
theorem like_res:Like resZ (resM GetC res0):=xbd (xcy _) fun _=>xbd (like_txt _ _) fun _=>xdq _
theorem like_dif:Like difZ (difM GetC diff0):=xbd (like_small _) fun _=>xbd (xdt _) fun _=>xbd like_log fun _=>xbd like_st fun _=>xdq _
theorem fol_has:Fol hasZ (flagM GetC false):=fun s x r e=>by
 unfold flagM at e
 obtain ⟨m,t,h1,h2⟩:=xaw.1 e
 unfold oneM at h1
 obtain ⟨n,q,h3,h4⟩:=xaw.1 h1
 obtain ⟨rfl,rfl⟩:=ret_ok.1 h4
 have hn:=(num_was (by decide) h3).1
 have hn:n < 256:=by simpa using hn
 have hm:n % 256 = n:=Nat.mod_eq_of_lt hn
 rw [hm] at h2
 show (Rd.ret (decide ((numZ 1 ⟨s,false⟩).1 = 1))) (numZ 1 ⟨s,false⟩).2 = _
 rw [((like_num _ 1).is s n q).2 h3]
 show (decide (n = 1),(⟨q,false⟩:RS)) = _
 split at h2
 ·rename_i h0
  obtain ⟨rfl,rfl⟩:=ret_ok.1 h2
  rw [h0];rfl
 ·split at h2
  ·rename_i h0
   obtain ⟨rfl,rfl⟩:=ret_ok.1 h2
   rw [h0];rfl
  ·cases h2
def tailW (k f t e:Nat):Wk MsgV :=
 (onlyIf (decide ((shapeM k).bal ≠ 0)) bal0 (balM GetC bal0)).bind fun b =>
 (onlyIf (shapeM k).pro bal0 (balM GetC bal0)).bind fun a =>
 (onlyIf (shapeM k).pro false (flagM GetC false)).bind fun h =>
 (onlyIf (shapeM k).inc inc0 (incM GetC inc0)).bind fun i =>
 (onlyIf (shapeM k).grp 0 (oneM GetC 0)).bind fun g =>
 (onlyIf (shapeM k).st st0 (statM GetC st0)).bind fun s =>
 (onlyIf (shapeM k).dif diff0 (difM GetC diff0)).bind fun d =>
 (onlyIf (shapeM k).ent ent0 (entM GetC ent0)).bind fun x =>
 (onlyIf (decide (0 < (shapeM k).mostN)) 0 (fourM GetC 0)).bind fun n =>
 (onlyIf (decide ((shapeM k).op ≠ 0)) op0 (opM GetC op0)).bind fun o =>
 (onlyIf (shapeM k).res res0 (resM GetC res0)).bind fun r=>.ret ⟨k,f,t,e,b,a,h,i,g,s,d,x,n,o,r⟩
theorem msgM_tail:msgM GetC msg0 = (oneM GetC 0).bind fun k=>(oneM GetC 0).bind fun f=>(oneM GetC 0).bind fun t=>(fourM GetC 0).bind fun e=>tailW k f t e:=rfl
theorem tail_1 (f t e:Nat):tailW 1 f t e = (balM GetC bal0).bind fun b=>.ret ⟨1,f,t,e,b,bal0,false,inc0,0,st0,diff0,ent0,0,op0,res0⟩:=by rfl
theorem bz_1 (f t e:Nat):bodyZ 1 f t e = balZ.bind fun b=>.ret ⟨1,f,t,e,b,bal0,false,inc0,0,st0,diff0,ent0,0,op0,res0⟩:=by rfl
theorem folb_1 (f t e:Nat):Fol (bodyZ 1 f t e) (tailW 1 f t e):=by
 rw [bz_1,tail_1]
 exact xci like_bal.fol fun b=>xeh _
theorem tail_2 (f t e:Nat):tailW 2 f t e = (balM GetC bal0).bind fun b=>(balM GetC bal0).bind fun a=>(flagM GetC false).bind fun h=>(incM GetC inc0).bind fun i=>.ret ⟨2,f,t,e,b,a,h,i,0,st0,diff0,ent0,0,op0,res0⟩:=by rfl
theorem bz_2 (f t e:Nat):bodyZ 2 f t e = balZ.bind fun b=>balZ.bind fun a=>hasZ.bind fun h=>incZ.bind fun i=>.ret ⟨2,f,t,e,b,a,h,i,0,st0,diff0,ent0,0,op0,res0⟩:=by rfl
theorem folb_2 (f t e:Nat):Fol (bodyZ 2 f t e) (tailW 2 f t e):=by
 rw [bz_2,tail_2]
 exact xci like_bal.fol fun b=>xci like_bal.fol fun a=>xci fol_has fun h=>xci like_inc.fol fun i=>xeh _
theorem tail_3 (f t e:Nat):tailW 3 f t e = (balM GetC bal0).bind fun b=>(incM GetC inc0).bind fun i=>.ret ⟨3,f,t,e,b,bal0,false,i,0,st0,diff0,ent0,0,op0,res0⟩:=by rfl
theorem bz_3 (f t e:Nat):bodyZ 3 f t e = balZ.bind fun b=>incZ.bind fun i=>.ret ⟨3,f,t,e,b,bal0,false,i,0,st0,diff0,ent0,0,op0,res0⟩:=by rfl
theorem folb_3 (f t e:Nat):Fol (bodyZ 3 f t e) (tailW 3 f t e):=by
 rw [bz_3,tail_3]
 exact xci like_bal.fol fun b=>xci like_inc.fol fun i=>xeh _
theorem tail_4 (f t e:Nat):tailW 4 f t e = (balM GetC bal0).bind fun b=>.ret ⟨4,f,t,e,b,bal0,false,inc0,0,st0,diff0,ent0,0,op0,res0⟩:=by rfl
theorem bz_4 (f t e:Nat):bodyZ 4 f t e = balZ.bind fun b=>.ret ⟨4,f,t,e,b,bal0,false,inc0,0,st0,diff0,ent0,0,op0,res0⟩:=by rfl
theorem folb_4 (f t e:Nat):Fol (bodyZ 4 f t e) (tailW 4 f t e):=by
 rw [bz_4,tail_4]
 exact xci like_bal.fol fun b=>xeh _
theorem tail_5 (f t e:Nat):tailW 5 f t e = (incM GetC inc0).bind fun i=>.ret ⟨5,f,t,e,bal0,bal0,false,i,0,st0,diff0,ent0,0,op0,res0⟩:=by rfl
theorem bz_5 (f t e:Nat):bodyZ 5 f t e = incZ.bind fun i=>.ret ⟨5,f,t,e,bal0,bal0,false,i,0,st0,diff0,ent0,0,op0,res0⟩:=by rfl
theorem folb_5 (f t e:Nat):Fol (bodyZ 5 f t e) (tailW 5 f t e):=by
 rw [bz_5,tail_5]
 exact xci like_inc.fol fun i=>xeh _
theorem tail_6 (f t e:Nat):tailW 6 f t e = Wk.ret ⟨6,f,t,e,bal0,bal0,false,inc0,0,st0,diff0,ent0,0,op0,res0⟩:=by rfl
theorem bz_6 (f t e:Nat):bodyZ 6 f t e = Rd.ret ⟨6,f,t,e,bal0,bal0,false,inc0,0,st0,diff0,ent0,0,op0,res0⟩:=by rfl
theorem folb_6 (f t e:Nat):Fol (bodyZ 6 f t e) (tailW 6 f t e):=by
 rw [bz_6,tail_6]
 exact xeh _
theorem tail_7 (f t e:Nat):tailW 7 f t e = (oneM GetC 0).bind fun g=>.ret ⟨7,f,t,e,bal0,bal0,false,inc0,g,st0,diff0,ent0,0,op0,res0⟩:=by rfl
theorem bz_7 (f t e:Nat):bodyZ 7 f t e = oneZ.bind fun g=>.ret ⟨7,f,t,e,bal0,bal0,false,inc0,g,st0,diff0,ent0,0,op0,res0⟩:=by rfl
theorem folb_7 (f t e:Nat):Fol (bodyZ 7 f t e) (tailW 7 f t e):=by
 rw [bz_7,tail_7]
 exact xci (xcy 0).fol fun g=>xeh _
theorem tail_8 (f t e:Nat):tailW 8 f t e = (oneM GetC 0).bind fun g=>(statM GetC st0).bind fun s=>.ret ⟨8,f,t,e,bal0,bal0,false,inc0,g,s,diff0,ent0,0,op0,res0⟩:=by rfl
theorem bz_8 (f t e:Nat):bodyZ 8 f t e = oneZ.bind fun g=>stZ.bind fun s=>.ret ⟨8,f,t,e,bal0,bal0,false,inc0,g,s,diff0,ent0,0,op0,res0⟩:=by rfl
theorem folb_8 (f t e:Nat):Fol (bodyZ 8 f t e) (tailW 8 f t e):=by
 rw [bz_8,tail_8]
 exact xci (xcy 0).fol fun g=>xci like_st.fol fun s=>xeh _
theorem tail_9 (f t e:Nat):tailW 9 f t e = (oneM GetC 0).bind fun g=>(difM GetC diff0).bind fun d=>.ret ⟨9,f,t,e,bal0,bal0,false,inc0,g,st0,d,ent0,0,op0,res0⟩:=by rfl
theorem bz_9 (f t e:Nat):bodyZ 9 f t e = oneZ.bind fun g=>difZ.bind fun d=>.ret ⟨9,f,t,e,bal0,bal0,false,inc0,g,st0,d,ent0,0,op0,res0⟩:=by rfl
theorem folb_9 (f t e:Nat):Fol (bodyZ 9 f t e) (tailW 9 f t e):=by
 rw [bz_9,tail_9]
 exact xci (xcy 0).fol fun g=>xci like_dif.fol fun d=>xeh _
theorem tail_10 (f t e:Nat):tailW 10 f t e = (oneM GetC 0).bind fun g=>(fourM GetC 0).bind fun n=>.ret ⟨10,f,t,e,bal0,bal0,false,inc0,g,st0,diff0,ent0,n,op0,res0⟩:=by rfl
theorem bz_10 (f t e:Nat):bodyZ 10 f t e = oneZ.bind fun g=>fourZ.bind fun n=>.ret ⟨10,f,t,e,bal0,bal0,false,inc0,g,st0,diff0,ent0,n,op0,res0⟩:=by rfl
theorem folb_10 (f t e:Nat):Fol (bodyZ 10 f t e) (tailW 10 f t e):=by
 rw [bz_10,tail_10]
 exact xci (xcy 0).fol fun g=>xci (xdt 0).fol fun n=>xeh _
theorem tail_11 (f t e:Nat):tailW 11 f t e = (oneM GetC 0).bind fun g=>(entM GetC ent0).bind fun x=>.ret ⟨11,f,t,e,bal0,bal0,false,inc0,g,st0,diff0,x,0,op0,res0⟩:=by rfl
theorem bz_11 (f t e:Nat):bodyZ 11 f t e = oneZ.bind fun g=>entZ.bind fun x=>.ret ⟨11,f,t,e,bal0,bal0,false,inc0,g,st0,diff0,x,0,op0,res0⟩:=by rfl
theorem folb_11 (f t e:Nat):Fol (bodyZ 11 f t e) (tailW 11 f t e):=by
 rw [bz_11,tail_11]
 exact xci (xcy 0).fol fun g=>xci (like_ent ent0).fol fun x=>xeh _
theorem tail_12 (f t e:Nat):tailW 12 f t e = (oneM GetC 0).bind fun g=>(fourM GetC 0).bind fun n=>.ret ⟨12,f,t,e,bal0,bal0,false,inc0,g,st0,diff0,ent0,n,op0,res0⟩:=by rfl
theorem bz_12 (f t e:Nat):bodyZ 12 f t e = oneZ.bind fun g=>fourZ.bind fun n=>.ret ⟨12,f,t,e,bal0,bal0,false,inc0,g,st0,diff0,ent0,n,op0,res0⟩:=by rfl
theorem folb_12 (f t e:Nat):Fol (bodyZ 12 f t e) (tailW 12 f t e):=by
 rw [bz_12,tail_12]
 exact xci (xcy 0).fol fun g=>xci (xdt 0).fol fun n=>xeh _
theorem tail_13 (f t e:Nat):tailW 13 f t e = (oneM GetC 0).bind fun g=>(opM GetC op0).bind fun o=>.ret ⟨13,f,t,e,bal0,bal0,false,inc0,g,st0,diff0,ent0,0,o,res0⟩:=by rfl
theorem bz_13 (f t e:Nat):bodyZ 13 f t e = oneZ.bind fun g=>opZ.bind fun o=>.ret ⟨13,f,t,e,bal0,bal0,false,inc0,g,st0,diff0,ent0,0,o,res0⟩:=by rfl
theorem folb_13 (f t e:Nat):Fol (bodyZ 13 f t e) (tailW 13 f t e):=by
 rw [bz_13,tail_13]
 exact xci (xcy 0).fol fun g=>xci (like_op op0).fol fun o=>xeh _
theorem tail_14 (f t e:Nat):tailW 14 f t e = (oneM GetC 0).bind fun g=>(opM GetC op0).bind fun o=>.ret ⟨14,f,t,e,bal0,bal0,false,inc0,g,st0,diff0,ent0,0,o,res0⟩:=by rfl
theorem bz_14 (f t e:Nat):bodyZ 14 f t e = oneZ.bind fun g=>opZ.bind fun o=>.ret ⟨14,f,t,e,bal0,bal0,false,inc0,g,st0,diff0,ent0,0,o,res0⟩:=by rfl
theorem folb_14 (f t e:Nat):Fol (bodyZ 14 f t e) (tailW 14 f t e):=by
 rw [bz_14,tail_14]
 exact xci (xcy 0).fol fun g=>xci (like_op op0).fol fun o=>xeh _
theorem tail_15 (f t e:Nat):tailW 15 f t e = (opM GetC op0).bind fun o=>.ret ⟨15,f,t,e,bal0,bal0,false,inc0,0,st0,diff0,ent0,0,o,res0⟩:=by rfl
theorem bz_15 (f t e:Nat):bodyZ 15 f t e = opZ.bind fun o=>.ret ⟨15,f,t,e,bal0,bal0,false,inc0,0,st0,diff0,ent0,0,o,res0⟩:=by rfl
theorem folb_15 (f t e:Nat):Fol (bodyZ 15 f t e) (tailW 15 f t e):=by
 rw [bz_15,tail_15]
 exact xci (like_op op0).fol fun o=>xeh _
theorem tail_16 (f t e:Nat):tailW 16 f t e = (opM GetC op0).bind fun o=>(resM GetC res0).bind fun r=>.ret ⟨16,f,t,e,bal0,bal0,false,inc0,0,st0,diff0,ent0,0,o,r⟩:=by rfl
theorem bz_16 (f t e:Nat):bodyZ 16 f t e = opZ.bind fun o=>resZ.bind fun r=>.ret ⟨16,f,t,e,bal0,bal0,false,inc0,0,st0,diff0,ent0,0,o,r⟩:=by rfl
theorem folb_16 (f t e:Nat):Fol (bodyZ 16 f t e) (tailW 16 f t e):=by
 rw [bz_16,tail_16]
 exact xci (like_op op0).fol fun o=>xci like_res.fol fun r=>xeh _
theorem tail_17 (f t e:Nat):tailW 17 f t e = (fourM GetC 0).bind fun n=>.ret ⟨17,f,t,e,bal0,bal0,false,inc0,0,st0,diff0,ent0,n,op0,res0⟩:=by rfl
theorem bz_17 (f t e:Nat):bodyZ 17 f t e = fourZ.bind fun n=>.ret ⟨17,f,t,e,bal0,bal0,false,inc0,0,st0,diff0,ent0,n,op0,res0⟩:=by rfl
theorem folb_17 (f t e:Nat):Fol (bodyZ 17 f t e) (tailW 17 f t e):=by
 rw [bz_17,tail_17]
 exact xci (xdt 0).fol fun n=>xeh _
theorem tail_18 (f t e:Nat):tailW 18 f t e = (balM GetC bal0).bind fun b=>.ret ⟨18,f,t,e,b,bal0,false,inc0,0,st0,diff0,ent0,0,op0,res0⟩:=by rfl
theorem bz_18 (f t e:Nat):bodyZ 18 f t e = balZ.bind fun b=>.ret ⟨18,f,t,e,b,bal0,false,inc0,0,st0,diff0,ent0,0,op0,res0⟩:=by rfl
theorem folb_18 (f t e:Nat):Fol (bodyZ 18 f t e) (tailW 18 f t e):=by
 rw [bz_18,tail_18]
 exact xci like_bal.fol fun b=>xeh _
theorem fol_body (k f t e:Nat) (hk:1 ≤ k ∧ k ≤ 18):Fol (bodyZ k f t e) (tailW k f t e):=by
 rcases (by omega:k = 1 ∨ k = 2 ∨ k = 3 ∨ k = 4 ∨ k = 5 ∨ k = 6 ∨ k = 7 ∨ k = 8 ∨ k = 9 ∨ k = 10 ∨ k = 11 ∨ k = 12 ∨ k = 13 ∨ k = 14 ∨ k = 15 ∨ k = 16 ∨ k = 17 ∨ k = 18) with rfl | rfl | rfl | rfl | rfl | rfl | rfl | rfl | rfl | rfl | rfl | rfl | rfl | rfl | rfl | rfl | rfl | rfl
 ·exact folb_1 f t e
 ·exact folb_2 f t e
 ·exact folb_3 f t e
 ·exact folb_4 f t e
 ·exact folb_5 f t e
 ·exact folb_6 f t e
 ·exact folb_7 f t e
 ·exact folb_8 f t e
 ·exact folb_9 f t e
 ·exact folb_10 f t e
 ·exact folb_11 f t e
 ·exact folb_12 f t e
 ·exact folb_13 f t e
 ·exact folb_14 f t e
 ·exact folb_15 f t e
 ·exact folb_16 f t e
 ·exact folb_17 f t e
 ·exact folb_18 f t e
/-! Bounds. -/
theorem balZ_ok (s:RS):BalOk (balZ s).1:=⟨xfk _,one_ok _⟩
theorem smallZ_ok (s:RS):-9223372036854775808 ≤ (smallZ s).1 ∧ (smallZ s).1 ≤ 9223372036854775807:=by
 have h:(numZ 1 s).1 < 256:=by
  unfold numZ
  split
  ·show 0 < _;decide
  ·exact getN_bd (s.left.take 1) 1 (by rw [List.length_take];omega) (by decide)
 have e:(smallZ s).1 = sgn (numZ 1 s).1:=rfl
 rw [e,xgu (by omega)]
 omega
theorem incZ_ok (s:RS):IncOk (incZ s).1:=⟨one_ok _,one_ok _,(smallZ_ok _).1,(smallZ_ok _).2⟩
theorem resZ_ok (s:RS):ResIn (resZ s).1:=⟨one_ok _,Nat.le_trans (Nat.le_of_lt (txt_ok _ _)) (by decide)⟩
theorem difZ_ok (s:RS):DiffOk (difZ s).1:=by
 obtain ⟨a,s1,e1⟩:∃ n s',smallZ s = (n,s'):=⟨_,_,rfl⟩
 have h1:=smallZ_ok s
 rw [e1] at h1
 obtain ⟨b,s2,e2⟩:∃ n s',fourZ s1 = (n,s'):=⟨_,_,rfl⟩
 have h2:=xfk s1
 rw [e2] at h2
 obtain ⟨l,s3,e3⟩:∃ n s',logZ s2 = (n,s'):=⟨_,_,rfl⟩
 have h3:=logZ_ok s2
 rw [e3] at h3
 obtain ⟨w,s4,e4⟩:∃ n s',stZ s3 = (n,s'):=⟨_,_,rfl⟩
 have h4:=stZ_ok s3
 rw [e4] at h4
 have hZ:difZ s = (⟨a,b,l,w⟩,s4):=by simp only [difZ,Rd.bind,Rd.ret,e1,e2,e3,e4]
 rw [hZ]
 exact ⟨h1.1,h1.2,h2,h3.1,Nat.le_trans h3.2 (by decide),h4⟩
theorem xdb:MsgOk msg0:=⟨by decide,by decide,by decide,by decide,⟨by decide,by decide⟩,⟨by decide,by decide⟩,⟨by decide,by decide,by decide,by decide⟩,by decide,st0_fit,⟨by decide,by decide,by decide,(fun e he=>by cases he),Nat.zero_le _,st0_fit⟩,⟨by decide,by decide,⟨by decide,by decide,by decide,by decide,by decide,Nat.zero_le _⟩⟩,by decide,⟨by decide,by decide,by decide,by decide,by decide,Nat.zero_le _⟩,⟨by decide,Nat.zero_le _⟩⟩
theorem body_ok_1 (f t e:Nat) (hf:f < 256) (ht:t < 256) (he:e < 4294967296) (q:RS):MsgOk (bodyZ 1 f t e q).1:=by
 have z:=xdb
 have hk:1 < 256:=by decide
 obtain ⟨b,s1,e1⟩:∃ n s',balZ q = (n,s'):=⟨_,_,rfl⟩
 have o_b:=balZ_ok q
 rw [e1] at o_b
 have hZ:bodyZ 1 f t e q = (⟨1,f,t,e,b,bal0,false,inc0,0,st0,diff0,ent0,0,op0,res0⟩,s1):=by simp only [bodyZ,Rd.bind,Rd.ret,e1]
 rw [hZ]
 exact ⟨hk,hf,ht,he,o_b,z.acc,z.inc,z.group,z.st,z.diff,z.ent,z.n,z.op,z.r⟩
theorem body_ok_2 (f t e:Nat) (hf:f < 256) (ht:t < 256) (he:e < 4294967296) (q:RS):MsgOk (bodyZ 2 f t e q).1:=by
 have z:=xdb
 have hk:2 < 256:=by decide
 obtain ⟨b,s1,e1⟩:∃ n s',balZ q = (n,s'):=⟨_,_,rfl⟩
 have o_b:=balZ_ok q
 rw [e1] at o_b
 obtain ⟨a,s2,e2⟩:∃ n s',balZ s1 = (n,s'):=⟨_,_,rfl⟩
 have o_a:=balZ_ok s1
 rw [e2] at o_a
 obtain ⟨h,s3,e3⟩:∃ n s',hasZ s2 = (n,s'):=⟨_,_,rfl⟩
 obtain ⟨i,s4,e4⟩:∃ n s',incZ s3 = (n,s'):=⟨_,_,rfl⟩
 have o_i:=incZ_ok s3
 rw [e4] at o_i
 have hZ:bodyZ 2 f t e q = (⟨2,f,t,e,b,a,h,i,0,st0,diff0,ent0,0,op0,res0⟩,s4):=by simp only [bodyZ,Rd.bind,Rd.ret,e1,e2,e3,e4]
 rw [hZ]
 exact ⟨hk,hf,ht,he,o_b,o_a,o_i,z.group,z.st,z.diff,z.ent,z.n,z.op,z.r⟩
theorem body_ok_3 (f t e:Nat) (hf:f < 256) (ht:t < 256) (he:e < 4294967296) (q:RS):MsgOk (bodyZ 3 f t e q).1:=by
 have z:=xdb
 have hk:3 < 256:=by decide
 obtain ⟨b,s1,e1⟩:∃ n s',balZ q = (n,s'):=⟨_,_,rfl⟩
 have o_b:=balZ_ok q
 rw [e1] at o_b
 obtain ⟨i,s2,e2⟩:∃ n s',incZ s1 = (n,s'):=⟨_,_,rfl⟩
 have o_i:=incZ_ok s1
 rw [e2] at o_i
 have hZ:bodyZ 3 f t e q = (⟨3,f,t,e,b,bal0,false,i,0,st0,diff0,ent0,0,op0,res0⟩,s2):=by simp only [bodyZ,Rd.bind,Rd.ret,e1,e2]
 rw [hZ]
 exact ⟨hk,hf,ht,he,o_b,z.acc,o_i,z.group,z.st,z.diff,z.ent,z.n,z.op,z.r⟩
theorem body_ok_4 (f t e:Nat) (hf:f < 256) (ht:t < 256) (he:e < 4294967296) (q:RS):MsgOk (bodyZ 4 f t e q).1:=by
 have z:=xdb
 have hk:4 < 256:=by decide
 obtain ⟨b,s1,e1⟩:∃ n s',balZ q = (n,s'):=⟨_,_,rfl⟩
 have o_b:=balZ_ok q
 rw [e1] at o_b
 have hZ:bodyZ 4 f t e q = (⟨4,f,t,e,b,bal0,false,inc0,0,st0,diff0,ent0,0,op0,res0⟩,s1):=by simp only [bodyZ,Rd.bind,Rd.ret,e1]
 rw [hZ]
 exact ⟨hk,hf,ht,he,o_b,z.acc,z.inc,z.group,z.st,z.diff,z.ent,z.n,z.op,z.r⟩
theorem body_ok_5 (f t e:Nat) (hf:f < 256) (ht:t < 256) (he:e < 4294967296) (q:RS):MsgOk (bodyZ 5 f t e q).1:=by
 have z:=xdb
 have hk:5 < 256:=by decide
 obtain ⟨i,s1,e1⟩:∃ n s',incZ q = (n,s'):=⟨_,_,rfl⟩
 have o_i:=incZ_ok q
 rw [e1] at o_i
 have hZ:bodyZ 5 f t e q = (⟨5,f,t,e,bal0,bal0,false,i,0,st0,diff0,ent0,0,op0,res0⟩,s1):=by simp only [bodyZ,Rd.bind,Rd.ret,e1]
 rw [hZ]
 exact ⟨hk,hf,ht,he,z.b,z.acc,o_i,z.group,z.st,z.diff,z.ent,z.n,z.op,z.r⟩
theorem body_ok_6 (f t e:Nat) (hf:f < 256) (ht:t < 256) (he:e < 4294967296) (q:RS):MsgOk (bodyZ 6 f t e q).1:=by
 have z:=xdb
 have hk:6 < 256:=by decide
 have hZ:bodyZ 6 f t e q = (⟨6,f,t,e,bal0,bal0,false,inc0,0,st0,diff0,ent0,0,op0,res0⟩,q):=by simp only [bodyZ,Rd.bind,Rd.ret]
 rw [hZ]
 exact ⟨hk,hf,ht,he,z.b,z.acc,z.inc,z.group,z.st,z.diff,z.ent,z.n,z.op,z.r⟩
theorem body_ok_7 (f t e:Nat) (hf:f < 256) (ht:t < 256) (he:e < 4294967296) (q:RS):MsgOk (bodyZ 7 f t e q).1:=by
 have z:=xdb
 have hk:7 < 256:=by decide
 obtain ⟨g,s1,e1⟩:∃ n s',oneZ q = (n,s'):=⟨_,_,rfl⟩
 have o_g:=one_ok q
 rw [e1] at o_g
 have hZ:bodyZ 7 f t e q = (⟨7,f,t,e,bal0,bal0,false,inc0,g,st0,diff0,ent0,0,op0,res0⟩,s1):=by simp only [bodyZ,Rd.bind,Rd.ret,e1]
 rw [hZ]
 exact ⟨hk,hf,ht,he,z.b,z.acc,z.inc,o_g,z.st,z.diff,z.ent,z.n,z.op,z.r⟩
theorem body_ok_8 (f t e:Nat) (hf:f < 256) (ht:t < 256) (he:e < 4294967296) (q:RS):MsgOk (bodyZ 8 f t e q).1:=by
 have z:=xdb
 have hk:8 < 256:=by decide
 obtain ⟨g,s1,e1⟩:∃ n s',oneZ q = (n,s'):=⟨_,_,rfl⟩
 have o_g:=one_ok q
 rw [e1] at o_g
 obtain ⟨s,s2,e2⟩:∃ n s',stZ s1 = (n,s'):=⟨_,_,rfl⟩
 have o_s:=stZ_ok s1
 rw [e2] at o_s
 have hZ:bodyZ 8 f t e q = (⟨8,f,t,e,bal0,bal0,false,inc0,g,s,diff0,ent0,0,op0,res0⟩,s2):=by simp only [bodyZ,Rd.bind,Rd.ret,e1,e2]
 rw [hZ]
 exact ⟨hk,hf,ht,he,z.b,z.acc,z.inc,o_g,o_s,z.diff,z.ent,z.n,z.op,z.r⟩
theorem body_ok_9 (f t e:Nat) (hf:f < 256) (ht:t < 256) (he:e < 4294967296) (q:RS):MsgOk (bodyZ 9 f t e q).1:=by
 have z:=xdb
 have hk:9 < 256:=by decide
 obtain ⟨g,s1,e1⟩:∃ n s',oneZ q = (n,s'):=⟨_,_,rfl⟩
 have o_g:=one_ok q
 rw [e1] at o_g
 obtain ⟨d,s2,e2⟩:∃ n s',difZ s1 = (n,s'):=⟨_,_,rfl⟩
 have o_d:=difZ_ok s1
 rw [e2] at o_d
 have hZ:bodyZ 9 f t e q = (⟨9,f,t,e,bal0,bal0,false,inc0,g,st0,d,ent0,0,op0,res0⟩,s2):=by simp only [bodyZ,Rd.bind,Rd.ret,e1,e2]
 rw [hZ]
 exact ⟨hk,hf,ht,he,z.b,z.acc,z.inc,o_g,z.st,o_d,z.ent,z.n,z.op,z.r⟩
theorem body_ok_10 (f t e:Nat) (hf:f < 256) (ht:t < 256) (he:e < 4294967296) (q:RS):MsgOk (bodyZ 10 f t e q).1:=by
 have z:=xdb
 have hk:10 < 256:=by decide
 obtain ⟨g,s1,e1⟩:∃ n s',oneZ q = (n,s'):=⟨_,_,rfl⟩
 have o_g:=one_ok q
 rw [e1] at o_g
 obtain ⟨n,s2,e2⟩:∃ n s',fourZ s1 = (n,s'):=⟨_,_,rfl⟩
 have o_n:=xfk s1
 rw [e2] at o_n
 have hZ:bodyZ 10 f t e q = (⟨10,f,t,e,bal0,bal0,false,inc0,g,st0,diff0,ent0,n,op0,res0⟩,s2):=by simp only [bodyZ,Rd.bind,Rd.ret,e1,e2]
 rw [hZ]
 exact ⟨hk,hf,ht,he,z.b,z.acc,z.inc,o_g,z.st,z.diff,z.ent,o_n,z.op,z.r⟩
theorem body_ok_11 (f t e:Nat) (hf:f < 256) (ht:t < 256) (he:e < 4294967296) (q:RS):MsgOk (bodyZ 11 f t e q).1:=by
 have z:=xdb
 have hk:11 < 256:=by decide
 obtain ⟨g,s1,e1⟩:∃ n s',oneZ q = (n,s'):=⟨_,_,rfl⟩
 have o_g:=one_ok q
 rw [e1] at o_g
 obtain ⟨x,s2,e2⟩:∃ n s',entZ s1 = (n,s'):=⟨_,_,rfl⟩
 have o_x:=entZ_ok s1
 rw [e2] at o_x
 have hZ:bodyZ 11 f t e q = (⟨11,f,t,e,bal0,bal0,false,inc0,g,st0,diff0,x,0,op0,res0⟩,s2):=by simp only [bodyZ,Rd.bind,Rd.ret,e1,e2]
 rw [hZ]
 exact ⟨hk,hf,ht,he,z.b,z.acc,z.inc,o_g,z.st,z.diff,o_x,z.n,z.op,z.r⟩
theorem body_ok_12 (f t e:Nat) (hf:f < 256) (ht:t < 256) (he:e < 4294967296) (q:RS):MsgOk (bodyZ 12 f t e q).1:=by
 have z:=xdb
 have hk:12 < 256:=by decide
 obtain ⟨g,s1,e1⟩:∃ n s',oneZ q = (n,s'):=⟨_,_,rfl⟩
 have o_g:=one_ok q
 rw [e1] at o_g
 obtain ⟨n,s2,e2⟩:∃ n s',fourZ s1 = (n,s'):=⟨_,_,rfl⟩
 have o_n:=xfk s1
 rw [e2] at o_n
 have hZ:bodyZ 12 f t e q = (⟨12,f,t,e,bal0,bal0,false,inc0,g,st0,diff0,ent0,n,op0,res0⟩,s2):=by simp only [bodyZ,Rd.bind,Rd.ret,e1,e2]
 rw [hZ]
 exact ⟨hk,hf,ht,he,z.b,z.acc,z.inc,o_g,z.st,z.diff,z.ent,o_n,z.op,z.r⟩
theorem body_ok_13 (f t e:Nat) (hf:f < 256) (ht:t < 256) (he:e < 4294967296) (q:RS):MsgOk (bodyZ 13 f t e q).1:=by
 have z:=xdb
 have hk:13 < 256:=by decide
 obtain ⟨g,s1,e1⟩:∃ n s',oneZ q = (n,s'):=⟨_,_,rfl⟩
 have o_g:=one_ok q
 rw [e1] at o_g
 obtain ⟨o,s2,e2⟩:∃ n s',opZ s1 = (n,s'):=⟨_,_,rfl⟩
 have o_o:=opZ_ok s1
 rw [e2] at o_o
 have hZ:bodyZ 13 f t e q = (⟨13,f,t,e,bal0,bal0,false,inc0,g,st0,diff0,ent0,0,o,res0⟩,s2):=by simp only [bodyZ,Rd.bind,Rd.ret,e1,e2]
 rw [hZ]
 exact ⟨hk,hf,ht,he,z.b,z.acc,z.inc,o_g,z.st,z.diff,z.ent,z.n,o_o,z.r⟩
theorem body_ok_14 (f t e:Nat) (hf:f < 256) (ht:t < 256) (he:e < 4294967296) (q:RS):MsgOk (bodyZ 14 f t e q).1:=by
 have z:=xdb
 have hk:14 < 256:=by decide
 obtain ⟨g,s1,e1⟩:∃ n s',oneZ q = (n,s'):=⟨_,_,rfl⟩
 have o_g:=one_ok q
 rw [e1] at o_g
 obtain ⟨o,s2,e2⟩:∃ n s',opZ s1 = (n,s'):=⟨_,_,rfl⟩
 have o_o:=opZ_ok s1
 rw [e2] at o_o
 have hZ:bodyZ 14 f t e q = (⟨14,f,t,e,bal0,bal0,false,inc0,g,st0,diff0,ent0,0,o,res0⟩,s2):=by simp only [bodyZ,Rd.bind,Rd.ret,e1,e2]
 rw [hZ]
 exact ⟨hk,hf,ht,he,z.b,z.acc,z.inc,o_g,z.st,z.diff,z.ent,z.n,o_o,z.r⟩
theorem body_ok_15 (f t e:Nat) (hf:f < 256) (ht:t < 256) (he:e < 4294967296) (q:RS):MsgOk (bodyZ 15 f t e q).1:=by
 have z:=xdb
 have hk:15 < 256:=by decide
 obtain ⟨o,s1,e1⟩:∃ n s',opZ q = (n,s'):=⟨_,_,rfl⟩
 have o_o:=opZ_ok q
 rw [e1] at o_o
 have hZ:bodyZ 15 f t e q = (⟨15,f,t,e,bal0,bal0,false,inc0,0,st0,diff0,ent0,0,o,res0⟩,s1):=by simp only [bodyZ,Rd.bind,Rd.ret,e1]
 rw [hZ]
 exact ⟨hk,hf,ht,he,z.b,z.acc,z.inc,z.group,z.st,z.diff,z.ent,z.n,o_o,z.r⟩
theorem body_ok_16 (f t e:Nat) (hf:f < 256) (ht:t < 256) (he:e < 4294967296) (q:RS):MsgOk (bodyZ 16 f t e q).1:=by
 have z:=xdb
 have hk:16 < 256:=by decide
 obtain ⟨o,s1,e1⟩:∃ n s',opZ q = (n,s'):=⟨_,_,rfl⟩
 have o_o:=opZ_ok q
 rw [e1] at o_o
 obtain ⟨r,s2,e2⟩:∃ n s',resZ s1 = (n,s'):=⟨_,_,rfl⟩
 have o_r:=resZ_ok s1
 rw [e2] at o_r
 have hZ:bodyZ 16 f t e q = (⟨16,f,t,e,bal0,bal0,false,inc0,0,st0,diff0,ent0,0,o,r⟩,s2):=by simp only [bodyZ,Rd.bind,Rd.ret,e1,e2]
 rw [hZ]
 exact ⟨hk,hf,ht,he,z.b,z.acc,z.inc,z.group,z.st,z.diff,z.ent,z.n,o_o,o_r⟩
theorem body_ok_17 (f t e:Nat) (hf:f < 256) (ht:t < 256) (he:e < 4294967296) (q:RS):MsgOk (bodyZ 17 f t e q).1:=by
 have z:=xdb
 have hk:17 < 256:=by decide
 obtain ⟨n,s1,e1⟩:∃ n s',fourZ q = (n,s'):=⟨_,_,rfl⟩
 have o_n:=xfk q
 rw [e1] at o_n
 have hZ:bodyZ 17 f t e q = (⟨17,f,t,e,bal0,bal0,false,inc0,0,st0,diff0,ent0,n,op0,res0⟩,s1):=by simp only [bodyZ,Rd.bind,Rd.ret,e1]
 rw [hZ]
 exact ⟨hk,hf,ht,he,z.b,z.acc,z.inc,z.group,z.st,z.diff,z.ent,o_n,z.op,z.r⟩
theorem body_ok_18 (f t e:Nat) (hf:f < 256) (ht:t < 256) (he:e < 4294967296) (q:RS):MsgOk (bodyZ 18 f t e q).1:=by
 have z:=xdb
 have hk:18 < 256:=by decide
 obtain ⟨b,s1,e1⟩:∃ n s',balZ q = (n,s'):=⟨_,_,rfl⟩
 have o_b:=balZ_ok q
 rw [e1] at o_b
 have hZ:bodyZ 18 f t e q = (⟨18,f,t,e,b,bal0,false,inc0,0,st0,diff0,ent0,0,op0,res0⟩,s1):=by simp only [bodyZ,Rd.bind,Rd.ret,e1]
 rw [hZ]
 exact ⟨hk,hf,ht,he,o_b,z.acc,z.inc,z.group,z.st,z.diff,z.ent,z.n,z.op,z.r⟩
theorem grp_ok (k f t e:Nat) (hk:k < 256) (hf:f < 256) (ht:t < 256) (he:e < 4294967296) (s:RS):MsgOk (grpZ k f t e s).1:=by
 have z:=xdb
 obtain ⟨g,s1,e1⟩:∃ n s',oneZ s = (n,s'):=⟨_,_,rfl⟩
 have o_g:=one_ok s
 rw [e1] at o_g
 have hZ:grpZ k f t e s = (⟨k,f,t,e,bal0,bal0,false,inc0,g,st0,diff0,ent0,0,op0,res0⟩,s1):=by simp only [grpZ,Rd.bind,Rd.ret,e1]
 rw [hZ]
 exact ⟨hk,hf,ht,he,z.b,z.acc,z.inc,o_g,z.st,z.diff,z.ent,z.n,z.op,z.r⟩
theorem body_other (k f t e:Nat) (hk:¬ (1 ≤ k ∧ k ≤ 18)):bodyZ k f t e = grpZ k f t e:=by
 unfold bodyZ
 split <;> first | (exfalso;omega) | rfl
theorem body_ok (k f t e:Nat) (hk:k < 256) (hf:f < 256) (ht:t < 256) (he:e < 4294967296) (s:RS):MsgOk (bodyZ k f t e s).1:=by
 by_cases h:1 ≤ k ∧ k ≤ 18
 ·rcases (by omega:k = 1 ∨ k = 2 ∨ k = 3 ∨ k = 4 ∨ k = 5 ∨ k = 6 ∨ k = 7 ∨ k = 8 ∨ k = 9 ∨ k = 10 ∨ k = 11 ∨ k = 12 ∨ k = 13 ∨ k = 14 ∨ k = 15 ∨ k = 16 ∨ k = 17 ∨ k = 18) with rfl | rfl | rfl | rfl | rfl | rfl | rfl | rfl | rfl | rfl | rfl | rfl | rfl | rfl | rfl | rfl | rfl | rfl
  ·exact body_ok_1 f t e hf ht he s
  ·exact body_ok_2 f t e hf ht he s
  ·exact body_ok_3 f t e hf ht he s
  ·exact body_ok_4 f t e hf ht he s
  ·exact body_ok_5 f t e hf ht he s
  ·exact body_ok_6 f t e hf ht he s
  ·exact body_ok_7 f t e hf ht he s
  ·exact body_ok_8 f t e hf ht he s
  ·exact body_ok_9 f t e hf ht he s
  ·exact body_ok_10 f t e hf ht he s
  ·exact body_ok_11 f t e hf ht he s
  ·exact body_ok_12 f t e hf ht he s
  ·exact body_ok_13 f t e hf ht he s
  ·exact body_ok_14 f t e hf ht he s
  ·exact body_ok_15 f t e hf ht he s
  ·exact body_ok_16 f t e hf ht he s
  ·exact body_ok_17 f t e hf ht he s
  ·exact body_ok_18 f t e hf ht he s
 ·rw [body_other k f t e h]
  exact grp_ok k f t e hk hf ht he s
theorem headZ_ok (s:RS):MsgOk (headZ s).1:=body_ok _ _ _ _ (one_ok _) (one_ok _) (one_ok _) (xfk _) _
theorem shape_elseZ {k:Nat} (h:¬ (1 ≤ k ∧ k ≤ 18)):shapeM k = sh0:=by
 unfold shapeM
 split <;> first | (exfalso;omega) | rfl
theorem tail_kind {k f t e:Nat} {s r:List UInt8} {m:MsgV} (h:tailW k f t e s = .ok (m,r)):m.kind = k:=by
 unfold tailW at h
 obtain ⟨_,_,_,h⟩:=xaw.1 h
 obtain ⟨_,_,_,h⟩:=xaw.1 h
 obtain ⟨_,_,_,h⟩:=xaw.1 h
 obtain ⟨_,_,_,h⟩:=xaw.1 h
 obtain ⟨_,_,_,h⟩:=xaw.1 h
 obtain ⟨_,_,_,h⟩:=xaw.1 h
 obtain ⟨_,_,_,h⟩:=xaw.1 h
 obtain ⟨_,_,_,h⟩:=xaw.1 h
 obtain ⟨_,_,_,h⟩:=xaw.1 h
 obtain ⟨_,_,_,h⟩:=xaw.1 h
 obtain ⟨_,_,_,h⟩:=xaw.1 h
 rw [← (ret_ok.1 h).1]
theorem isMsg_kindZ {m:MsgV} (h:isMsg m = true):1 ≤ m.kind ∧ m.kind ≤ 18:=by
 by_cases hk:1 ≤ m.kind ∧ m.kind ≤ 18
 ·exact hk
 ·exfalso
  unfold isMsg at h
  rw [shape_elseZ hk] at h
  simp [goesM,sh0] at h
theorem dec_some {b:List UInt8} {m:MsgV} (hm:decM b = (m,0)):decZ b = some m:=by
 obtain ⟨hG,hi,hb⟩:=dec_was hm
 have hl:¬ 2000 < b.length:=by
  have:=(xdp hG).1
  rw [hb]
  unfold sumB
  rw [List.length_append,xal]
  omega
 have hr:headZ ⟨b,false⟩ = (m,⟨putB (sumN (msgB m)) 8,false⟩):=by
  have h1:=msg_get msg0 hG (putB (sumN (msgB m)) 8)
  rw [msgM_tail] at h1
  rw [hb]
  have hk:=isMsg_kindZ hi
  obtain ⟨x1,t1,q1,h1⟩:=xaw.1 h1
  obtain ⟨x2,t2,q2,h1⟩:=xaw.1 h1
  obtain ⟨x3,t3,q3,h1⟩:=xaw.1 h1
  obtain ⟨x4,t4,q4,h1⟩:=xaw.1 h1
  have e1:=(xcy 0).fol _ _ _ q1
  have e2:=(xcy 0).fol _ _ _ q2
  have e3:=(xcy 0).fol _ _ _ q3
  have e4:=(xdt 0).fol _ _ _ q4
  have hx:x1 = m.kind:=(tail_kind h1).symm
  rw [hx] at h1 e1
  have e5:=fol_body m.kind x2 x3 x4 hk _ _ _ h1
  show (Rd.bind oneZ _) ⟨msgB m ++ putB (sumN (msgB m)) 8,false⟩ = _
  simp only [Rd.bind]
  rw [e1]
  simp only [e2,e3,e4]
  exact e5
 have h8:numZ 8 ⟨putB (sumN (msgB m)) 8,false⟩ = (getN ((putB (sumN (msgB m)) 8).take 8),⟨[],false⟩):=by
  unfold numZ
  rw [if_neg (by show ¬ (putB (sumN (msgB m)) 8).length < 8;rw [xal];decide)]
  have e:(putB (sumN (msgB m)) 8).drop 8 = []:=List.drop_of_length_le (by rw [xal];exact Nat.le_refl _)
  show (_,(⟨(putB (sumN (msgB m)) 8).drop 8,false⟩:RS)) = _
  rw [e]
 unfold decZ
 rw [if_neg hl,hr]
 show (if (numZ 8 ⟨putB (sumN (msgB m)) 8,false⟩).2.bad = true ∨ (numZ 8 ⟨putB (sumN (msgB m)) 8,false⟩).2.left ≠ [] then none else if isMsg m = true ∧ sumB (msgB m) = b then some m else none) = some m
 rw [h8,if_neg (by simp),if_pos ⟨hi,hb.symm⟩]
theorem dec_doc (b:List UInt8):(∃ m,decM b = (m,0) ∧ decZ b = some m ∧ MsgOk m) ∨ ∃ n,decM b = (msg0,n) ∧ n ≠ 0 ∧ decZ b = none:=by
 rcases dec_or b with ⟨m,hm⟩ | ⟨n,hn,hz⟩
 ·exact .inl ⟨m,hm,dec_some hm,(dec_was hm).1.ok⟩
 ·refine .inr ⟨n,hn,hz,?_⟩
  unfold decZ
  split
  ·rfl
  ·split
   ·rfl
   ·split
    ·rename_i h
     exfalso
     have:=dec_back (headZ_ok ⟨b,false⟩) h.1
     rw [h.2,hn] at this
     injection this with _ h2
     exact hz h2
    ·rfl

theorem rinc_zero:(Tryz.prog.info? 26).map (·.zero) = some (some (.agg (incC inc0))):=by kernel_rfl
theorem rbal_zero:(Tryz.prog.info? 24).map (·.zero) = some (some (.agg (balC bal0))):=by kernel_rfl
theorem xfm (b:BalV):(Tryz.prog.info? 24).map (·.size) = some (balC b).size:=by show _ = some 2;kernel_rfl
theorem xhd (b:BalV):(balC b).all (·.oneCell') = true:=by
 unfold balC
 simp [Value.oneCell']
theorem xfy (x:IncV):(Tryz.prog.info? 26).map (·.size) = some (incC x).size:=by show _ = some 3;kernel_rfl
theorem rinc_one (x:IncV):(incC x).all (·.oneCell') = true:=by
 unfold incC
 simp [Value.oneCell']
theorem rbal_built_c (x y:Nat):Tryz.prog.built 24 [(0,.int .u32 (x:Int)),(1,.int .u8 (y:Int))] = some (balC ⟨x,y⟩):=by kernel_rfl
theorem rbal_built (n m:Nat):Tryz.prog.built 24 [(0,.int .u32 ((n:Int) % 4294967296)),(1,.int .u8 ((m:Int) % 256))] = some (balC ⟨n % 4294967296,m % 256⟩):=by rw [modn1,modn4];exact rbal_built_c _ _
theorem rinc_built_c (y:Nat):Tryz.prog.built 26 [(0,.int .u8 (y:Int))] = some (incC ⟨y,0,0⟩):=by kernel_rfl
theorem rinc_built1 (n:Nat):Tryz.prog.built 26 [(0,.int .u8 ((n:Int) % 256))] = some (incC ⟨n % 256,0,0⟩):=by rw [modn1];exact rinc_built_c _
set_option maxHeartbeats 4000000 in
theorem xgx (p:Nat) (w:World) (s:RS) (h:RdI p w s):Calls Tryz.prog 93 #[.pointer (some ⟨p,0,none⟩)] w (Reads p w (balZ s) fun b=>.agg (balC b)):=by
 have hp:=h.lt
 obtain ⟨w1,hw1,hR,hb⟩:=xbr w 24 (balC bal0)
 have h1:=h.later hb
 have o1:Hid (OffP p w w1):=OffF.of hb
 obtain ⟨n1,s1,e1⟩:∃ n s',numZ 4 s = (n,s'):=⟨_,_,rfl⟩
 obtain ⟨n2,s2,e2⟩:∃ n s',numZ 1 s1 = (n,s'):=⟨_,_,rfl⟩
 have hZ:Hid (balZ s = (⟨n1 % 4294967296,n2 % 256⟩,s2)):=by
  show _ = _
  simp only [balZ,oneZ,fourZ,Rd.bind,Rd.ret,e1,e2]
 have hc:=xbu p 4 w1 s h1 (by decide) (by decide)
 rw [e1] at hc
 replace hc:Hid _:=hc
 have hRp:w.heap.size ≠ p:=by omega
 clear h h1 hb
 go_enter Tryz.func93,Tryz.ntmps93
 go_wp2_with (first
  | (refine xac (by rfl) 24 rfl (balC bal0) rbal_zero ?_;rw [hw1];clear hw1)
  | fail)
 refine Calls.mono hc.out ?_
 rintro en w2 ⟨he,h2,o2⟩
 replace he:en = .returned (.int .u64 (n1:Nat)):=he
 subst he
 clear hc
 replace hR:=o2.has hR hRp
 replace o1:Hid (OffP p w w2):=o1.out.trans o2
 have hc:=xbu p 1 w2 s1 h2 (by decide) (by decide)
 rw [e2] at hc
 replace hc:Hid _:=hc
 clear h2 o2
 go_wp2_with fail
 refine Calls.mono hc.out ?_
 rintro en w3 ⟨he,h2,o2⟩
 replace he:en = .returned (.int .u64 (n2:Nat)):=he
 subst he
 clear hc
 replace hR:=o2.has hR hRp
 replace o1:Hid (OffP p w w3):=o1.out.trans o2
 have hE:Hid (Reads p w (balZ s) (fun b=>.agg (balC b)) (.returned (.agg (balC ⟨n1 % 4294967296,n2 % 256⟩))) (w3.setRow w.heap.size (balC ⟨n1 % 4294967296,n2 % 256⟩))):=by
  refine ⟨by rw [hZ.out],?_,?_⟩
  ·rw [hZ.out]
   exact h2.other (xbb _ _) hp
  ·exact o1.out.fresh (xbb _ _) (Nat.le_refl _)
 have hRf:=hR.row (balC ⟨n1 % 4294967296,n2 % 256⟩)
 have hbt:Hid _:=rbal_built n1 n2
 clear h2 o2 o1 hZ
 go_wp2_with (first
  | (refine xed (by rfl) 24 0 1 _ _ rfl (.int .u32 ((n1:Int) % 4294967296)) (.int .u8 ((n2:Int) % 256)) rfl rfl (balC ⟨n1 % 4294967296,n2 % 256⟩) hbt.out ?_)
  | (refine xai (by rfl) 24 _ _ rfl w.heap.size rfl (balC ⟨n1 % 4294967296,n2 % 256⟩) rfl 24 (balC bal0) (xfm _) rfl (xhd _) ?hg _ rfl ?_;(case hg=>exact hR))
  | fail)
 exact xba rfl w.heap.size rfl 24 (balC ⟨n1 % 4294967296,n2 % 256⟩) _ Tryz.underlying24 rfl (xfm _) hRf rfl hE.out
set_option maxHeartbeats 4000000 in
theorem rdinc_any (p:Nat) (w:World) (s:RS) (h:RdI p w s):Calls Tryz.prog 94 #[.pointer (some ⟨p,0,none⟩)] w (Reads p w (incZ s) fun o=>.agg (incC o)):=by
 have hp:=h.lt
 obtain ⟨w1,hw1,hR,hb⟩:=xbr w 26 (incC inc0)
 have h1:=h.later hb
 have o1:Hid (OffP p w w1):=OffF.of hb
 obtain ⟨n1,s1,e1⟩:∃ n s',numZ 1 s = (n,s'):=⟨_,_,rfl⟩
 obtain ⟨n2,s2,e2⟩:∃ n s',numZ 1 s1 = (n,s'):=⟨_,_,rfl⟩
 have hm:=num1_lt s2
 obtain ⟨n3,s3,e3⟩:∃ n s',numZ 1 s2 = (n,s'):=⟨_,_,rfl⟩
 rw [e3] at hm
 replace hm:n3 < 256:=hm
 have hsg:sgn n3 = (n3:Int):=xgu (by omega)
 have hZ:Hid (incZ s = (⟨n1 % 256,n2 % 256,(n3:Int)⟩,s3)):=by
  show _ = _
  simp only [incZ,smallZ,oneZ,Rd.bind,Rd.ret,e1,e2,e3,hsg]
 have hnw:((n3:Nat):Int) % 18446744073709551616 = (n3:Int):=by omega
 clear hsg
 have hc:=xbu p 1 w1 s h1 (by decide) (by decide)
 rw [e1] at hc
 replace hc:Hid _:=hc
 clear h h1 hb
 go_enter Tryz.func94,Tryz.ntmps94
 go_wp2_with (first
  | (refine xac (by rfl) 26 rfl (incC inc0) rinc_zero ?_;rw [hw1];clear hw1)
  | fail)
 refine Calls.mono hc.out ?_
 rintro en w2 ⟨he,h2,o2⟩
 replace he:en = .returned (.int .u64 (n1:Nat)):=he
 subst he
 clear hc
 replace hR:=o2.has hR (show ¬ w.heap.size = p by omega)
 have hRl:=hR.lt
 obtain ⟨w3,hw3,hX,hq⟩:=xcm w2 26 (incC inc0) (incC ⟨n1 % 256,0,0⟩)
 replace hR:=hR.later hq
 replace h2:=h2.later hq
 replace o1:Hid (OffP p w w3):=(o1.out.trans o2).trans (OffF.of hq)
 clear o2 hq
 have hc:=xbu p 1 w3 s1 h2 (by decide) (by decide)
 rw [e2] at hc
 replace hc:Hid _:=hc
 have hbt:Hid _:=rinc_built1 n1
 clear h2
 go_wp2_with (first
  | (refine xcu (by rfl) 26 0 _ rfl (.int .u8 ((n1:Int) % 256)) rfl (incC ⟨n1 % 256,0,0⟩) hbt.out ?_)
  | (refine xac (by rfl) 26 rfl (incC inc0) rinc_zero ?_)
  | (refine xai (by rfl) 26 _ _ rfl w2.heap.size rfl (incC ⟨n1 % 256,0,0⟩) rfl 26 (incC inc0) (xfy _) rfl (rinc_one _) ?hg w3 ?hW ?_;(case hg=>exact Has.new _ _ _);(case hW=>exact hw3);clear hw3)
  | fail)
 have hgp:w2.heap.size ≠ p:=by omega
 have hgR:w.heap.size ≠ w2.heap.size:=by omega
 have hRp:w.heap.size ≠ p:=by omega
 clear hbt
 refine Calls.mono hc.out ?_
 rintro en w4 ⟨he,h2,o2⟩
 replace he:en = .returned (.int .u64 (n2:Nat)):=he
 subst he
 clear hc
 replace hR:=o2.has hR hRp
 replace hX:=o2.has hX hgp
 replace o1:Hid (OffP p w w4):=o1.out.trans o2
 have hcell:w4.cell? ⟨w2.heap.size,1,none⟩ = some (.int .u8 0):=hX.cell 1
 have hfree:=hX.free 1
 obtain ⟨x4,hx4⟩:∃ W,w4.setCell ⟨w2.heap.size,1,none⟩ (.int .u8 ((n2:Int) % 256)) = W:=⟨_,rfl⟩
 have hX':Has x4 w2.heap.size 26 (incC ⟨n1 % 256,n2 % 256,0⟩):=by
  rw [← hx4]
  have z:=hX.set 1 (.int .u8 ((n2:Int) % 256))
  rw [modn1] at z
  exact z
 have hR':Has x4 w.heap.size 26 (incC inc0):=by rw [← hx4];exact hR.set_other hgR _
 have h3:RdI p x4 s2:=by rw [← hx4];exact h2.other (xaq _ _ _) (by show p < w2.heap.size;omega)
 have o3:Hid (OffP p w x4):=by rw [← hx4];exact o1.out.fresh (xaq _ _ _) (by show w.heap.size ≤ w2.heap.size;omega)
 clear h2 o2 hX hR o1
 have hc:=xbu p 1 x4 s2 h3 (by decide) (by decide)
 rw [e3] at hc
 replace hc:Hid _:=hc
 clear h3
 go_wp2_with fail
 try rw [hx4]
 clear hx4 hcell hfree
 have hX:=hX'
 have hR:=hR'
 have o1:=o3
 clear hX' hR' o3
 refine Calls.mono hc.out ?_
 rintro en w5 ⟨he,h2,o2⟩
 replace he:en = .returned (.int .u64 (n3:Nat)):=he
 subst he
 clear hc
 replace hR:=o2.has hR hRp
 replace hX:=o2.has hX hgp
 replace o1:Hid (OffP p w w5):=o1.out.trans o2
 have hcell:w5.cell? ⟨w2.heap.size,2,none⟩ = some (.int .i64 0):=hX.cell 2
 have hfree:=hX.free 2
 obtain ⟨x5,hx5⟩:∃ W,w5.setCell ⟨w2.heap.size,2,none⟩ (.int .i64 (n3:Int)) = W:=⟨_,rfl⟩
 have hX':Has x5 w2.heap.size 26 (incC ⟨n1 % 256,n2 % 256,(n3:Int)⟩):=by
  rw [← hx5]
  have z:=hX.set 2 (.int .i64 (n3:Int))
  exact z
 have hR':Has x5 w.heap.size 26 (incC inc0):=by rw [← hx5];exact hR.set_other hgR _
 have h3:RdI p x5 s3:=by rw [← hx5];exact h2.other (xaq _ _ _) (by show p < w2.heap.size;omega)
 have o3:Hid (OffP p w x5):=by rw [← hx5];exact o1.out.fresh (xaq _ _ _) (by show w.heap.size ≤ w2.heap.size;omega)
 clear h2 o2 hX hR o1
 have hE:Hid (Reads p w (incZ s) (fun o=>.agg (incC o)) (.returned (.agg (incC ⟨n1 % 256,n2 % 256,(n3:Int)⟩))) (x5.setRow w.heap.size (incC ⟨n1 % 256,n2 % 256,(n3:Int)⟩))):=by
  refine ⟨by rw [hZ.out],?_,?_⟩
  ·rw [hZ.out]
   exact h3.other (xbb _ _) hp
  ·exact o3.out.fresh (xbb _ _) (Nat.le_refl _)
 have hRf:=hR'.row (incC ⟨n1 % 256,n2 % 256,(n3:Int)⟩)
 clear h3 o3 hZ
 go_wp2_with (first
  | (refine xab (by rfl) 26 _ rfl w2.heap.size rfl 26 (incC ⟨n1 % 256,n2 % 256,(n3:Int)⟩) _ Tryz.underlying26 rfl (xfy _) ?hg ?_;(case hg=>(try rw [hx5]);exact hX'))
  | (refine xai (by rfl) 26 _ _ rfl w.heap.size rfl (incC ⟨n1 % 256,n2 % 256,(n3:Int)⟩) rfl 26 (incC inc0) (xfy _) rfl (rinc_one _) ?hg _ rfl ?_;(case hg=>(try rw [hx5]);exact hR');(try rw [hx5]))
  | fail)
 exact xba rfl w.heap.size rfl 26 (incC ⟨n1 % 256,n2 % 256,(n3:Int)⟩) _ Tryz.underlying26 rfl (xfy _) hRf rfl hE.out

section
variable {k f t e:Nat} {b a:BalV} {h:Bool} {i:IncV} {g:Nat} {s:StV} {d:DiffV} {x:EntV} {n:Nat} {o:OpV} {r:ResV} {a1 a2 a3:Option Addr} {c1 c2 c3:Nat}
theorem mput_dw (u:Int) (v:Nat) (l:List EntV) (y z:StV) (ao:Option Addr) (co:Nat):(putAt (msgL ⟨k,f,t,e,b,a,h,i,g,s,⟨u,v,l,z⟩,x,n,o,r⟩ a1 c1 a2 c2 a3 c3) 65 (stL y ao co)).toArray = msgC ⟨k,f,t,e,b,a,h,i,g,s,⟨u,v,l,y⟩,x,n,o,r⟩ a1 c1 a2 c2 ao co:=by kernel_rfl
end
theorem int_eq1 (n:Nat):((n:Int) == 1) = decide (n = 1):=by
 rw [Bool.eq_iff_iff,beq_iff_eq,decide_eq_true_eq]
 omega
def BodyR (p:Nat) (w:World) (r:MsgV × RS) (e:Ending) (w':World):Prop:=∃ a1 c1 a2 c2 a3 c3,e = .returned (.agg (msgC r.1 a1 c1 a2 c2 a3 c3)) ∧ MsgSl w' r.1 a1 c1 a2 c2 a3 c3 ∧ NewSl w.heap.size a1 a2 a3 ∧ RdI p w' r.2 ∧ OffP p w w'
set_option maxHeartbeats 16000000 in
theorem grp_7 (f t e p:Nat) (w:World) (s:RS) (hr:RdI p w s):Calls Tryz.prog 97 #[.pointer (some ⟨p,0,none⟩),.agg (msgC ⟨7,f,t,e,bal0,bal0,false,inc0,0,st0,diff0,ent0,0,op0,res0⟩ none 0 none 0 none 0)] w (BodyR p w (bodyZ 7 f t e s)):=by
 have hp:=hr.lt
 obtain ⟨w1,hw1,hX1,hY1,hb1⟩:=xbl w 48 48 (msgC ⟨7,f,t,e,bal0,bal0,false,inc0,0,st0,diff0,ent0,0,op0,res0⟩ none 0 none 0 none 0) (msgC msg0 none 0 none 0 none 0)
 have h1:=hr.later hb1
 have o1:Hid (OffP p w w1):=OffF.of hb1
 have hXp:w.heap.size ≠ p:=by omega
 have hYp:w.heap.size + 1 ≠ p:=by omega
 have hgl1:w.heap.size < w1.heap.size:=hX1.lt
 have x0:w1.cell? ⟨w.heap.size,0,none⟩ = some (.int .u8 7):=hX1.mc_kind
 obtain ⟨v1,s1,e1⟩:∃ n s',numZ 1 s = (n,s'):=⟨_,_,rfl⟩
 have hZ:Hid (bodyZ 7 f t e s = (⟨7,f,t,e,bal0,bal0,false,inc0,v1 % 256,st0,diff0,ent0,0,op0,res0⟩,s1)):=by
  show _ = _
  simp only [bodyZ,hasZ,resZ,difZ,smallZ,oneZ,fourZ,Rd.bind,Rd.ret,e1]
 clear hr hb1
 go_enter Tryz.func97,Tryz.ntmps97
 have hc:=xbu p 1 w1 s h1 (by decide) (by decide)
 rw [e1] at hc
 replace hc:Hid _:=hc
 clear h1
 go_wp2_with (first
  | (refine xac (by rfl) 48 rfl (msgC msg0 none 0 none 0 none 0) xbg ?_;rw [hw1];clear hw1)
  | fail)
 clear x0
 refine Calls.mono hc.out ?_
 rintro en y1 ⟨he,h2,o2⟩
 replace he:en = .returned (.int .u64 (v1:Nat)):=he
 subst he
 clear hc
 replace hX1:=o2.has hX1 hXp
 replace hY1:=o2.has hY1 hYp
 replace o1:Hid (OffP p w y1):=o1.out.trans o2
 have hcell:∃ v,y1.cell? ⟨w.heap.size,12,none⟩ = some v:=⟨_,(hX1.cell 12).trans rfl⟩
 obtain ⟨u1,hcell⟩:=hcell
 have hfree:=hX1.free 12
 obtain ⟨x1,hx1⟩:∃ W,y1.setCell ⟨w.heap.size,12,none⟩ (.int .u8 ((v1:Int) % 256)) = W:=⟨_,rfl⟩
 have hX2:Has x1 w.heap.size 48 (msgC ⟨7,f,t,e,bal0,bal0,false,inc0,v1 % 256,st0,diff0,ent0,0,op0,res0⟩ none 0 none 0 none 0):=by
  rw [← hx1]
  have z:=hX1.set 12 (.int .u8 ((v1:Int) % 256))
  rw [modn1] at z
  exact z
 have hY2:Has x1 (w.heap.size + 1) 48 (msgC msg0 none 0 none 0 none 0):=by rw [← hx1];exact hY1.set_other (a:=⟨w.heap.size,12,none⟩) (show w.heap.size + 1 ≠ w.heap.size by omega) _
 have h3:RdI p x1 s1:=by rw [← hx1];exact h2.other (xaq _ _ _) (by show p < w.heap.size;omega)
 have o3:Hid (OffP p w x1):=by rw [← hx1];exact o1.out.fresh (xaq _ _ _) (by show w.heap.size ≤ w.heap.size;omega)
 clear h2 o2 hX1 hY1 o1
 have hX1:=hX2
 have hY1:=hY2
 have h1:=h3
 have o1:=o3
 clear hX2 hY2 h3 o3
 have x0:x1.cell? ⟨w.heap.size,0,none⟩ = some (.int .u8 7):=hX1.mc_kind
 have hE:Hid (BodyR p w (bodyZ 7 f t e s) (.returned (.agg (msgC ⟨7,f,t,e,bal0,bal0,false,inc0,v1 % 256,st0,diff0,ent0,0,op0,res0⟩ none 0 none 0 none 0))) (x1.setRow (w.heap.size + 1) (msgC ⟨7,f,t,e,bal0,bal0,false,inc0,v1 % 256,st0,diff0,ent0,0,op0,res0⟩ none 0 none 0 none 0))):=by
  refine ⟨_,_,_,_,_,_,by rw [hZ.out],?_,?_,?_,?_⟩
  ·rw [hZ.out];exact ⟨Sl.nothing _ _,Sl.nothing _ _,Sl.nothing _ _⟩
  ·exact ⟨(fun _ z=>by cases z),(fun _ z=>by cases z),(fun _ z=>by cases z)⟩
  ·rw [hZ.out];exact h1.other (xbb _ _) (by omega)
  ·exact o1.out.fresh (xbb _ _) (by omega)
 have hRf:=hY1.row (msgC ⟨7,f,t,e,bal0,bal0,false,inc0,v1 % 256,st0,diff0,ent0,0,op0,res0⟩ none 0 none 0 none 0)
 clear h1 o1 hZ
 go_wp2_with (first
  | (refine xab (by rfl) 48 _ rfl w.heap.size rfl 48 (msgC ⟨7,f,t,e,bal0,bal0,false,inc0,v1 % 256,st0,diff0,ent0,0,op0,res0⟩ none 0 none 0 none 0) _ Tryz.underlying48 rfl (xah _ _ _ _ _ _ _) ?hg ?_;(case hg=>(try rw [hx1]);exact hX1))
  | (refine xai (by rfl) 48 _ _ rfl (w.heap.size + 1) rfl (msgC ⟨7,f,t,e,bal0,bal0,false,inc0,v1 % 256,st0,diff0,ent0,0,op0,res0⟩ none 0 none 0 none 0) rfl 48 (msgC msg0 none 0 none 0 none 0) (xah _ _ _ _ _ _ _) (xbe _ _ _ _ _ _ _ _ _ _ _ _ _ _) (xbn _ _ _ _ _ _ _) ?hg _ rfl ?_;(case hg=>(try rw [hx1]);exact hY1);(try rw [hx1]))
  | fail)
 exact xba rfl (w.heap.size + 1) rfl 48 (msgC ⟨7,f,t,e,bal0,bal0,false,inc0,v1 % 256,st0,diff0,ent0,0,op0,res0⟩ none 0 none 0 none 0) _ Tryz.underlying48 rfl (xah _ _ _ _ _ _ _) hRf rfl hE.out
set_option maxHeartbeats 16000000 in
theorem grp_8 (f t e p:Nat) (w:World) (s:RS) (hr:RdI p w s):Calls Tryz.prog 97 #[.pointer (some ⟨p,0,none⟩),.agg (msgC ⟨8,f,t,e,bal0,bal0,false,inc0,0,st0,diff0,ent0,0,op0,res0⟩ none 0 none 0 none 0)] w (BodyR p w (bodyZ 8 f t e s)):=by
 have hp:=hr.lt
 obtain ⟨w1,hw1,hX1,hY1,hb1⟩:=xbl w 48 48 (msgC ⟨8,f,t,e,bal0,bal0,false,inc0,0,st0,diff0,ent0,0,op0,res0⟩ none 0 none 0 none 0) (msgC msg0 none 0 none 0 none 0)
 have h1:=hr.later hb1
 have o1:Hid (OffP p w w1):=OffF.of hb1
 have hXp:w.heap.size ≠ p:=by omega
 have hYp:w.heap.size + 1 ≠ p:=by omega
 have hgl1:w.heap.size < w1.heap.size:=hX1.lt
 have x0:w1.cell? ⟨w.heap.size,0,none⟩ = some (.int .u8 8):=hX1.mc_kind
 obtain ⟨v1,s1,e1⟩:∃ n s',numZ 1 s = (n,s'):=⟨_,_,rfl⟩
 obtain ⟨v2,s2,e2⟩:∃ n s',stZ s1 = (n,s'):=⟨_,_,rfl⟩
 have hZ:Hid (bodyZ 8 f t e s = (⟨8,f,t,e,bal0,bal0,false,inc0,v1 % 256,v2,diff0,ent0,0,op0,res0⟩,s2)):=by
  show _ = _
  simp only [bodyZ,hasZ,resZ,difZ,smallZ,oneZ,fourZ,Rd.bind,Rd.ret,e1,e2]
 clear hr hb1
 go_enter Tryz.func97,Tryz.ntmps97
 have hc:=xbu p 1 w1 s h1 (by decide) (by decide)
 rw [e1] at hc
 replace hc:Hid _:=hc
 clear h1
 go_wp2_with (first
  | (refine xac (by rfl) 48 rfl (msgC msg0 none 0 none 0 none 0) xbg ?_;rw [hw1];clear hw1)
  | fail)
 clear x0
 refine Calls.mono hc.out ?_
 rintro en y1 ⟨he,h2,o2⟩
 replace he:en = .returned (.int .u64 (v1:Nat)):=he
 subst he
 clear hc
 replace hX1:=o2.has hX1 hXp
 replace hY1:=o2.has hY1 hYp
 replace o1:Hid (OffP p w y1):=o1.out.trans o2
 have hcell:∃ v,y1.cell? ⟨w.heap.size,12,none⟩ = some v:=⟨_,(hX1.cell 12).trans rfl⟩
 obtain ⟨u1,hcell⟩:=hcell
 have hfree:=hX1.free 12
 obtain ⟨x1,hx1⟩:∃ W,y1.setCell ⟨w.heap.size,12,none⟩ (.int .u8 ((v1:Int) % 256)) = W:=⟨_,rfl⟩
 have hX2:Has x1 w.heap.size 48 (msgC ⟨8,f,t,e,bal0,bal0,false,inc0,v1 % 256,st0,diff0,ent0,0,op0,res0⟩ none 0 none 0 none 0):=by
  rw [← hx1]
  have z:=hX1.set 12 (.int .u8 ((v1:Int) % 256))
  rw [modn1] at z
  exact z
 have hY2:Has x1 (w.heap.size + 1) 48 (msgC msg0 none 0 none 0 none 0):=by rw [← hx1];exact hY1.set_other (a:=⟨w.heap.size,12,none⟩) (show w.heap.size + 1 ≠ w.heap.size by omega) _
 have h3:RdI p x1 s1:=by rw [← hx1];exact h2.other (xaq _ _ _) (by show p < w.heap.size;omega)
 have o3:Hid (OffP p w x1):=by rw [← hx1];exact o1.out.fresh (xaq _ _ _) (by show w.heap.size ≤ w.heap.size;omega)
 clear h2 o2 hX1 hY1 o1
 have hX1:=hX2
 have hY1:=hY2
 have h1:=h3
 have o1:=o3
 clear hX2 hY2 h3 o3
 have x0:x1.cell? ⟨w.heap.size,0,none⟩ = some (.int .u8 8):=hX1.mc_kind
 have hc:=rdst_any p x1 s1 h1
 rw [e2] at hc
 replace hc:Hid _:=hc
 clear h1
 have hgy2:=hY1.lt
 go_wp2_with (first
  | fail)
 clear x0
 try rw [hx1]
 clear hx1 hcell hfree
 refine Calls.mono hc.out ?_
 rintro en y2 ⟨go2,gc2,he,hS2,hf2,h2,o2⟩
 replace he:en = .returned (.agg (stC v2 go2 gc2)):=he
 replace hS2:Sl y2 go2 gc2 8 (entR v2.log):=hS2
 subst he
 clear hc
 replace hX1:=o2.has hX1 hXp
 replace hY1:=o2.has hY1 hYp
 replace o1:Hid (OffP p w y2):=o1.out.trans o2
 have ht:=hX1.there 13 49 (show 13 + 49 ≤ 131 by decide)
 have hX2:=(show Has y2 w.heap.size 48 (msgL ⟨8,f,t,e,bal0,bal0,false,inc0,v1 % 256,st0,diff0,ent0,0,op0,res0⟩ none 0 none 0 none 0).toArray from hX1).putCells (stL v2 go2 gc2) 13 (show 13 + 49 ≤ 131 by decide)
 rw [mput_st] at hX2
 have hY2:=hY1.cells_other (show w.heap.size + 1 ≠ w.heap.size by omega) (stL v2 go2 gc2) 13
 obtain ⟨x2,hx2⟩:∃ W,y2.setCells w.heap.size 13 (stL v2 go2 gc2) = W:=⟨_,rfl⟩
 rw [hx2] at hX2 hY2
 have h3:RdI p x2 s2:=by rw [← hx2];exact h2.other (xap _ _) (by show p < w.heap.size;omega)
 have o3:Hid (OffP p w x2):=by rw [← hx2];exact o1.out.fresh (xap _ _) (by show w.heap.size ≤ w.heap.size;omega)
 replace hS2:=Sl.off hS2 (OffF.but (show But w.heap.size y2 x2 by rw [← hx2];exact (xap _ _))) (fun ad had _ z=>by have:=hf2 ad had;have:ad.block = w.heap.size:=z;omega)
 clear h2 o2 hX1 hY1 o1
 have hX1:=hX2
 have hY1:=hY2
 have h1:=h3
 have o1:=o3
 clear hX2 hY2 h3 o3
 have x0:x2.cell? ⟨w.heap.size,0,none⟩ = some (.int .u8 8):=hX1.mc_kind
 have hE:Hid (BodyR p w (bodyZ 8 f t e s) (.returned (.agg (msgC ⟨8,f,t,e,bal0,bal0,false,inc0,v1 % 256,v2,diff0,ent0,0,op0,res0⟩ go2 gc2 none 0 none 0))) (x2.setRow (w.heap.size + 1) (msgC ⟨8,f,t,e,bal0,bal0,false,inc0,v1 % 256,v2,diff0,ent0,0,op0,res0⟩ go2 gc2 none 0 none 0))):=by
  refine ⟨_,_,_,_,_,_,by rw [hZ.out],?_,?_,?_,?_⟩
  ·rw [hZ.out];exact ⟨Sl.off hS2 (OffF.but (xbb _ _)) (fun ad had _ z=>by have:=hf2 ad had;have:ad.block = w.heap.size + 1:=z;omega),Sl.nothing _ _,Sl.nothing _ _⟩
  ·exact ⟨(fun ad had=>by have:=hf2 ad had;omega),(fun _ z=>by cases z),(fun _ z=>by cases z)⟩
  ·rw [hZ.out];exact h1.other (xbb _ _) (by omega)
  ·exact o1.out.fresh (xbb _ _) (by omega)
 have hRf:=hY1.row (msgC ⟨8,f,t,e,bal0,bal0,false,inc0,v1 % 256,v2,diff0,ent0,0,op0,res0⟩ go2 gc2 none 0 none 0)
 clear h1 o1 hZ hS2
 go_wp2_with (first
  | (refine xak (by rfl) 44 _ _ rfl w.heap.size 13 (stC v2 go2 gc2) rfl rfl ?ht (xcg _ _ _) (st_one _ _ _) ?_;(case ht=>exact ht);rw [show y2.setCells w.heap.size 13 (stC v2 go2 gc2).toList = x2 from hx2];clear hx2 ht)
  | (refine xab (by rfl) 48 _ rfl w.heap.size rfl 48 (msgC ⟨8,f,t,e,bal0,bal0,false,inc0,v1 % 256,v2,diff0,ent0,0,op0,res0⟩ go2 gc2 none 0 none 0) _ Tryz.underlying48 rfl (xah _ _ _ _ _ _ _) ?hg ?_;(case hg=>(try rw [hx2]);exact hX1))
  | (refine xai (by rfl) 48 _ _ rfl (w.heap.size + 1) rfl (msgC ⟨8,f,t,e,bal0,bal0,false,inc0,v1 % 256,v2,diff0,ent0,0,op0,res0⟩ go2 gc2 none 0 none 0) rfl 48 (msgC msg0 none 0 none 0 none 0) (xah _ _ _ _ _ _ _) (xbe _ _ _ _ _ _ _ _ _ _ _ _ _ _) (xbn _ _ _ _ _ _ _) ?hg _ rfl ?_;(case hg=>(try rw [hx2]);exact hY1);(try rw [hx2]))
  | fail)
 exact xba rfl (w.heap.size + 1) rfl 48 (msgC ⟨8,f,t,e,bal0,bal0,false,inc0,v1 % 256,v2,diff0,ent0,0,op0,res0⟩ go2 gc2 none 0 none 0) _ Tryz.underlying48 rfl (xah _ _ _ _ _ _ _) hRf rfl hE.out
set_option maxHeartbeats 16000000 in
theorem grp_9 (f t e p:Nat) (w:World) (s:RS) (hr:RdI p w s):Calls Tryz.prog 97 #[.pointer (some ⟨p,0,none⟩),.agg (msgC ⟨9,f,t,e,bal0,bal0,false,inc0,0,st0,diff0,ent0,0,op0,res0⟩ none 0 none 0 none 0)] w (BodyR p w (bodyZ 9 f t e s)):=by
 have hp:=hr.lt
 obtain ⟨w1,hw1,hX1,hY1,hb1⟩:=xbl w 48 48 (msgC ⟨9,f,t,e,bal0,bal0,false,inc0,0,st0,diff0,ent0,0,op0,res0⟩ none 0 none 0 none 0) (msgC msg0 none 0 none 0 none 0)
 have h1:=hr.later hb1
 have o1:Hid (OffP p w w1):=OffF.of hb1
 have hXp:w.heap.size ≠ p:=by omega
 have hYp:w.heap.size + 1 ≠ p:=by omega
 have hgl1:w.heap.size < w1.heap.size:=hX1.lt
 have x0:w1.cell? ⟨w.heap.size,0,none⟩ = some (.int .u8 9):=hX1.mc_kind
 obtain ⟨v1,s1,e1⟩:∃ n s',numZ 1 s = (n,s'):=⟨_,_,rfl⟩
 have hm:=num1_lt s1
 obtain ⟨v2,s2,e2⟩:∃ n s',numZ 1 s1 = (n,s'):=⟨_,_,rfl⟩
 rw [e2] at hm
 replace hm:v2 < 256:=hm
 have hsg:sgn v2 = (v2:Int):=xgu (by omega)
 have hnw:((v2:Nat):Int) % 18446744073709551616 = (v2:Int):=by omega
 obtain ⟨v3,s3,e3⟩:∃ n s',numZ 4 s2 = (n,s'):=⟨_,_,rfl⟩
 obtain ⟨v4,s4,e4⟩:∃ n s',logZ s3 = (n,s'):=⟨_,_,rfl⟩
 obtain ⟨v5,s5,e5⟩:∃ n s',stZ s4 = (n,s'):=⟨_,_,rfl⟩
 have hZ:Hid (bodyZ 9 f t e s = (⟨9,f,t,e,bal0,bal0,false,inc0,v1 % 256,st0,⟨(v2:Int),v3 % 4294967296,v4,v5⟩,ent0,0,op0,res0⟩,s5)):=by
  show _ = _
  simp only [bodyZ,hasZ,resZ,difZ,smallZ,oneZ,fourZ,Rd.bind,Rd.ret,e1,e2,e3,e4,e5,hsg]
 clear hsg
 clear hr hb1
 go_enter Tryz.func97,Tryz.ntmps97
 have hc:=xbu p 1 w1 s h1 (by decide) (by decide)
 rw [e1] at hc
 replace hc:Hid _:=hc
 clear h1
 go_wp2_with (first
  | (refine xac (by rfl) 48 rfl (msgC msg0 none 0 none 0 none 0) xbg ?_;rw [hw1];clear hw1)
  | fail)
 clear x0
 refine Calls.mono hc.out ?_
 rintro en y1 ⟨he,h2,o2⟩
 replace he:en = .returned (.int .u64 (v1:Nat)):=he
 subst he
 clear hc
 replace hX1:=o2.has hX1 hXp
 replace hY1:=o2.has hY1 hYp
 replace o1:Hid (OffP p w y1):=o1.out.trans o2
 have hcell:∃ v,y1.cell? ⟨w.heap.size,12,none⟩ = some v:=⟨_,(hX1.cell 12).trans rfl⟩
 obtain ⟨u1,hcell⟩:=hcell
 have hfree:=hX1.free 12
 obtain ⟨x1,hx1⟩:∃ W,y1.setCell ⟨w.heap.size,12,none⟩ (.int .u8 ((v1:Int) % 256)) = W:=⟨_,rfl⟩
 have hX2:Has x1 w.heap.size 48 (msgC ⟨9,f,t,e,bal0,bal0,false,inc0,v1 % 256,st0,diff0,ent0,0,op0,res0⟩ none 0 none 0 none 0):=by
  rw [← hx1]
  have z:=hX1.set 12 (.int .u8 ((v1:Int) % 256))
  rw [modn1] at z
  exact z
 have hY2:Has x1 (w.heap.size + 1) 48 (msgC msg0 none 0 none 0 none 0):=by rw [← hx1];exact hY1.set_other (a:=⟨w.heap.size,12,none⟩) (show w.heap.size + 1 ≠ w.heap.size by omega) _
 have h3:RdI p x1 s1:=by rw [← hx1];exact h2.other (xaq _ _ _) (by show p < w.heap.size;omega)
 have o3:Hid (OffP p w x1):=by rw [← hx1];exact o1.out.fresh (xaq _ _ _) (by show w.heap.size ≤ w.heap.size;omega)
 clear h2 o2 hX1 hY1 o1
 have hX1:=hX2
 have hY1:=hY2
 have h1:=h3
 have o1:=o3
 clear hX2 hY2 h3 o3
 have x0:x1.cell? ⟨w.heap.size,0,none⟩ = some (.int .u8 9):=hX1.mc_kind
 have hc:=xbu p 1 x1 s1 h1 (by decide) (by decide)
 rw [e2] at hc
 replace hc:Hid _:=hc
 clear h1
 go_wp2_with (first
  | fail)
 clear x0
 try rw [hx1]
 clear hx1 hcell hfree
 refine Calls.mono hc.out ?_
 rintro en y2 ⟨he,h2,o2⟩
 replace he:en = .returned (.int .u64 (v2:Nat)):=he
 subst he
 clear hc
 replace hX1:=o2.has hX1 hXp
 replace hY1:=o2.has hY1 hYp
 replace o1:Hid (OffP p w y2):=o1.out.trans o2
 have hcell:∃ v,y2.cell? ⟨w.heap.size,62,none⟩ = some v:=⟨_,(hX1.cell 62).trans rfl⟩
 obtain ⟨u2,hcell⟩:=hcell
 have hfree:=hX1.free 62
 obtain ⟨x2,hx2⟩:∃ W,y2.setCell ⟨w.heap.size,62,none⟩ (.int .i64 (v2:Int)) = W:=⟨_,rfl⟩
 have hX2:Has x2 w.heap.size 48 (msgC ⟨9,f,t,e,bal0,bal0,false,inc0,v1 % 256,st0,⟨(v2:Int),0,[],st0⟩,ent0,0,op0,res0⟩ none 0 none 0 none 0):=by
  rw [← hx2]
  have z:=hX1.set 62 (.int .i64 (v2:Int))
  exact z
 have hY2:Has x2 (w.heap.size + 1) 48 (msgC msg0 none 0 none 0 none 0):=by rw [← hx2];exact hY1.set_other (a:=⟨w.heap.size,62,none⟩) (show w.heap.size + 1 ≠ w.heap.size by omega) _
 have h3:RdI p x2 s2:=by rw [← hx2];exact h2.other (xaq _ _ _) (by show p < w.heap.size;omega)
 have o3:Hid (OffP p w x2):=by rw [← hx2];exact o1.out.fresh (xaq _ _ _) (by show w.heap.size ≤ w.heap.size;omega)
 clear h2 o2 hX1 hY1 o1
 have hX1:=hX2
 have hY1:=hY2
 have h1:=h3
 have o1:=o3
 clear hX2 hY2 h3 o3
 have x0:x2.cell? ⟨w.heap.size,0,none⟩ = some (.int .u8 9):=hX1.mc_kind
 have hc:=xbu p 4 x2 s2 h1 (by decide) (by decide)
 rw [e3] at hc
 replace hc:Hid _:=hc
 clear h1
 go_wp2_with (first
  | fail)
 clear x0
 try rw [hx2]
 clear hx2 hcell hfree
 refine Calls.mono hc.out ?_
 rintro en y3 ⟨he,h2,o2⟩
 replace he:en = .returned (.int .u64 (v3:Nat)):=he
 subst he
 clear hc
 replace hX1:=o2.has hX1 hXp
 replace hY1:=o2.has hY1 hYp
 replace o1:Hid (OffP p w y3):=o1.out.trans o2
 have hcell:∃ v,y3.cell? ⟨w.heap.size,63,none⟩ = some v:=⟨_,(hX1.cell 63).trans rfl⟩
 obtain ⟨u3,hcell⟩:=hcell
 have hfree:=hX1.free 63
 obtain ⟨x3,hx3⟩:∃ W,y3.setCell ⟨w.heap.size,63,none⟩ (.int .u32 ((v3:Int) % 4294967296)) = W:=⟨_,rfl⟩
 have hX2:Has x3 w.heap.size 48 (msgC ⟨9,f,t,e,bal0,bal0,false,inc0,v1 % 256,st0,⟨(v2:Int),v3 % 4294967296,[],st0⟩,ent0,0,op0,res0⟩ none 0 none 0 none 0):=by
  rw [← hx3]
  have z:=hX1.set 63 (.int .u32 ((v3:Int) % 4294967296))
  rw [modn4] at z
  exact z
 have hY2:Has x3 (w.heap.size + 1) 48 (msgC msg0 none 0 none 0 none 0):=by rw [← hx3];exact hY1.set_other (a:=⟨w.heap.size,63,none⟩) (show w.heap.size + 1 ≠ w.heap.size by omega) _
 have h3:RdI p x3 s3:=by rw [← hx3];exact h2.other (xaq _ _ _) (by show p < w.heap.size;omega)
 have o3:Hid (OffP p w x3):=by rw [← hx3];exact o1.out.fresh (xaq _ _ _) (by show w.heap.size ≤ w.heap.size;omega)
 clear h2 o2 hX1 hY1 o1
 have hX1:=hX2
 have hY1:=hY2
 have h1:=h3
 have o1:=o3
 clear hX2 hY2 h3 o3
 have x0:x3.cell? ⟨w.heap.size,0,none⟩ = some (.int .u8 9):=hX1.mc_kind
 have hc:=rdlog_any p x3 s3 h1
 rw [e4] at hc
 replace hc:Hid _:=hc
 clear h1
 have hgy4:=hY1.lt
 go_wp2_with (first
  | fail)
 clear x0
 try rw [hx3]
 clear hx3 hcell hfree
 refine Calls.mono hc.out ?_
 rintro en y4 ⟨go4,gc4,he,hS4,hf4,h2,o2⟩
 replace he:en = .returned (.slice go4 v4.length gc4):=he
 replace hS4:Sl y4 go4 gc4 8 (entR v4):=hS4
 subst he
 clear hc
 replace hX1:=o2.has hX1 hXp
 replace hY1:=o2.has hY1 hYp
 replace o1:Hid (OffP p w y4):=o1.out.trans o2
 have hcell:∃ v,y4.cell? ⟨w.heap.size,64,none⟩ = some v:=⟨_,(hX1.cell 64).trans rfl⟩
 obtain ⟨u4,hcell⟩:=hcell
 have hfree:=hX1.free 64
 obtain ⟨x4,hx4⟩:∃ W,y4.setCell ⟨w.heap.size,64,none⟩ (.slice go4 v4.length gc4) = W:=⟨_,rfl⟩
 have hX2:Has x4 w.heap.size 48 (msgC ⟨9,f,t,e,bal0,bal0,false,inc0,v1 % 256,st0,⟨(v2:Int),v3 % 4294967296,v4,st0⟩,ent0,0,op0,res0⟩ none 0 go4 gc4 none 0):=by
  rw [← hx4]
  exact hX1.set 64 (.slice go4 v4.length gc4)
 have hY2:Has x4 (w.heap.size + 1) 48 (msgC msg0 none 0 none 0 none 0):=by rw [← hx4];exact hY1.set_other (a:=⟨w.heap.size,64,none⟩) (show w.heap.size + 1 ≠ w.heap.size by omega) _
 have h3:RdI p x4 s4:=by rw [← hx4];exact h2.other (xaq _ _ _) (by show p < w.heap.size;omega)
 have o3:Hid (OffP p w x4):=by rw [← hx4];exact o1.out.fresh (xaq _ _ _) (by show w.heap.size ≤ w.heap.size;omega)
 replace hS4:=Sl.off hS4 (OffF.but (show But w.heap.size y4 x4 by rw [← hx4];exact (xaq _ _ _))) (fun ad had _ z=>by have:=hf4 ad had;have:ad.block = w.heap.size:=z;omega)
 clear h2 o2 hX1 hY1 o1
 have hX1:=hX2
 have hY1:=hY2
 have h1:=h3
 have o1:=o3
 clear hX2 hY2 h3 o3
 have x0:x4.cell? ⟨w.heap.size,0,none⟩ = some (.int .u8 9):=hX1.mc_kind
 have hc:=rdst_any p x4 s4 h1
 rw [e5] at hc
 replace hc:Hid _:=hc
 clear h1
 have hgy5:=hY1.lt
 go_wp2_with (first
  | fail)
 clear x0
 try rw [hx4]
 clear hx4 hcell hfree
 refine Calls.mono hc.out ?_
 rintro en y5 ⟨go5,gc5,he,hS5,hf5,h2,o2⟩
 replace he:en = .returned (.agg (stC v5 go5 gc5)):=he
 replace hS5:Sl y5 go5 gc5 8 (entR v5.log):=hS5
 subst he
 clear hc
 replace hX1:=o2.has hX1 hXp
 replace hY1:=o2.has hY1 hYp
 replace o1:Hid (OffP p w y5):=o1.out.trans o2
 replace hS4:=Sl.off hS4 o2 (fun ad had _ z=>by have:=hf4 ad had;have:ad.block = p:=z;omega)
 have ht:=hX1.there 65 49 (show 65 + 49 ≤ 131 by decide)
 have hX2:=(show Has y5 w.heap.size 48 (msgL ⟨9,f,t,e,bal0,bal0,false,inc0,v1 % 256,st0,⟨(v2:Int),v3 % 4294967296,v4,st0⟩,ent0,0,op0,res0⟩ none 0 go4 gc4 none 0).toArray from hX1).putCells (stL v5 go5 gc5) 65 (show 65 + 49 ≤ 131 by decide)
 rw [mput_dw] at hX2
 have hY2:=hY1.cells_other (show w.heap.size + 1 ≠ w.heap.size by omega) (stL v5 go5 gc5) 65
 obtain ⟨x5,hx5⟩:∃ W,y5.setCells w.heap.size 65 (stL v5 go5 gc5) = W:=⟨_,rfl⟩
 rw [hx5] at hX2 hY2
 have h3:RdI p x5 s5:=by rw [← hx5];exact h2.other (xap _ _) (by show p < w.heap.size;omega)
 have o3:Hid (OffP p w x5):=by rw [← hx5];exact o1.out.fresh (xap _ _) (by show w.heap.size ≤ w.heap.size;omega)
 replace hS4:=Sl.off hS4 (OffF.but (show But w.heap.size y5 x5 by rw [← hx5];exact (xap _ _))) (fun ad had _ z=>by have:=hf4 ad had;have:ad.block = w.heap.size:=z;omega)
 replace hS5:=Sl.off hS5 (OffF.but (show But w.heap.size y5 x5 by rw [← hx5];exact (xap _ _))) (fun ad had _ z=>by have:=hf5 ad had;have:ad.block = w.heap.size:=z;omega)
 clear h2 o2 hX1 hY1 o1
 have hX1:=hX2
 have hY1:=hY2
 have h1:=h3
 have o1:=o3
 clear hX2 hY2 h3 o3
 have x0:x5.cell? ⟨w.heap.size,0,none⟩ = some (.int .u8 9):=hX1.mc_kind
 have hE:Hid (BodyR p w (bodyZ 9 f t e s) (.returned (.agg (msgC ⟨9,f,t,e,bal0,bal0,false,inc0,v1 % 256,st0,⟨(v2:Int),v3 % 4294967296,v4,v5⟩,ent0,0,op0,res0⟩ none 0 go4 gc4 go5 gc5))) (x5.setRow (w.heap.size + 1) (msgC ⟨9,f,t,e,bal0,bal0,false,inc0,v1 % 256,st0,⟨(v2:Int),v3 % 4294967296,v4,v5⟩,ent0,0,op0,res0⟩ none 0 go4 gc4 go5 gc5))):=by
  refine ⟨_,_,_,_,_,_,by rw [hZ.out],?_,?_,?_,?_⟩
  ·rw [hZ.out];exact ⟨Sl.nothing _ _,Sl.off hS4 (OffF.but (xbb _ _)) (fun ad had _ z=>by have:=hf4 ad had;have:ad.block = w.heap.size + 1:=z;omega),Sl.off hS5 (OffF.but (xbb _ _)) (fun ad had _ z=>by have:=hf5 ad had;have:ad.block = w.heap.size + 1:=z;omega)⟩
  ·exact ⟨(fun _ z=>by cases z),(fun ad had=>by have:=hf4 ad had;omega),(fun ad had=>by have:=hf5 ad had;omega)⟩
  ·rw [hZ.out];exact h1.other (xbb _ _) (by omega)
  ·exact o1.out.fresh (xbb _ _) (by omega)
 have hRf:=hY1.row (msgC ⟨9,f,t,e,bal0,bal0,false,inc0,v1 % 256,st0,⟨(v2:Int),v3 % 4294967296,v4,v5⟩,ent0,0,op0,res0⟩ none 0 go4 gc4 go5 gc5)
 clear h1 o1 hZ hS4 hS5
 go_wp2_with (first
  | (refine xak (by rfl) 44 _ _ rfl w.heap.size 65 (stC v5 go5 gc5) rfl rfl ?ht (xcg _ _ _) (st_one _ _ _) ?_;(case ht=>exact ht);rw [show y5.setCells w.heap.size 65 (stC v5 go5 gc5).toList = x5 from hx5];clear hx5 ht)
  | (refine xab (by rfl) 48 _ rfl w.heap.size rfl 48 (msgC ⟨9,f,t,e,bal0,bal0,false,inc0,v1 % 256,st0,⟨(v2:Int),v3 % 4294967296,v4,v5⟩,ent0,0,op0,res0⟩ none 0 go4 gc4 go5 gc5) _ Tryz.underlying48 rfl (xah _ _ _ _ _ _ _) ?hg ?_;(case hg=>(try rw [hx5]);exact hX1))
  | (refine xai (by rfl) 48 _ _ rfl (w.heap.size + 1) rfl (msgC ⟨9,f,t,e,bal0,bal0,false,inc0,v1 % 256,st0,⟨(v2:Int),v3 % 4294967296,v4,v5⟩,ent0,0,op0,res0⟩ none 0 go4 gc4 go5 gc5) rfl 48 (msgC msg0 none 0 none 0 none 0) (xah _ _ _ _ _ _ _) (xbe _ _ _ _ _ _ _ _ _ _ _ _ _ _) (xbn _ _ _ _ _ _ _) ?hg _ rfl ?_;(case hg=>(try rw [hx5]);exact hY1);(try rw [hx5]))
  | fail)
 exact xba rfl (w.heap.size + 1) rfl 48 (msgC ⟨9,f,t,e,bal0,bal0,false,inc0,v1 % 256,st0,⟨(v2:Int),v3 % 4294967296,v4,v5⟩,ent0,0,op0,res0⟩ none 0 go4 gc4 go5 gc5) _ Tryz.underlying48 rfl (xah _ _ _ _ _ _ _) hRf rfl hE.out
set_option maxHeartbeats 16000000 in
theorem grp_10 (f t e p:Nat) (w:World) (s:RS) (hr:RdI p w s):Calls Tryz.prog 97 #[.pointer (some ⟨p,0,none⟩),.agg (msgC ⟨10,f,t,e,bal0,bal0,false,inc0,0,st0,diff0,ent0,0,op0,res0⟩ none 0 none 0 none 0)] w (BodyR p w (bodyZ 10 f t e s)):=by
 have hp:=hr.lt
 obtain ⟨w1,hw1,hX1,hY1,hb1⟩:=xbl w 48 48 (msgC ⟨10,f,t,e,bal0,bal0,false,inc0,0,st0,diff0,ent0,0,op0,res0⟩ none 0 none 0 none 0) (msgC msg0 none 0 none 0 none 0)
 have h1:=hr.later hb1
 have o1:Hid (OffP p w w1):=OffF.of hb1
 have hXp:w.heap.size ≠ p:=by omega
 have hYp:w.heap.size + 1 ≠ p:=by omega
 have hgl1:w.heap.size < w1.heap.size:=hX1.lt
 have x0:w1.cell? ⟨w.heap.size,0,none⟩ = some (.int .u8 10):=hX1.mc_kind
 obtain ⟨v1,s1,e1⟩:∃ n s',numZ 1 s = (n,s'):=⟨_,_,rfl⟩
 obtain ⟨v2,s2,e2⟩:∃ n s',numZ 4 s1 = (n,s'):=⟨_,_,rfl⟩
 have hZ:Hid (bodyZ 10 f t e s = (⟨10,f,t,e,bal0,bal0,false,inc0,v1 % 256,st0,diff0,ent0,v2 % 4294967296,op0,res0⟩,s2)):=by
  show _ = _
  simp only [bodyZ,hasZ,resZ,difZ,smallZ,oneZ,fourZ,Rd.bind,Rd.ret,e1,e2]
 clear hr hb1
 go_enter Tryz.func97,Tryz.ntmps97
 have hc:=xbu p 1 w1 s h1 (by decide) (by decide)
 rw [e1] at hc
 replace hc:Hid _:=hc
 clear h1
 go_wp2_with (first
  | (refine xac (by rfl) 48 rfl (msgC msg0 none 0 none 0 none 0) xbg ?_;rw [hw1];clear hw1)
  | fail)
 clear x0
 refine Calls.mono hc.out ?_
 rintro en y1 ⟨he,h2,o2⟩
 replace he:en = .returned (.int .u64 (v1:Nat)):=he
 subst he
 clear hc
 replace hX1:=o2.has hX1 hXp
 replace hY1:=o2.has hY1 hYp
 replace o1:Hid (OffP p w y1):=o1.out.trans o2
 have hcell:∃ v,y1.cell? ⟨w.heap.size,12,none⟩ = some v:=⟨_,(hX1.cell 12).trans rfl⟩
 obtain ⟨u1,hcell⟩:=hcell
 have hfree:=hX1.free 12
 obtain ⟨x1,hx1⟩:∃ W,y1.setCell ⟨w.heap.size,12,none⟩ (.int .u8 ((v1:Int) % 256)) = W:=⟨_,rfl⟩
 have hX2:Has x1 w.heap.size 48 (msgC ⟨10,f,t,e,bal0,bal0,false,inc0,v1 % 256,st0,diff0,ent0,0,op0,res0⟩ none 0 none 0 none 0):=by
  rw [← hx1]
  have z:=hX1.set 12 (.int .u8 ((v1:Int) % 256))
  rw [modn1] at z
  exact z
 have hY2:Has x1 (w.heap.size + 1) 48 (msgC msg0 none 0 none 0 none 0):=by rw [← hx1];exact hY1.set_other (a:=⟨w.heap.size,12,none⟩) (show w.heap.size + 1 ≠ w.heap.size by omega) _
 have h3:RdI p x1 s1:=by rw [← hx1];exact h2.other (xaq _ _ _) (by show p < w.heap.size;omega)
 have o3:Hid (OffP p w x1):=by rw [← hx1];exact o1.out.fresh (xaq _ _ _) (by show w.heap.size ≤ w.heap.size;omega)
 clear h2 o2 hX1 hY1 o1
 have hX1:=hX2
 have hY1:=hY2
 have h1:=h3
 have o1:=o3
 clear hX2 hY2 h3 o3
 have x0:x1.cell? ⟨w.heap.size,0,none⟩ = some (.int .u8 10):=hX1.mc_kind
 have hc:=xbu p 4 x1 s1 h1 (by decide) (by decide)
 rw [e2] at hc
 replace hc:Hid _:=hc
 clear h1
 go_wp2_with (first
  | fail)
 clear x0
 try rw [hx1]
 clear hx1 hcell hfree
 refine Calls.mono hc.out ?_
 rintro en y2 ⟨he,h2,o2⟩
 replace he:en = .returned (.int .u64 (v2:Nat)):=he
 subst he
 clear hc
 replace hX1:=o2.has hX1 hXp
 replace hY1:=o2.has hY1 hYp
 replace o1:Hid (OffP p w y2):=o1.out.trans o2
 have hcell:∃ v,y2.cell? ⟨w.heap.size,122,none⟩ = some v:=⟨_,(hX1.cell 122).trans rfl⟩
 obtain ⟨u2,hcell⟩:=hcell
 have hfree:=hX1.free 122
 obtain ⟨x2,hx2⟩:∃ W,y2.setCell ⟨w.heap.size,122,none⟩ (.int .u32 ((v2:Int) % 4294967296)) = W:=⟨_,rfl⟩
 have hX2:Has x2 w.heap.size 48 (msgC ⟨10,f,t,e,bal0,bal0,false,inc0,v1 % 256,st0,diff0,ent0,v2 % 4294967296,op0,res0⟩ none 0 none 0 none 0):=by
  rw [← hx2]
  have z:=hX1.set 122 (.int .u32 ((v2:Int) % 4294967296))
  rw [modn4] at z
  exact z
 have hY2:Has x2 (w.heap.size + 1) 48 (msgC msg0 none 0 none 0 none 0):=by rw [← hx2];exact hY1.set_other (a:=⟨w.heap.size,122,none⟩) (show w.heap.size + 1 ≠ w.heap.size by omega) _
 have h3:RdI p x2 s2:=by rw [← hx2];exact h2.other (xaq _ _ _) (by show p < w.heap.size;omega)
 have o3:Hid (OffP p w x2):=by rw [← hx2];exact o1.out.fresh (xaq _ _ _) (by show w.heap.size ≤ w.heap.size;omega)
 clear h2 o2 hX1 hY1 o1
 have hX1:=hX2
 have hY1:=hY2
 have h1:=h3
 have o1:=o3
 clear hX2 hY2 h3 o3
 have x0:x2.cell? ⟨w.heap.size,0,none⟩ = some (.int .u8 10):=hX1.mc_kind
 have hE:Hid (BodyR p w (bodyZ 10 f t e s) (.returned (.agg (msgC ⟨10,f,t,e,bal0,bal0,false,inc0,v1 % 256,st0,diff0,ent0,v2 % 4294967296,op0,res0⟩ none 0 none 0 none 0))) (x2.setRow (w.heap.size + 1) (msgC ⟨10,f,t,e,bal0,bal0,false,inc0,v1 % 256,st0,diff0,ent0,v2 % 4294967296,op0,res0⟩ none 0 none 0 none 0))):=by
  refine ⟨_,_,_,_,_,_,by rw [hZ.out],?_,?_,?_,?_⟩
  ·rw [hZ.out];exact ⟨Sl.nothing _ _,Sl.nothing _ _,Sl.nothing _ _⟩
  ·exact ⟨(fun _ z=>by cases z),(fun _ z=>by cases z),(fun _ z=>by cases z)⟩
  ·rw [hZ.out];exact h1.other (xbb _ _) (by omega)
  ·exact o1.out.fresh (xbb _ _) (by omega)
 have hRf:=hY1.row (msgC ⟨10,f,t,e,bal0,bal0,false,inc0,v1 % 256,st0,diff0,ent0,v2 % 4294967296,op0,res0⟩ none 0 none 0 none 0)
 clear h1 o1 hZ
 go_wp2_with (first
  | (refine xab (by rfl) 48 _ rfl w.heap.size rfl 48 (msgC ⟨10,f,t,e,bal0,bal0,false,inc0,v1 % 256,st0,diff0,ent0,v2 % 4294967296,op0,res0⟩ none 0 none 0 none 0) _ Tryz.underlying48 rfl (xah _ _ _ _ _ _ _) ?hg ?_;(case hg=>(try rw [hx2]);exact hX1))
  | (refine xai (by rfl) 48 _ _ rfl (w.heap.size + 1) rfl (msgC ⟨10,f,t,e,bal0,bal0,false,inc0,v1 % 256,st0,diff0,ent0,v2 % 4294967296,op0,res0⟩ none 0 none 0 none 0) rfl 48 (msgC msg0 none 0 none 0 none 0) (xah _ _ _ _ _ _ _) (xbe _ _ _ _ _ _ _ _ _ _ _ _ _ _) (xbn _ _ _ _ _ _ _) ?hg _ rfl ?_;(case hg=>(try rw [hx2]);exact hY1);(try rw [hx2]))
  | fail)
 exact xba rfl (w.heap.size + 1) rfl 48 (msgC ⟨10,f,t,e,bal0,bal0,false,inc0,v1 % 256,st0,diff0,ent0,v2 % 4294967296,op0,res0⟩ none 0 none 0 none 0) _ Tryz.underlying48 rfl (xah _ _ _ _ _ _ _) hRf rfl hE.out
set_option maxHeartbeats 16000000 in
theorem grp_11 (f t e p:Nat) (w:World) (s:RS) (hr:RdI p w s):Calls Tryz.prog 97 #[.pointer (some ⟨p,0,none⟩),.agg (msgC ⟨11,f,t,e,bal0,bal0,false,inc0,0,st0,diff0,ent0,0,op0,res0⟩ none 0 none 0 none 0)] w (BodyR p w (bodyZ 11 f t e s)):=by
 have hp:=hr.lt
 obtain ⟨w1,hw1,hX1,hY1,hb1⟩:=xbl w 48 48 (msgC ⟨11,f,t,e,bal0,bal0,false,inc0,0,st0,diff0,ent0,0,op0,res0⟩ none 0 none 0 none 0) (msgC msg0 none 0 none 0 none 0)
 have h1:=hr.later hb1
 have o1:Hid (OffP p w w1):=OffF.of hb1
 have hXp:w.heap.size ≠ p:=by omega
 have hYp:w.heap.size + 1 ≠ p:=by omega
 have hgl1:w.heap.size < w1.heap.size:=hX1.lt
 have x0:w1.cell? ⟨w.heap.size,0,none⟩ = some (.int .u8 11):=hX1.mc_kind
 obtain ⟨v1,s1,e1⟩:∃ n s',numZ 1 s = (n,s'):=⟨_,_,rfl⟩
 obtain ⟨v2,s2,e2⟩:∃ n s',entZ s1 = (n,s'):=⟨_,_,rfl⟩
 have hZ:Hid (bodyZ 11 f t e s = (⟨11,f,t,e,bal0,bal0,false,inc0,v1 % 256,st0,diff0,v2,0,op0,res0⟩,s2)):=by
  show _ = _
  simp only [bodyZ,hasZ,resZ,difZ,smallZ,oneZ,fourZ,Rd.bind,Rd.ret,e1,e2]
 clear hr hb1
 go_enter Tryz.func97,Tryz.ntmps97
 have hc:=xbu p 1 w1 s h1 (by decide) (by decide)
 rw [e1] at hc
 replace hc:Hid _:=hc
 clear h1
 go_wp2_with (first
  | (refine xac (by rfl) 48 rfl (msgC msg0 none 0 none 0 none 0) xbg ?_;rw [hw1];clear hw1)
  | fail)
 clear x0
 refine Calls.mono hc.out ?_
 rintro en y1 ⟨he,h2,o2⟩
 replace he:en = .returned (.int .u64 (v1:Nat)):=he
 subst he
 clear hc
 replace hX1:=o2.has hX1 hXp
 replace hY1:=o2.has hY1 hYp
 replace o1:Hid (OffP p w y1):=o1.out.trans o2
 have hcell:∃ v,y1.cell? ⟨w.heap.size,12,none⟩ = some v:=⟨_,(hX1.cell 12).trans rfl⟩
 obtain ⟨u1,hcell⟩:=hcell
 have hfree:=hX1.free 12
 obtain ⟨x1,hx1⟩:∃ W,y1.setCell ⟨w.heap.size,12,none⟩ (.int .u8 ((v1:Int) % 256)) = W:=⟨_,rfl⟩
 have hX2:Has x1 w.heap.size 48 (msgC ⟨11,f,t,e,bal0,bal0,false,inc0,v1 % 256,st0,diff0,ent0,0,op0,res0⟩ none 0 none 0 none 0):=by
  rw [← hx1]
  have z:=hX1.set 12 (.int .u8 ((v1:Int) % 256))
  rw [modn1] at z
  exact z
 have hY2:Has x1 (w.heap.size + 1) 48 (msgC msg0 none 0 none 0 none 0):=by rw [← hx1];exact hY1.set_other (a:=⟨w.heap.size,12,none⟩) (show w.heap.size + 1 ≠ w.heap.size by omega) _
 have h3:RdI p x1 s1:=by rw [← hx1];exact h2.other (xaq _ _ _) (by show p < w.heap.size;omega)
 have o3:Hid (OffP p w x1):=by rw [← hx1];exact o1.out.fresh (xaq _ _ _) (by show w.heap.size ≤ w.heap.size;omega)
 clear h2 o2 hX1 hY1 o1
 have hX1:=hX2
 have hY1:=hY2
 have h1:=h3
 have o1:=o3
 clear hX2 hY2 h3 o3
 have x0:x1.cell? ⟨w.heap.size,0,none⟩ = some (.int .u8 11):=hX1.mc_kind
 have hc:=rdent_any p x1 s1 h1
 rw [e2] at hc
 replace hc:Hid _:=hc
 clear h1
 go_wp2_with (first
  | fail)
 clear x0
 try rw [hx1]
 clear hx1 hcell hfree
 refine Calls.mono hc.out ?_
 rintro en y2 ⟨he,h2,o2⟩
 replace he:en = .returned (.agg (entC v2)):=he
 subst he
 clear hc
 replace hX1:=o2.has hX1 hXp
 replace hY1:=o2.has hY1 hYp
 replace o1:Hid (OffP p w y2):=o1.out.trans o2
 have ht:=hX1.there 114 8 (show 114 + 8 ≤ 131 by decide)
 have hX2:=(show Has y2 w.heap.size 48 (msgL ⟨11,f,t,e,bal0,bal0,false,inc0,v1 % 256,st0,diff0,ent0,0,op0,res0⟩ none 0 none 0 none 0).toArray from hX1).putCells (entL v2) 114 (show 114 + 8 ≤ 131 by decide)
 rw [mput_ent] at hX2
 have hY2:=hY1.cells_other (show w.heap.size + 1 ≠ w.heap.size by omega) (entL v2) 114
 obtain ⟨x2,hx2⟩:∃ W,y2.setCells w.heap.size 114 (entL v2) = W:=⟨_,rfl⟩
 rw [hx2] at hX2 hY2
 have h3:RdI p x2 s2:=by rw [← hx2];exact h2.other (xap _ _) (by show p < w.heap.size;omega)
 have o3:Hid (OffP p w x2):=by rw [← hx2];exact o1.out.fresh (xap _ _) (by show w.heap.size ≤ w.heap.size;omega)
 clear h2 o2 hX1 hY1 o1
 have hX1:=hX2
 have hY1:=hY2
 have h1:=h3
 have o1:=o3
 clear hX2 hY2 h3 o3
 have x0:x2.cell? ⟨w.heap.size,0,none⟩ = some (.int .u8 11):=hX1.mc_kind
 have hE:Hid (BodyR p w (bodyZ 11 f t e s) (.returned (.agg (msgC ⟨11,f,t,e,bal0,bal0,false,inc0,v1 % 256,st0,diff0,v2,0,op0,res0⟩ none 0 none 0 none 0))) (x2.setRow (w.heap.size + 1) (msgC ⟨11,f,t,e,bal0,bal0,false,inc0,v1 % 256,st0,diff0,v2,0,op0,res0⟩ none 0 none 0 none 0))):=by
  refine ⟨_,_,_,_,_,_,by rw [hZ.out],?_,?_,?_,?_⟩
  ·rw [hZ.out];exact ⟨Sl.nothing _ _,Sl.nothing _ _,Sl.nothing _ _⟩
  ·exact ⟨(fun _ z=>by cases z),(fun _ z=>by cases z),(fun _ z=>by cases z)⟩
  ·rw [hZ.out];exact h1.other (xbb _ _) (by omega)
  ·exact o1.out.fresh (xbb _ _) (by omega)
 have hRf:=hY1.row (msgC ⟨11,f,t,e,bal0,bal0,false,inc0,v1 % 256,st0,diff0,v2,0,op0,res0⟩ none 0 none 0 none 0)
 clear h1 o1 hZ
 go_wp2_with (first
  | (refine xak (by rfl) 41 _ _ rfl w.heap.size 114 (entC v2) rfl rfl ?ht (xax _) (xet _) ?_;(case ht=>exact ht);rw [show y2.setCells w.heap.size 114 (entC v2).toList = x2 from hx2];clear hx2 ht)
  | (refine xab (by rfl) 48 _ rfl w.heap.size rfl 48 (msgC ⟨11,f,t,e,bal0,bal0,false,inc0,v1 % 256,st0,diff0,v2,0,op0,res0⟩ none 0 none 0 none 0) _ Tryz.underlying48 rfl (xah _ _ _ _ _ _ _) ?hg ?_;(case hg=>(try rw [hx2]);exact hX1))
  | (refine xai (by rfl) 48 _ _ rfl (w.heap.size + 1) rfl (msgC ⟨11,f,t,e,bal0,bal0,false,inc0,v1 % 256,st0,diff0,v2,0,op0,res0⟩ none 0 none 0 none 0) rfl 48 (msgC msg0 none 0 none 0 none 0) (xah _ _ _ _ _ _ _) (xbe _ _ _ _ _ _ _ _ _ _ _ _ _ _) (xbn _ _ _ _ _ _ _) ?hg _ rfl ?_;(case hg=>(try rw [hx2]);exact hY1);(try rw [hx2]))
  | fail)
 exact xba rfl (w.heap.size + 1) rfl 48 (msgC ⟨11,f,t,e,bal0,bal0,false,inc0,v1 % 256,st0,diff0,v2,0,op0,res0⟩ none 0 none 0 none 0) _ Tryz.underlying48 rfl (xah _ _ _ _ _ _ _) hRf rfl hE.out
set_option maxHeartbeats 16000000 in
theorem grp_12 (f t e p:Nat) (w:World) (s:RS) (hr:RdI p w s):Calls Tryz.prog 97 #[.pointer (some ⟨p,0,none⟩),.agg (msgC ⟨12,f,t,e,bal0,bal0,false,inc0,0,st0,diff0,ent0,0,op0,res0⟩ none 0 none 0 none 0)] w (BodyR p w (bodyZ 12 f t e s)):=by
 have hp:=hr.lt
 obtain ⟨w1,hw1,hX1,hY1,hb1⟩:=xbl w 48 48 (msgC ⟨12,f,t,e,bal0,bal0,false,inc0,0,st0,diff0,ent0,0,op0,res0⟩ none 0 none 0 none 0) (msgC msg0 none 0 none 0 none 0)
 have h1:=hr.later hb1
 have o1:Hid (OffP p w w1):=OffF.of hb1
 have hXp:w.heap.size ≠ p:=by omega
 have hYp:w.heap.size + 1 ≠ p:=by omega
 have hgl1:w.heap.size < w1.heap.size:=hX1.lt
 have x0:w1.cell? ⟨w.heap.size,0,none⟩ = some (.int .u8 12):=hX1.mc_kind
 obtain ⟨v1,s1,e1⟩:∃ n s',numZ 1 s = (n,s'):=⟨_,_,rfl⟩
 obtain ⟨v2,s2,e2⟩:∃ n s',numZ 4 s1 = (n,s'):=⟨_,_,rfl⟩
 have hZ:Hid (bodyZ 12 f t e s = (⟨12,f,t,e,bal0,bal0,false,inc0,v1 % 256,st0,diff0,ent0,v2 % 4294967296,op0,res0⟩,s2)):=by
  show _ = _
  simp only [bodyZ,hasZ,resZ,difZ,smallZ,oneZ,fourZ,Rd.bind,Rd.ret,e1,e2]
 clear hr hb1
 go_enter Tryz.func97,Tryz.ntmps97
 have hc:=xbu p 1 w1 s h1 (by decide) (by decide)
 rw [e1] at hc
 replace hc:Hid _:=hc
 clear h1
 go_wp2_with (first
  | (refine xac (by rfl) 48 rfl (msgC msg0 none 0 none 0 none 0) xbg ?_;rw [hw1];clear hw1)
  | fail)
 clear x0
 refine Calls.mono hc.out ?_
 rintro en y1 ⟨he,h2,o2⟩
 replace he:en = .returned (.int .u64 (v1:Nat)):=he
 subst he
 clear hc
 replace hX1:=o2.has hX1 hXp
 replace hY1:=o2.has hY1 hYp
 replace o1:Hid (OffP p w y1):=o1.out.trans o2
 have hcell:∃ v,y1.cell? ⟨w.heap.size,12,none⟩ = some v:=⟨_,(hX1.cell 12).trans rfl⟩
 obtain ⟨u1,hcell⟩:=hcell
 have hfree:=hX1.free 12
 obtain ⟨x1,hx1⟩:∃ W,y1.setCell ⟨w.heap.size,12,none⟩ (.int .u8 ((v1:Int) % 256)) = W:=⟨_,rfl⟩
 have hX2:Has x1 w.heap.size 48 (msgC ⟨12,f,t,e,bal0,bal0,false,inc0,v1 % 256,st0,diff0,ent0,0,op0,res0⟩ none 0 none 0 none 0):=by
  rw [← hx1]
  have z:=hX1.set 12 (.int .u8 ((v1:Int) % 256))
  rw [modn1] at z
  exact z
 have hY2:Has x1 (w.heap.size + 1) 48 (msgC msg0 none 0 none 0 none 0):=by rw [← hx1];exact hY1.set_other (a:=⟨w.heap.size,12,none⟩) (show w.heap.size + 1 ≠ w.heap.size by omega) _
 have h3:RdI p x1 s1:=by rw [← hx1];exact h2.other (xaq _ _ _) (by show p < w.heap.size;omega)
 have o3:Hid (OffP p w x1):=by rw [← hx1];exact o1.out.fresh (xaq _ _ _) (by show w.heap.size ≤ w.heap.size;omega)
 clear h2 o2 hX1 hY1 o1
 have hX1:=hX2
 have hY1:=hY2
 have h1:=h3
 have o1:=o3
 clear hX2 hY2 h3 o3
 have x0:x1.cell? ⟨w.heap.size,0,none⟩ = some (.int .u8 12):=hX1.mc_kind
 have hc:=xbu p 4 x1 s1 h1 (by decide) (by decide)
 rw [e2] at hc
 replace hc:Hid _:=hc
 clear h1
 go_wp2_with (first
  | fail)
 clear x0
 try rw [hx1]
 clear hx1 hcell hfree
 refine Calls.mono hc.out ?_
 rintro en y2 ⟨he,h2,o2⟩
 replace he:en = .returned (.int .u64 (v2:Nat)):=he
 subst he
 clear hc
 replace hX1:=o2.has hX1 hXp
 replace hY1:=o2.has hY1 hYp
 replace o1:Hid (OffP p w y2):=o1.out.trans o2
 have hcell:∃ v,y2.cell? ⟨w.heap.size,122,none⟩ = some v:=⟨_,(hX1.cell 122).trans rfl⟩
 obtain ⟨u2,hcell⟩:=hcell
 have hfree:=hX1.free 122
 obtain ⟨x2,hx2⟩:∃ W,y2.setCell ⟨w.heap.size,122,none⟩ (.int .u32 ((v2:Int) % 4294967296)) = W:=⟨_,rfl⟩
 have hX2:Has x2 w.heap.size 48 (msgC ⟨12,f,t,e,bal0,bal0,false,inc0,v1 % 256,st0,diff0,ent0,v2 % 4294967296,op0,res0⟩ none 0 none 0 none 0):=by
  rw [← hx2]
  have z:=hX1.set 122 (.int .u32 ((v2:Int) % 4294967296))
  rw [modn4] at z
  exact z
 have hY2:Has x2 (w.heap.size + 1) 48 (msgC msg0 none 0 none 0 none 0):=by rw [← hx2];exact hY1.set_other (a:=⟨w.heap.size,122,none⟩) (show w.heap.size + 1 ≠ w.heap.size by omega) _
 have h3:RdI p x2 s2:=by rw [← hx2];exact h2.other (xaq _ _ _) (by show p < w.heap.size;omega)
 have o3:Hid (OffP p w x2):=by rw [← hx2];exact o1.out.fresh (xaq _ _ _) (by show w.heap.size ≤ w.heap.size;omega)
 clear h2 o2 hX1 hY1 o1
 have hX1:=hX2
 have hY1:=hY2
 have h1:=h3
 have o1:=o3
 clear hX2 hY2 h3 o3
 have x0:x2.cell? ⟨w.heap.size,0,none⟩ = some (.int .u8 12):=hX1.mc_kind
 have hE:Hid (BodyR p w (bodyZ 12 f t e s) (.returned (.agg (msgC ⟨12,f,t,e,bal0,bal0,false,inc0,v1 % 256,st0,diff0,ent0,v2 % 4294967296,op0,res0⟩ none 0 none 0 none 0))) (x2.setRow (w.heap.size + 1) (msgC ⟨12,f,t,e,bal0,bal0,false,inc0,v1 % 256,st0,diff0,ent0,v2 % 4294967296,op0,res0⟩ none 0 none 0 none 0))):=by
  refine ⟨_,_,_,_,_,_,by rw [hZ.out],?_,?_,?_,?_⟩
  ·rw [hZ.out];exact ⟨Sl.nothing _ _,Sl.nothing _ _,Sl.nothing _ _⟩
  ·exact ⟨(fun _ z=>by cases z),(fun _ z=>by cases z),(fun _ z=>by cases z)⟩
  ·rw [hZ.out];exact h1.other (xbb _ _) (by omega)
  ·exact o1.out.fresh (xbb _ _) (by omega)
 have hRf:=hY1.row (msgC ⟨12,f,t,e,bal0,bal0,false,inc0,v1 % 256,st0,diff0,ent0,v2 % 4294967296,op0,res0⟩ none 0 none 0 none 0)
 clear h1 o1 hZ
 go_wp2_with (first
  | (refine xab (by rfl) 48 _ rfl w.heap.size rfl 48 (msgC ⟨12,f,t,e,bal0,bal0,false,inc0,v1 % 256,st0,diff0,ent0,v2 % 4294967296,op0,res0⟩ none 0 none 0 none 0) _ Tryz.underlying48 rfl (xah _ _ _ _ _ _ _) ?hg ?_;(case hg=>(try rw [hx2]);exact hX1))
  | (refine xai (by rfl) 48 _ _ rfl (w.heap.size + 1) rfl (msgC ⟨12,f,t,e,bal0,bal0,false,inc0,v1 % 256,st0,diff0,ent0,v2 % 4294967296,op0,res0⟩ none 0 none 0 none 0) rfl 48 (msgC msg0 none 0 none 0 none 0) (xah _ _ _ _ _ _ _) (xbe _ _ _ _ _ _ _ _ _ _ _ _ _ _) (xbn _ _ _ _ _ _ _) ?hg _ rfl ?_;(case hg=>(try rw [hx2]);exact hY1);(try rw [hx2]))
  | fail)
 exact xba rfl (w.heap.size + 1) rfl 48 (msgC ⟨12,f,t,e,bal0,bal0,false,inc0,v1 % 256,st0,diff0,ent0,v2 % 4294967296,op0,res0⟩ none 0 none 0 none 0) _ Tryz.underlying48 rfl (xah _ _ _ _ _ _ _) hRf rfl hE.out
set_option maxHeartbeats 16000000 in
theorem grp_13 (f t e p:Nat) (w:World) (s:RS) (hr:RdI p w s):Calls Tryz.prog 97 #[.pointer (some ⟨p,0,none⟩),.agg (msgC ⟨13,f,t,e,bal0,bal0,false,inc0,0,st0,diff0,ent0,0,op0,res0⟩ none 0 none 0 none 0)] w (BodyR p w (bodyZ 13 f t e s)):=by
 have hp:=hr.lt
 obtain ⟨w1,hw1,hX1,hY1,hb1⟩:=xbl w 48 48 (msgC ⟨13,f,t,e,bal0,bal0,false,inc0,0,st0,diff0,ent0,0,op0,res0⟩ none 0 none 0 none 0) (msgC msg0 none 0 none 0 none 0)
 have h1:=hr.later hb1
 have o1:Hid (OffP p w w1):=OffF.of hb1
 have hXp:w.heap.size ≠ p:=by omega
 have hYp:w.heap.size + 1 ≠ p:=by omega
 have hgl1:w.heap.size < w1.heap.size:=hX1.lt
 have x0:w1.cell? ⟨w.heap.size,0,none⟩ = some (.int .u8 13):=hX1.mc_kind
 obtain ⟨v1,s1,e1⟩:∃ n s',numZ 1 s = (n,s'):=⟨_,_,rfl⟩
 obtain ⟨v2,s2,e2⟩:∃ n s',opZ s1 = (n,s'):=⟨_,_,rfl⟩
 have hZ:Hid (bodyZ 13 f t e s = (⟨13,f,t,e,bal0,bal0,false,inc0,v1 % 256,st0,diff0,ent0,0,v2,res0⟩,s2)):=by
  show _ = _
  simp only [bodyZ,hasZ,resZ,difZ,smallZ,oneZ,fourZ,Rd.bind,Rd.ret,e1,e2]
 clear hr hb1
 go_enter Tryz.func97,Tryz.ntmps97
 have hc:=xbu p 1 w1 s h1 (by decide) (by decide)
 rw [e1] at hc
 replace hc:Hid _:=hc
 clear h1
 go_wp2_with (first
  | (refine xac (by rfl) 48 rfl (msgC msg0 none 0 none 0 none 0) xbg ?_;rw [hw1];clear hw1)
  | fail)
 clear x0
 refine Calls.mono hc.out ?_
 rintro en y1 ⟨he,h2,o2⟩
 replace he:en = .returned (.int .u64 (v1:Nat)):=he
 subst he
 clear hc
 replace hX1:=o2.has hX1 hXp
 replace hY1:=o2.has hY1 hYp
 replace o1:Hid (OffP p w y1):=o1.out.trans o2
 have hcell:∃ v,y1.cell? ⟨w.heap.size,12,none⟩ = some v:=⟨_,(hX1.cell 12).trans rfl⟩
 obtain ⟨u1,hcell⟩:=hcell
 have hfree:=hX1.free 12
 obtain ⟨x1,hx1⟩:∃ W,y1.setCell ⟨w.heap.size,12,none⟩ (.int .u8 ((v1:Int) % 256)) = W:=⟨_,rfl⟩
 have hX2:Has x1 w.heap.size 48 (msgC ⟨13,f,t,e,bal0,bal0,false,inc0,v1 % 256,st0,diff0,ent0,0,op0,res0⟩ none 0 none 0 none 0):=by
  rw [← hx1]
  have z:=hX1.set 12 (.int .u8 ((v1:Int) % 256))
  rw [modn1] at z
  exact z
 have hY2:Has x1 (w.heap.size + 1) 48 (msgC msg0 none 0 none 0 none 0):=by rw [← hx1];exact hY1.set_other (a:=⟨w.heap.size,12,none⟩) (show w.heap.size + 1 ≠ w.heap.size by omega) _
 have h3:RdI p x1 s1:=by rw [← hx1];exact h2.other (xaq _ _ _) (by show p < w.heap.size;omega)
 have o3:Hid (OffP p w x1):=by rw [← hx1];exact o1.out.fresh (xaq _ _ _) (by show w.heap.size ≤ w.heap.size;omega)
 clear h2 o2 hX1 hY1 o1
 have hX1:=hX2
 have hY1:=hY2
 have h1:=h3
 have o1:=o3
 clear hX2 hY2 h3 o3
 have x0:x1.cell? ⟨w.heap.size,0,none⟩ = some (.int .u8 13):=hX1.mc_kind
 have hc:=rdop_any p x1 s1 h1
 rw [e2] at hc
 replace hc:Hid _:=hc
 clear h1
 go_wp2_with (first
  | fail)
 clear x0
 try rw [hx1]
 clear hx1 hcell hfree
 refine Calls.mono hc.out ?_
 rintro en y2 ⟨he,h2,o2⟩
 replace he:en = .returned (.agg (opC v2)):=he
 subst he
 clear hc
 replace hX1:=o2.has hX1 hXp
 replace hY1:=o2.has hY1 hYp
 replace o1:Hid (OffP p w y2):=o1.out.trans o2
 have ht:=hX1.there 123 6 (show 123 + 6 ≤ 131 by decide)
 have hX2:=(show Has y2 w.heap.size 48 (msgL ⟨13,f,t,e,bal0,bal0,false,inc0,v1 % 256,st0,diff0,ent0,0,op0,res0⟩ none 0 none 0 none 0).toArray from hX1).putCells (opL v2) 123 (show 123 + 6 ≤ 131 by decide)
 rw [xhg] at hX2
 have hY2:=hY1.cells_other (show w.heap.size + 1 ≠ w.heap.size by omega) (opL v2) 123
 obtain ⟨x2,hx2⟩:∃ W,y2.setCells w.heap.size 123 (opL v2) = W:=⟨_,rfl⟩
 rw [hx2] at hX2 hY2
 have h3:RdI p x2 s2:=by rw [← hx2];exact h2.other (xap _ _) (by show p < w.heap.size;omega)
 have o3:Hid (OffP p w x2):=by rw [← hx2];exact o1.out.fresh (xap _ _) (by show w.heap.size ≤ w.heap.size;omega)
 clear h2 o2 hX1 hY1 o1
 have hX1:=hX2
 have hY1:=hY2
 have h1:=h3
 have o1:=o3
 clear hX2 hY2 h3 o3
 have x0:x2.cell? ⟨w.heap.size,0,none⟩ = some (.int .u8 13):=hX1.mc_kind
 have hE:Hid (BodyR p w (bodyZ 13 f t e s) (.returned (.agg (msgC ⟨13,f,t,e,bal0,bal0,false,inc0,v1 % 256,st0,diff0,ent0,0,v2,res0⟩ none 0 none 0 none 0))) (x2.setRow (w.heap.size + 1) (msgC ⟨13,f,t,e,bal0,bal0,false,inc0,v1 % 256,st0,diff0,ent0,0,v2,res0⟩ none 0 none 0 none 0))):=by
  refine ⟨_,_,_,_,_,_,by rw [hZ.out],?_,?_,?_,?_⟩
  ·rw [hZ.out];exact ⟨Sl.nothing _ _,Sl.nothing _ _,Sl.nothing _ _⟩
  ·exact ⟨(fun _ z=>by cases z),(fun _ z=>by cases z),(fun _ z=>by cases z)⟩
  ·rw [hZ.out];exact h1.other (xbb _ _) (by omega)
  ·exact o1.out.fresh (xbb _ _) (by omega)
 have hRf:=hY1.row (msgC ⟨13,f,t,e,bal0,bal0,false,inc0,v1 % 256,st0,diff0,ent0,0,v2,res0⟩ none 0 none 0 none 0)
 clear h1 o1 hZ
 go_wp2_with (first
  | (refine xak (by rfl) 39 _ _ rfl w.heap.size 123 (opC v2) rfl rfl ?ht (xca _) (op_one _) ?_;(case ht=>exact ht);rw [show y2.setCells w.heap.size 123 (opC v2).toList = x2 from hx2];clear hx2 ht)
  | (refine xab (by rfl) 48 _ rfl w.heap.size rfl 48 (msgC ⟨13,f,t,e,bal0,bal0,false,inc0,v1 % 256,st0,diff0,ent0,0,v2,res0⟩ none 0 none 0 none 0) _ Tryz.underlying48 rfl (xah _ _ _ _ _ _ _) ?hg ?_;(case hg=>(try rw [hx2]);exact hX1))
  | (refine xai (by rfl) 48 _ _ rfl (w.heap.size + 1) rfl (msgC ⟨13,f,t,e,bal0,bal0,false,inc0,v1 % 256,st0,diff0,ent0,0,v2,res0⟩ none 0 none 0 none 0) rfl 48 (msgC msg0 none 0 none 0 none 0) (xah _ _ _ _ _ _ _) (xbe _ _ _ _ _ _ _ _ _ _ _ _ _ _) (xbn _ _ _ _ _ _ _) ?hg _ rfl ?_;(case hg=>(try rw [hx2]);exact hY1);(try rw [hx2]))
  | fail)
 exact xba rfl (w.heap.size + 1) rfl 48 (msgC ⟨13,f,t,e,bal0,bal0,false,inc0,v1 % 256,st0,diff0,ent0,0,v2,res0⟩ none 0 none 0 none 0) _ Tryz.underlying48 rfl (xah _ _ _ _ _ _ _) hRf rfl hE.out
set_option maxHeartbeats 16000000 in
theorem grp_14 (f t e p:Nat) (w:World) (s:RS) (hr:RdI p w s):Calls Tryz.prog 97 #[.pointer (some ⟨p,0,none⟩),.agg (msgC ⟨14,f,t,e,bal0,bal0,false,inc0,0,st0,diff0,ent0,0,op0,res0⟩ none 0 none 0 none 0)] w (BodyR p w (bodyZ 14 f t e s)):=by
 have hp:=hr.lt
 obtain ⟨w1,hw1,hX1,hY1,hb1⟩:=xbl w 48 48 (msgC ⟨14,f,t,e,bal0,bal0,false,inc0,0,st0,diff0,ent0,0,op0,res0⟩ none 0 none 0 none 0) (msgC msg0 none 0 none 0 none 0)
 have h1:=hr.later hb1
 have o1:Hid (OffP p w w1):=OffF.of hb1
 have hXp:w.heap.size ≠ p:=by omega
 have hYp:w.heap.size + 1 ≠ p:=by omega
 have hgl1:w.heap.size < w1.heap.size:=hX1.lt
 have x0:w1.cell? ⟨w.heap.size,0,none⟩ = some (.int .u8 14):=hX1.mc_kind
 obtain ⟨v1,s1,e1⟩:∃ n s',numZ 1 s = (n,s'):=⟨_,_,rfl⟩
 obtain ⟨v2,s2,e2⟩:∃ n s',opZ s1 = (n,s'):=⟨_,_,rfl⟩
 have hZ:Hid (bodyZ 14 f t e s = (⟨14,f,t,e,bal0,bal0,false,inc0,v1 % 256,st0,diff0,ent0,0,v2,res0⟩,s2)):=by
  show _ = _
  simp only [bodyZ,hasZ,resZ,difZ,smallZ,oneZ,fourZ,Rd.bind,Rd.ret,e1,e2]
 clear hr hb1
 go_enter Tryz.func97,Tryz.ntmps97
 have hc:=xbu p 1 w1 s h1 (by decide) (by decide)
 rw [e1] at hc
 replace hc:Hid _:=hc
 clear h1
 go_wp2_with (first
  | (refine xac (by rfl) 48 rfl (msgC msg0 none 0 none 0 none 0) xbg ?_;rw [hw1];clear hw1)
  | fail)
 clear x0
 refine Calls.mono hc.out ?_
 rintro en y1 ⟨he,h2,o2⟩
 replace he:en = .returned (.int .u64 (v1:Nat)):=he
 subst he
 clear hc
 replace hX1:=o2.has hX1 hXp
 replace hY1:=o2.has hY1 hYp
 replace o1:Hid (OffP p w y1):=o1.out.trans o2
 have hcell:∃ v,y1.cell? ⟨w.heap.size,12,none⟩ = some v:=⟨_,(hX1.cell 12).trans rfl⟩
 obtain ⟨u1,hcell⟩:=hcell
 have hfree:=hX1.free 12
 obtain ⟨x1,hx1⟩:∃ W,y1.setCell ⟨w.heap.size,12,none⟩ (.int .u8 ((v1:Int) % 256)) = W:=⟨_,rfl⟩
 have hX2:Has x1 w.heap.size 48 (msgC ⟨14,f,t,e,bal0,bal0,false,inc0,v1 % 256,st0,diff0,ent0,0,op0,res0⟩ none 0 none 0 none 0):=by
  rw [← hx1]
  have z:=hX1.set 12 (.int .u8 ((v1:Int) % 256))
  rw [modn1] at z
  exact z
 have hY2:Has x1 (w.heap.size + 1) 48 (msgC msg0 none 0 none 0 none 0):=by rw [← hx1];exact hY1.set_other (a:=⟨w.heap.size,12,none⟩) (show w.heap.size + 1 ≠ w.heap.size by omega) _
 have h3:RdI p x1 s1:=by rw [← hx1];exact h2.other (xaq _ _ _) (by show p < w.heap.size;omega)
 have o3:Hid (OffP p w x1):=by rw [← hx1];exact o1.out.fresh (xaq _ _ _) (by show w.heap.size ≤ w.heap.size;omega)
 clear h2 o2 hX1 hY1 o1
 have hX1:=hX2
 have hY1:=hY2
 have h1:=h3
 have o1:=o3
 clear hX2 hY2 h3 o3
 have x0:x1.cell? ⟨w.heap.size,0,none⟩ = some (.int .u8 14):=hX1.mc_kind
 have hc:=rdop_any p x1 s1 h1
 rw [e2] at hc
 replace hc:Hid _:=hc
 clear h1
 go_wp2_with (first
  | fail)
 clear x0
 try rw [hx1]
 clear hx1 hcell hfree
 refine Calls.mono hc.out ?_
 rintro en y2 ⟨he,h2,o2⟩
 replace he:en = .returned (.agg (opC v2)):=he
 subst he
 clear hc
 replace hX1:=o2.has hX1 hXp
 replace hY1:=o2.has hY1 hYp
 replace o1:Hid (OffP p w y2):=o1.out.trans o2
 have ht:=hX1.there 123 6 (show 123 + 6 ≤ 131 by decide)
 have hX2:=(show Has y2 w.heap.size 48 (msgL ⟨14,f,t,e,bal0,bal0,false,inc0,v1 % 256,st0,diff0,ent0,0,op0,res0⟩ none 0 none 0 none 0).toArray from hX1).putCells (opL v2) 123 (show 123 + 6 ≤ 131 by decide)
 rw [xhg] at hX2
 have hY2:=hY1.cells_other (show w.heap.size + 1 ≠ w.heap.size by omega) (opL v2) 123
 obtain ⟨x2,hx2⟩:∃ W,y2.setCells w.heap.size 123 (opL v2) = W:=⟨_,rfl⟩
 rw [hx2] at hX2 hY2
 have h3:RdI p x2 s2:=by rw [← hx2];exact h2.other (xap _ _) (by show p < w.heap.size;omega)
 have o3:Hid (OffP p w x2):=by rw [← hx2];exact o1.out.fresh (xap _ _) (by show w.heap.size ≤ w.heap.size;omega)
 clear h2 o2 hX1 hY1 o1
 have hX1:=hX2
 have hY1:=hY2
 have h1:=h3
 have o1:=o3
 clear hX2 hY2 h3 o3
 have x0:x2.cell? ⟨w.heap.size,0,none⟩ = some (.int .u8 14):=hX1.mc_kind
 have hE:Hid (BodyR p w (bodyZ 14 f t e s) (.returned (.agg (msgC ⟨14,f,t,e,bal0,bal0,false,inc0,v1 % 256,st0,diff0,ent0,0,v2,res0⟩ none 0 none 0 none 0))) (x2.setRow (w.heap.size + 1) (msgC ⟨14,f,t,e,bal0,bal0,false,inc0,v1 % 256,st0,diff0,ent0,0,v2,res0⟩ none 0 none 0 none 0))):=by
  refine ⟨_,_,_,_,_,_,by rw [hZ.out],?_,?_,?_,?_⟩
  ·rw [hZ.out];exact ⟨Sl.nothing _ _,Sl.nothing _ _,Sl.nothing _ _⟩
  ·exact ⟨(fun _ z=>by cases z),(fun _ z=>by cases z),(fun _ z=>by cases z)⟩
  ·rw [hZ.out];exact h1.other (xbb _ _) (by omega)
  ·exact o1.out.fresh (xbb _ _) (by omega)
 have hRf:=hY1.row (msgC ⟨14,f,t,e,bal0,bal0,false,inc0,v1 % 256,st0,diff0,ent0,0,v2,res0⟩ none 0 none 0 none 0)
 clear h1 o1 hZ
 go_wp2_with (first
  | (refine xak (by rfl) 39 _ _ rfl w.heap.size 123 (opC v2) rfl rfl ?ht (xca _) (op_one _) ?_;(case ht=>exact ht);rw [show y2.setCells w.heap.size 123 (opC v2).toList = x2 from hx2];clear hx2 ht)
  | (refine xab (by rfl) 48 _ rfl w.heap.size rfl 48 (msgC ⟨14,f,t,e,bal0,bal0,false,inc0,v1 % 256,st0,diff0,ent0,0,v2,res0⟩ none 0 none 0 none 0) _ Tryz.underlying48 rfl (xah _ _ _ _ _ _ _) ?hg ?_;(case hg=>(try rw [hx2]);exact hX1))
  | (refine xai (by rfl) 48 _ _ rfl (w.heap.size + 1) rfl (msgC ⟨14,f,t,e,bal0,bal0,false,inc0,v1 % 256,st0,diff0,ent0,0,v2,res0⟩ none 0 none 0 none 0) rfl 48 (msgC msg0 none 0 none 0 none 0) (xah _ _ _ _ _ _ _) (xbe _ _ _ _ _ _ _ _ _ _ _ _ _ _) (xbn _ _ _ _ _ _ _) ?hg _ rfl ?_;(case hg=>(try rw [hx2]);exact hY1);(try rw [hx2]))
  | fail)
 exact xba rfl (w.heap.size + 1) rfl 48 (msgC ⟨14,f,t,e,bal0,bal0,false,inc0,v1 % 256,st0,diff0,ent0,0,v2,res0⟩ none 0 none 0 none 0) _ Tryz.underlying48 rfl (xah _ _ _ _ _ _ _) hRf rfl hE.out
set_option maxHeartbeats 16000000 in
theorem grp_else (k f t e p:Nat) (w:World) (s:RS) (hk:k < 256) (hn:¬ (1 ≤ k ∧ k ≤ 18)) (hr:RdI p w s):Calls Tryz.prog 97 #[.pointer (some ⟨p,0,none⟩),.agg (msgC ⟨k,f,t,e,bal0,bal0,false,inc0,0,st0,diff0,ent0,0,op0,res0⟩ none 0 none 0 none 0)] w (BodyR p w (grpZ k f t e s)):=by
 have hp:=hr.lt
 obtain ⟨w1,hw1,hX1,hY1,hb1⟩:=xbl w 48 48 (msgC ⟨k,f,t,e,bal0,bal0,false,inc0,0,st0,diff0,ent0,0,op0,res0⟩ none 0 none 0 none 0) (msgC msg0 none 0 none 0 none 0)
 have h1:=hr.later hb1
 have o1:Hid (OffP p w w1):=OffF.of hb1
 have hXp:w.heap.size ≠ p:=by omega
 have hYp:w.heap.size + 1 ≠ p:=by omega
 have hgl1:w.heap.size < w1.heap.size:=hX1.lt
 have x0:w1.cell? ⟨w.heap.size,0,none⟩ = some (.int .u8 (k:Int)):=hX1.mc_kind
 have k8:¬ (k:Int) = 8:=by omega
 have k9:¬ (k:Int) = 9:=by omega
 have k10:¬ (k:Int) = 10:=by omega
 have k11:¬ (k:Int) = 11:=by omega
 have k12:¬ (k:Int) = 12:=by omega
 have k13:¬ (k:Int) = 13:=by omega
 have k14:¬ (k:Int) = 14:=by omega
 have q8:((k:Int) == 8) = false:=by rw [beq_eq_false_iff_ne];exact k8
 have q9:((k:Int) == 9) = false:=by rw [beq_eq_false_iff_ne];exact k9
 have q10:((k:Int) == 10) = false:=by rw [beq_eq_false_iff_ne];exact k10
 have q11:((k:Int) == 11) = false:=by rw [beq_eq_false_iff_ne];exact k11
 have q12:((k:Int) == 12) = false:=by rw [beq_eq_false_iff_ne];exact k12
 have q13:((k:Int) == 13) = false:=by rw [beq_eq_false_iff_ne];exact k13
 have q14:((k:Int) == 14) = false:=by rw [beq_eq_false_iff_ne];exact k14
 clear hn
 obtain ⟨v1,s1,e1⟩:∃ n s',numZ 1 s = (n,s'):=⟨_,_,rfl⟩
 have hZ:Hid (grpZ k f t e s = (⟨k,f,t,e,bal0,bal0,false,inc0,v1 % 256,st0,diff0,ent0,0,op0,res0⟩,s1)):=by
  show _ = _
  simp only [grpZ,hasZ,resZ,difZ,smallZ,oneZ,fourZ,Rd.bind,Rd.ret,e1]
 clear hr hb1
 go_enter Tryz.func97,Tryz.ntmps97
 have hc:=xbu p 1 w1 s h1 (by decide) (by decide)
 rw [e1] at hc
 replace hc:Hid _:=hc
 clear h1
 go_wp2_with (first
  | (refine xac (by rfl) 48 rfl (msgC msg0 none 0 none 0 none 0) xbg ?_;rw [hw1];clear hw1)
  | fail)
 clear x0
 refine Calls.mono hc.out ?_
 rintro en y1 ⟨he,h2,o2⟩
 replace he:en = .returned (.int .u64 (v1:Nat)):=he
 subst he
 clear hc
 replace hX1:=o2.has hX1 hXp
 replace hY1:=o2.has hY1 hYp
 replace o1:Hid (OffP p w y1):=o1.out.trans o2
 have hcell:∃ v,y1.cell? ⟨w.heap.size,12,none⟩ = some v:=⟨_,(hX1.cell 12).trans rfl⟩
 obtain ⟨u1,hcell⟩:=hcell
 have hfree:=hX1.free 12
 obtain ⟨x1,hx1⟩:∃ W,y1.setCell ⟨w.heap.size,12,none⟩ (.int .u8 ((v1:Int) % 256)) = W:=⟨_,rfl⟩
 have hX2:Has x1 w.heap.size 48 (msgC ⟨k,f,t,e,bal0,bal0,false,inc0,v1 % 256,st0,diff0,ent0,0,op0,res0⟩ none 0 none 0 none 0):=by
  rw [← hx1]
  have z:=hX1.set 12 (.int .u8 ((v1:Int) % 256))
  rw [modn1] at z
  exact z
 have hY2:Has x1 (w.heap.size + 1) 48 (msgC msg0 none 0 none 0 none 0):=by rw [← hx1];exact hY1.set_other (a:=⟨w.heap.size,12,none⟩) (show w.heap.size + 1 ≠ w.heap.size by omega) _
 have h3:RdI p x1 s1:=by rw [← hx1];exact h2.other (xaq _ _ _) (by show p < w.heap.size;omega)
 have o3:Hid (OffP p w x1):=by rw [← hx1];exact o1.out.fresh (xaq _ _ _) (by show w.heap.size ≤ w.heap.size;omega)
 clear h2 o2 hX1 hY1 o1
 have hX1:=hX2
 have hY1:=hY2
 have h1:=h3
 have o1:=o3
 clear hX2 hY2 h3 o3
 have x0:x1.cell? ⟨w.heap.size,0,none⟩ = some (.int .u8 (k:Int)):=hX1.mc_kind
 have hE:Hid (BodyR p w (grpZ k f t e s) (.returned (.agg (msgC ⟨k,f,t,e,bal0,bal0,false,inc0,v1 % 256,st0,diff0,ent0,0,op0,res0⟩ none 0 none 0 none 0))) (x1.setRow (w.heap.size + 1) (msgC ⟨k,f,t,e,bal0,bal0,false,inc0,v1 % 256,st0,diff0,ent0,0,op0,res0⟩ none 0 none 0 none 0))):=by
  refine ⟨_,_,_,_,_,_,by rw [hZ.out],?_,?_,?_,?_⟩
  ·rw [hZ.out];exact ⟨Sl.nothing _ _,Sl.nothing _ _,Sl.nothing _ _⟩
  ·exact ⟨(fun _ z=>by cases z),(fun _ z=>by cases z),(fun _ z=>by cases z)⟩
  ·rw [hZ.out];exact h1.other (xbb _ _) (by omega)
  ·exact o1.out.fresh (xbb _ _) (by omega)
 have hRf:=hY1.row (msgC ⟨k,f,t,e,bal0,bal0,false,inc0,v1 % 256,st0,diff0,ent0,0,op0,res0⟩ none 0 none 0 none 0)
 clear h1 o1 hZ
 go_wp2_with (first
  | (refine xab (by rfl) 48 _ rfl w.heap.size rfl 48 (msgC ⟨k,f,t,e,bal0,bal0,false,inc0,v1 % 256,st0,diff0,ent0,0,op0,res0⟩ none 0 none 0 none 0) _ Tryz.underlying48 rfl (xah _ _ _ _ _ _ _) ?hg ?_;(case hg=>(try rw [hx1]);exact hX1))
  | (refine xai (by rfl) 48 _ _ rfl (w.heap.size + 1) rfl (msgC ⟨k,f,t,e,bal0,bal0,false,inc0,v1 % 256,st0,diff0,ent0,0,op0,res0⟩ none 0 none 0 none 0) rfl 48 (msgC msg0 none 0 none 0 none 0) (xah _ _ _ _ _ _ _) (xbe _ _ _ _ _ _ _ _ _ _ _ _ _ _) (xbn _ _ _ _ _ _ _) ?hg _ rfl ?_;(case hg=>(try rw [hx1]);exact hY1);(try rw [hx1]))
  | fail)
 exact xba rfl (w.heap.size + 1) rfl 48 (msgC ⟨k,f,t,e,bal0,bal0,false,inc0,v1 % 256,st0,diff0,ent0,0,op0,res0⟩ none 0 none 0 none 0) _ Tryz.underlying48 rfl (xah _ _ _ _ _ _ _) hRf rfl hE.out
set_option maxHeartbeats 16000000 in
theorem rbody_1 (f t e p:Nat) (w:World) (s:RS) (hr:RdI p w s):Calls Tryz.prog 57 #[.pointer (some ⟨p,0,none⟩),.agg (msgC ⟨1,f,t,e,bal0,bal0,false,inc0,0,st0,diff0,ent0,0,op0,res0⟩ none 0 none 0 none 0)] w (BodyR p w (bodyZ 1 f t e s)):=by
 have hp:=hr.lt
 obtain ⟨w1,hw1,hX1,hY1,hb1⟩:=xbl w 48 48 (msgC ⟨1,f,t,e,bal0,bal0,false,inc0,0,st0,diff0,ent0,0,op0,res0⟩ none 0 none 0 none 0) (msgC msg0 none 0 none 0 none 0)
 have h1:=hr.later hb1
 have o1:Hid (OffP p w w1):=OffF.of hb1
 have hXp:w.heap.size ≠ p:=by omega
 have hYp:w.heap.size + 1 ≠ p:=by omega
 have hgl1:w.heap.size < w1.heap.size:=hX1.lt
 have x0:w1.cell? ⟨w.heap.size,0,none⟩ = some (.int .u8 1):=hX1.mc_kind
 obtain ⟨v1,s1,e1⟩:∃ n s',balZ s = (n,s'):=⟨_,_,rfl⟩
 have hZ:Hid (bodyZ 1 f t e s = (⟨1,f,t,e,v1,bal0,false,inc0,0,st0,diff0,ent0,0,op0,res0⟩,s1)):=by
  show _ = _
  simp only [bodyZ,hasZ,resZ,difZ,smallZ,oneZ,fourZ,Rd.bind,Rd.ret,e1]
 clear hr hb1
 go_enter Tryz.func57,Tryz.ntmps57
 have hc:=xgx p w1 s h1
 rw [e1] at hc
 replace hc:Hid _:=hc
 clear h1
 go_wp2_with (first
  | (refine xac (by rfl) 48 rfl (msgC msg0 none 0 none 0 none 0) xbg ?_;rw [hw1];clear hw1)
  | fail)
 clear x0
 refine Calls.mono hc.out ?_
 rintro en y1 ⟨he,h2,o2⟩
 replace he:en = .returned (.agg (balC v1)):=he
 subst he
 clear hc
 replace hX1:=o2.has hX1 hXp
 replace hY1:=o2.has hY1 hYp
 replace o1:Hid (OffP p w y1):=o1.out.trans o2
 have ht:=hX1.there 4 2 (show 4 + 2 ≤ 131 by decide)
 have hX2:=(show Has y1 w.heap.size 48 (msgL ⟨1,f,t,e,bal0,bal0,false,inc0,0,st0,diff0,ent0,0,op0,res0⟩ none 0 none 0 none 0).toArray from hX1).putCells (balC v1).toList 4 (show 4 + 2 ≤ 131 by decide)
 rw [mput_b] at hX2
 have hY2:=hY1.cells_other (show w.heap.size + 1 ≠ w.heap.size by omega) (balC v1).toList 4
 obtain ⟨x1,hx1⟩:∃ W,y1.setCells w.heap.size 4 (balC v1).toList = W:=⟨_,rfl⟩
 rw [hx1] at hX2 hY2
 have h3:RdI p x1 s1:=by rw [← hx1];exact h2.other (xap _ _) (by show p < w.heap.size;omega)
 have o3:Hid (OffP p w x1):=by rw [← hx1];exact o1.out.fresh (xap _ _) (by show w.heap.size ≤ w.heap.size;omega)
 clear h2 o2 hX1 hY1 o1
 have hX1:=hX2
 have hY1:=hY2
 have h1:=h3
 have o1:=o3
 clear hX2 hY2 h3 o3
 have x0:x1.cell? ⟨w.heap.size,0,none⟩ = some (.int .u8 1):=hX1.mc_kind
 have hE:Hid (BodyR p w (bodyZ 1 f t e s) (.returned (.agg (msgC ⟨1,f,t,e,v1,bal0,false,inc0,0,st0,diff0,ent0,0,op0,res0⟩ none 0 none 0 none 0))) (x1.setRow (w.heap.size + 1) (msgC ⟨1,f,t,e,v1,bal0,false,inc0,0,st0,diff0,ent0,0,op0,res0⟩ none 0 none 0 none 0))):=by
  refine ⟨_,_,_,_,_,_,by rw [hZ.out],?_,?_,?_,?_⟩
  ·rw [hZ.out];exact ⟨Sl.nothing _ _,Sl.nothing _ _,Sl.nothing _ _⟩
  ·exact ⟨(fun _ z=>by cases z),(fun _ z=>by cases z),(fun _ z=>by cases z)⟩
  ·rw [hZ.out];exact h1.other (xbb _ _) (by omega)
  ·exact o1.out.fresh (xbb _ _) (by omega)
 have hRf:=hY1.row (msgC ⟨1,f,t,e,v1,bal0,false,inc0,0,st0,diff0,ent0,0,op0,res0⟩ none 0 none 0 none 0)
 clear h1 o1 hZ
 go_wp2_with (first
  | (refine xak (by rfl) 24 _ _ rfl w.heap.size 4 (balC v1) rfl rfl ?ht (xfm _) (xhd _) ?_;(case ht=>exact ht);rw [show y1.setCells w.heap.size 4 (balC v1).toList = x1 from hx1];clear hx1 ht)
  | (refine xab (by rfl) 48 _ rfl w.heap.size rfl 48 (msgC ⟨1,f,t,e,v1,bal0,false,inc0,0,st0,diff0,ent0,0,op0,res0⟩ none 0 none 0 none 0) _ Tryz.underlying48 rfl (xah _ _ _ _ _ _ _) ?hg ?_;(case hg=>(try rw [hx1]);exact hX1))
  | (refine xai (by rfl) 48 _ _ rfl (w.heap.size + 1) rfl (msgC ⟨1,f,t,e,v1,bal0,false,inc0,0,st0,diff0,ent0,0,op0,res0⟩ none 0 none 0 none 0) rfl 48 (msgC msg0 none 0 none 0 none 0) (xah _ _ _ _ _ _ _) (xbe _ _ _ _ _ _ _ _ _ _ _ _ _ _) (xbn _ _ _ _ _ _ _) ?hg _ rfl ?_;(case hg=>(try rw [hx1]);exact hY1);(try rw [hx1]))
  | fail)
 exact xba rfl (w.heap.size + 1) rfl 48 (msgC ⟨1,f,t,e,v1,bal0,false,inc0,0,st0,diff0,ent0,0,op0,res0⟩ none 0 none 0 none 0) _ Tryz.underlying48 rfl (xah _ _ _ _ _ _ _) hRf rfl hE.out
set_option maxHeartbeats 16000000 in
theorem rbody_2 (f t e p:Nat) (w:World) (s:RS) (hr:RdI p w s):Calls Tryz.prog 57 #[.pointer (some ⟨p,0,none⟩),.agg (msgC ⟨2,f,t,e,bal0,bal0,false,inc0,0,st0,diff0,ent0,0,op0,res0⟩ none 0 none 0 none 0)] w (BodyR p w (bodyZ 2 f t e s)):=by
 have hp:=hr.lt
 obtain ⟨w1,hw1,hX1,hY1,hb1⟩:=xbl w 48 48 (msgC ⟨2,f,t,e,bal0,bal0,false,inc0,0,st0,diff0,ent0,0,op0,res0⟩ none 0 none 0 none 0) (msgC msg0 none 0 none 0 none 0)
 have h1:=hr.later hb1
 have o1:Hid (OffP p w w1):=OffF.of hb1
 have hXp:w.heap.size ≠ p:=by omega
 have hYp:w.heap.size + 1 ≠ p:=by omega
 have hgl1:w.heap.size < w1.heap.size:=hX1.lt
 have x0:w1.cell? ⟨w.heap.size,0,none⟩ = some (.int .u8 2):=hX1.mc_kind
 obtain ⟨v1,s1,e1⟩:∃ n s',balZ s = (n,s'):=⟨_,_,rfl⟩
 obtain ⟨v2,s2,e2⟩:∃ n s',balZ s1 = (n,s'):=⟨_,_,rfl⟩
 obtain ⟨v3,s3,e3⟩:∃ n s',numZ 1 s2 = (n,s'):=⟨_,_,rfl⟩
 obtain ⟨v4,s4,e4⟩:∃ n s',incZ s3 = (n,s'):=⟨_,_,rfl⟩
 have hZ:Hid (bodyZ 2 f t e s = (⟨2,f,t,e,v1,v2,decide (v3 = 1),v4,0,st0,diff0,ent0,0,op0,res0⟩,s4)):=by
  show _ = _
  simp only [bodyZ,hasZ,resZ,difZ,smallZ,oneZ,fourZ,Rd.bind,Rd.ret,e1,e2,e3,e4]
 clear hr hb1
 go_enter Tryz.func57,Tryz.ntmps57
 have hc:=xgx p w1 s h1
 rw [e1] at hc
 replace hc:Hid _:=hc
 clear h1
 go_wp2_with (first
  | (refine xac (by rfl) 48 rfl (msgC msg0 none 0 none 0 none 0) xbg ?_;rw [hw1];clear hw1)
  | fail)
 clear x0
 refine Calls.mono hc.out ?_
 rintro en y1 ⟨he,h2,o2⟩
 replace he:en = .returned (.agg (balC v1)):=he
 subst he
 clear hc
 replace hX1:=o2.has hX1 hXp
 replace hY1:=o2.has hY1 hYp
 replace o1:Hid (OffP p w y1):=o1.out.trans o2
 have ht:=hX1.there 4 2 (show 4 + 2 ≤ 131 by decide)
 have hX2:=(show Has y1 w.heap.size 48 (msgL ⟨2,f,t,e,bal0,bal0,false,inc0,0,st0,diff0,ent0,0,op0,res0⟩ none 0 none 0 none 0).toArray from hX1).putCells (balC v1).toList 4 (show 4 + 2 ≤ 131 by decide)
 rw [mput_b] at hX2
 have hY2:=hY1.cells_other (show w.heap.size + 1 ≠ w.heap.size by omega) (balC v1).toList 4
 obtain ⟨x1,hx1⟩:∃ W,y1.setCells w.heap.size 4 (balC v1).toList = W:=⟨_,rfl⟩
 rw [hx1] at hX2 hY2
 have h3:RdI p x1 s1:=by rw [← hx1];exact h2.other (xap _ _) (by show p < w.heap.size;omega)
 have o3:Hid (OffP p w x1):=by rw [← hx1];exact o1.out.fresh (xap _ _) (by show w.heap.size ≤ w.heap.size;omega)
 clear h2 o2 hX1 hY1 o1
 have hX1:=hX2
 have hY1:=hY2
 have h1:=h3
 have o1:=o3
 clear hX2 hY2 h3 o3
 have x0:x1.cell? ⟨w.heap.size,0,none⟩ = some (.int .u8 2):=hX1.mc_kind
 have hc:=xgx p x1 s1 h1
 rw [e2] at hc
 replace hc:Hid _:=hc
 clear h1
 go_wp2_with (first
  | (refine xak (by rfl) 24 _ _ rfl w.heap.size 4 (balC v1) rfl rfl ?ht (xfm _) (xhd _) ?_;(case ht=>exact ht);rw [show y1.setCells w.heap.size 4 (balC v1).toList = x1 from hx1];clear hx1 ht)
  | fail)
 clear x0
 refine Calls.mono hc.out ?_
 rintro en y2 ⟨he,h2,o2⟩
 replace he:en = .returned (.agg (balC v2)):=he
 subst he
 clear hc
 replace hX1:=o2.has hX1 hXp
 replace hY1:=o2.has hY1 hYp
 replace o1:Hid (OffP p w y2):=o1.out.trans o2
 have ht:=hX1.there 6 2 (show 6 + 2 ≤ 131 by decide)
 have hX2:=(show Has y2 w.heap.size 48 (msgL ⟨2,f,t,e,v1,bal0,false,inc0,0,st0,diff0,ent0,0,op0,res0⟩ none 0 none 0 none 0).toArray from hX1).putCells (balC v2).toList 6 (show 6 + 2 ≤ 131 by decide)
 rw [mput_acc] at hX2
 have hY2:=hY1.cells_other (show w.heap.size + 1 ≠ w.heap.size by omega) (balC v2).toList 6
 obtain ⟨x2,hx2⟩:∃ W,y2.setCells w.heap.size 6 (balC v2).toList = W:=⟨_,rfl⟩
 rw [hx2] at hX2 hY2
 have h3:RdI p x2 s2:=by rw [← hx2];exact h2.other (xap _ _) (by show p < w.heap.size;omega)
 have o3:Hid (OffP p w x2):=by rw [← hx2];exact o1.out.fresh (xap _ _) (by show w.heap.size ≤ w.heap.size;omega)
 clear h2 o2 hX1 hY1 o1
 have hX1:=hX2
 have hY1:=hY2
 have h1:=h3
 have o1:=o3
 clear hX2 hY2 h3 o3
 have x0:x2.cell? ⟨w.heap.size,0,none⟩ = some (.int .u8 2):=hX1.mc_kind
 have hc:=xbu p 1 x2 s2 h1 (by decide) (by decide)
 rw [e3] at hc
 replace hc:Hid _:=hc
 clear h1
 go_wp2_with (first
  | (refine xak (by rfl) 24 _ _ rfl w.heap.size 6 (balC v2) rfl rfl ?ht (xfm _) (xhd _) ?_;(case ht=>exact ht);rw [show y2.setCells w.heap.size 6 (balC v2).toList = x2 from hx2];clear hx2 ht)
  | fail)
 clear x0
 refine Calls.mono hc.out ?_
 rintro en y3 ⟨he,h2,o2⟩
 replace he:en = .returned (.int .u64 (v3:Nat)):=he
 subst he
 clear hc
 replace hX1:=o2.has hX1 hXp
 replace hY1:=o2.has hY1 hYp
 replace o1:Hid (OffP p w y3):=o1.out.trans o2
 have hcell:∃ v,y3.cell? ⟨w.heap.size,8,none⟩ = some v:=⟨_,(hX1.cell 8).trans rfl⟩
 obtain ⟨u3,hcell⟩:=hcell
 have hfree:=hX1.free 8
 obtain ⟨x3,hx3⟩:∃ W,y3.setCell ⟨w.heap.size,8,none⟩ (.bool ((v3:Int) == 1)) = W:=⟨_,rfl⟩
 have hX2:Has x3 w.heap.size 48 (msgC ⟨2,f,t,e,v1,v2,decide (v3 = 1),inc0,0,st0,diff0,ent0,0,op0,res0⟩ none 0 none 0 none 0):=by
  rw [← hx3]
  have z:=hX1.set 8 (.bool ((v3:Int) == 1))
  rw [int_eq1] at z ⊢
  exact z
 have hY2:Has x3 (w.heap.size + 1) 48 (msgC msg0 none 0 none 0 none 0):=by rw [← hx3];exact hY1.set_other (a:=⟨w.heap.size,8,none⟩) (show w.heap.size + 1 ≠ w.heap.size by omega) _
 have h3:RdI p x3 s3:=by rw [← hx3];exact h2.other (xaq _ _ _) (by show p < w.heap.size;omega)
 have o3:Hid (OffP p w x3):=by rw [← hx3];exact o1.out.fresh (xaq _ _ _) (by show w.heap.size ≤ w.heap.size;omega)
 clear h2 o2 hX1 hY1 o1
 have hX1:=hX2
 have hY1:=hY2
 have h1:=h3
 have o1:=o3
 clear hX2 hY2 h3 o3
 have x0:x3.cell? ⟨w.heap.size,0,none⟩ = some (.int .u8 2):=hX1.mc_kind
 have hc:=rdinc_any p x3 s3 h1
 rw [e4] at hc
 replace hc:Hid _:=hc
 clear h1
 go_wp2_with (first
  | fail)
 clear x0
 try rw [hx3]
 clear hx3 hcell hfree
 refine Calls.mono hc.out ?_
 rintro en y4 ⟨he,h2,o2⟩
 replace he:en = .returned (.agg (incC v4)):=he
 subst he
 clear hc
 replace hX1:=o2.has hX1 hXp
 replace hY1:=o2.has hY1 hYp
 replace o1:Hid (OffP p w y4):=o1.out.trans o2
 have ht:=hX1.there 9 3 (show 9 + 3 ≤ 131 by decide)
 have hX2:=(show Has y4 w.heap.size 48 (msgL ⟨2,f,t,e,v1,v2,decide (v3 = 1),inc0,0,st0,diff0,ent0,0,op0,res0⟩ none 0 none 0 none 0).toArray from hX1).putCells (incC v4).toList 9 (show 9 + 3 ≤ 131 by decide)
 rw [xhh] at hX2
 have hY2:=hY1.cells_other (show w.heap.size + 1 ≠ w.heap.size by omega) (incC v4).toList 9
 obtain ⟨x4,hx4⟩:∃ W,y4.setCells w.heap.size 9 (incC v4).toList = W:=⟨_,rfl⟩
 rw [hx4] at hX2 hY2
 have h3:RdI p x4 s4:=by rw [← hx4];exact h2.other (xap _ _) (by show p < w.heap.size;omega)
 have o3:Hid (OffP p w x4):=by rw [← hx4];exact o1.out.fresh (xap _ _) (by show w.heap.size ≤ w.heap.size;omega)
 clear h2 o2 hX1 hY1 o1
 have hX1:=hX2
 have hY1:=hY2
 have h1:=h3
 have o1:=o3
 clear hX2 hY2 h3 o3
 have x0:x4.cell? ⟨w.heap.size,0,none⟩ = some (.int .u8 2):=hX1.mc_kind
 have hE:Hid (BodyR p w (bodyZ 2 f t e s) (.returned (.agg (msgC ⟨2,f,t,e,v1,v2,decide (v3 = 1),v4,0,st0,diff0,ent0,0,op0,res0⟩ none 0 none 0 none 0))) (x4.setRow (w.heap.size + 1) (msgC ⟨2,f,t,e,v1,v2,decide (v3 = 1),v4,0,st0,diff0,ent0,0,op0,res0⟩ none 0 none 0 none 0))):=by
  refine ⟨_,_,_,_,_,_,by rw [hZ.out],?_,?_,?_,?_⟩
  ·rw [hZ.out];exact ⟨Sl.nothing _ _,Sl.nothing _ _,Sl.nothing _ _⟩
  ·exact ⟨(fun _ z=>by cases z),(fun _ z=>by cases z),(fun _ z=>by cases z)⟩
  ·rw [hZ.out];exact h1.other (xbb _ _) (by omega)
  ·exact o1.out.fresh (xbb _ _) (by omega)
 have hRf:=hY1.row (msgC ⟨2,f,t,e,v1,v2,decide (v3 = 1),v4,0,st0,diff0,ent0,0,op0,res0⟩ none 0 none 0 none 0)
 clear h1 o1 hZ
 go_wp2_with (first
  | (refine xak (by rfl) 26 _ _ rfl w.heap.size 9 (incC v4) rfl rfl ?ht (xfy _) (rinc_one _) ?_;(case ht=>exact ht);rw [show y4.setCells w.heap.size 9 (incC v4).toList = x4 from hx4];clear hx4 ht)
  | (refine xab (by rfl) 48 _ rfl w.heap.size rfl 48 (msgC ⟨2,f,t,e,v1,v2,decide (v3 = 1),v4,0,st0,diff0,ent0,0,op0,res0⟩ none 0 none 0 none 0) _ Tryz.underlying48 rfl (xah _ _ _ _ _ _ _) ?hg ?_;(case hg=>(try rw [hx4]);exact hX1))
  | (refine xai (by rfl) 48 _ _ rfl (w.heap.size + 1) rfl (msgC ⟨2,f,t,e,v1,v2,decide (v3 = 1),v4,0,st0,diff0,ent0,0,op0,res0⟩ none 0 none 0 none 0) rfl 48 (msgC msg0 none 0 none 0 none 0) (xah _ _ _ _ _ _ _) (xbe _ _ _ _ _ _ _ _ _ _ _ _ _ _) (xbn _ _ _ _ _ _ _) ?hg _ rfl ?_;(case hg=>(try rw [hx4]);exact hY1);(try rw [hx4]))
  | fail)
 exact xba rfl (w.heap.size + 1) rfl 48 (msgC ⟨2,f,t,e,v1,v2,decide (v3 = 1),v4,0,st0,diff0,ent0,0,op0,res0⟩ none 0 none 0 none 0) _ Tryz.underlying48 rfl (xah _ _ _ _ _ _ _) hRf rfl hE.out
set_option maxHeartbeats 16000000 in
theorem rbody_3 (f t e p:Nat) (w:World) (s:RS) (hr:RdI p w s):Calls Tryz.prog 57 #[.pointer (some ⟨p,0,none⟩),.agg (msgC ⟨3,f,t,e,bal0,bal0,false,inc0,0,st0,diff0,ent0,0,op0,res0⟩ none 0 none 0 none 0)] w (BodyR p w (bodyZ 3 f t e s)):=by
 have hp:=hr.lt
 obtain ⟨w1,hw1,hX1,hY1,hb1⟩:=xbl w 48 48 (msgC ⟨3,f,t,e,bal0,bal0,false,inc0,0,st0,diff0,ent0,0,op0,res0⟩ none 0 none 0 none 0) (msgC msg0 none 0 none 0 none 0)
 have h1:=hr.later hb1
 have o1:Hid (OffP p w w1):=OffF.of hb1
 have hXp:w.heap.size ≠ p:=by omega
 have hYp:w.heap.size + 1 ≠ p:=by omega
 have hgl1:w.heap.size < w1.heap.size:=hX1.lt
 have x0:w1.cell? ⟨w.heap.size,0,none⟩ = some (.int .u8 3):=hX1.mc_kind
 obtain ⟨v1,s1,e1⟩:∃ n s',balZ s = (n,s'):=⟨_,_,rfl⟩
 obtain ⟨v2,s2,e2⟩:∃ n s',incZ s1 = (n,s'):=⟨_,_,rfl⟩
 have hZ:Hid (bodyZ 3 f t e s = (⟨3,f,t,e,v1,bal0,false,v2,0,st0,diff0,ent0,0,op0,res0⟩,s2)):=by
  show _ = _
  simp only [bodyZ,hasZ,resZ,difZ,smallZ,oneZ,fourZ,Rd.bind,Rd.ret,e1,e2]
 clear hr hb1
 go_enter Tryz.func57,Tryz.ntmps57
 have hc:=xgx p w1 s h1
 rw [e1] at hc
 replace hc:Hid _:=hc
 clear h1
 go_wp2_with (first
  | (refine xac (by rfl) 48 rfl (msgC msg0 none 0 none 0 none 0) xbg ?_;rw [hw1];clear hw1)
  | fail)
 clear x0
 refine Calls.mono hc.out ?_
 rintro en y1 ⟨he,h2,o2⟩
 replace he:en = .returned (.agg (balC v1)):=he
 subst he
 clear hc
 replace hX1:=o2.has hX1 hXp
 replace hY1:=o2.has hY1 hYp
 replace o1:Hid (OffP p w y1):=o1.out.trans o2
 have ht:=hX1.there 4 2 (show 4 + 2 ≤ 131 by decide)
 have hX2:=(show Has y1 w.heap.size 48 (msgL ⟨3,f,t,e,bal0,bal0,false,inc0,0,st0,diff0,ent0,0,op0,res0⟩ none 0 none 0 none 0).toArray from hX1).putCells (balC v1).toList 4 (show 4 + 2 ≤ 131 by decide)
 rw [mput_b] at hX2
 have hY2:=hY1.cells_other (show w.heap.size + 1 ≠ w.heap.size by omega) (balC v1).toList 4
 obtain ⟨x1,hx1⟩:∃ W,y1.setCells w.heap.size 4 (balC v1).toList = W:=⟨_,rfl⟩
 rw [hx1] at hX2 hY2
 have h3:RdI p x1 s1:=by rw [← hx1];exact h2.other (xap _ _) (by show p < w.heap.size;omega)
 have o3:Hid (OffP p w x1):=by rw [← hx1];exact o1.out.fresh (xap _ _) (by show w.heap.size ≤ w.heap.size;omega)
 clear h2 o2 hX1 hY1 o1
 have hX1:=hX2
 have hY1:=hY2
 have h1:=h3
 have o1:=o3
 clear hX2 hY2 h3 o3
 have x0:x1.cell? ⟨w.heap.size,0,none⟩ = some (.int .u8 3):=hX1.mc_kind
 have hc:=rdinc_any p x1 s1 h1
 rw [e2] at hc
 replace hc:Hid _:=hc
 clear h1
 go_wp2_with (first
  | (refine xak (by rfl) 24 _ _ rfl w.heap.size 4 (balC v1) rfl rfl ?ht (xfm _) (xhd _) ?_;(case ht=>exact ht);rw [show y1.setCells w.heap.size 4 (balC v1).toList = x1 from hx1];clear hx1 ht)
  | fail)
 clear x0
 refine Calls.mono hc.out ?_
 rintro en y2 ⟨he,h2,o2⟩
 replace he:en = .returned (.agg (incC v2)):=he
 subst he
 clear hc
 replace hX1:=o2.has hX1 hXp
 replace hY1:=o2.has hY1 hYp
 replace o1:Hid (OffP p w y2):=o1.out.trans o2
 have ht:=hX1.there 9 3 (show 9 + 3 ≤ 131 by decide)
 have hX2:=(show Has y2 w.heap.size 48 (msgL ⟨3,f,t,e,v1,bal0,false,inc0,0,st0,diff0,ent0,0,op0,res0⟩ none 0 none 0 none 0).toArray from hX1).putCells (incC v2).toList 9 (show 9 + 3 ≤ 131 by decide)
 rw [xhh] at hX2
 have hY2:=hY1.cells_other (show w.heap.size + 1 ≠ w.heap.size by omega) (incC v2).toList 9
 obtain ⟨x2,hx2⟩:∃ W,y2.setCells w.heap.size 9 (incC v2).toList = W:=⟨_,rfl⟩
 rw [hx2] at hX2 hY2
 have h3:RdI p x2 s2:=by rw [← hx2];exact h2.other (xap _ _) (by show p < w.heap.size;omega)
 have o3:Hid (OffP p w x2):=by rw [← hx2];exact o1.out.fresh (xap _ _) (by show w.heap.size ≤ w.heap.size;omega)
 clear h2 o2 hX1 hY1 o1
 have hX1:=hX2
 have hY1:=hY2
 have h1:=h3
 have o1:=o3
 clear hX2 hY2 h3 o3
 have x0:x2.cell? ⟨w.heap.size,0,none⟩ = some (.int .u8 3):=hX1.mc_kind
 have hE:Hid (BodyR p w (bodyZ 3 f t e s) (.returned (.agg (msgC ⟨3,f,t,e,v1,bal0,false,v2,0,st0,diff0,ent0,0,op0,res0⟩ none 0 none 0 none 0))) (x2.setRow (w.heap.size + 1) (msgC ⟨3,f,t,e,v1,bal0,false,v2,0,st0,diff0,ent0,0,op0,res0⟩ none 0 none 0 none 0))):=by
  refine ⟨_,_,_,_,_,_,by rw [hZ.out],?_,?_,?_,?_⟩
  ·rw [hZ.out];exact ⟨Sl.nothing _ _,Sl.nothing _ _,Sl.nothing _ _⟩
  ·exact ⟨(fun _ z=>by cases z),(fun _ z=>by cases z),(fun _ z=>by cases z)⟩
  ·rw [hZ.out];exact h1.other (xbb _ _) (by omega)
  ·exact o1.out.fresh (xbb _ _) (by omega)
 have hRf:=hY1.row (msgC ⟨3,f,t,e,v1,bal0,false,v2,0,st0,diff0,ent0,0,op0,res0⟩ none 0 none 0 none 0)
 clear h1 o1 hZ
 go_wp2_with (first
  | (refine xak (by rfl) 26 _ _ rfl w.heap.size 9 (incC v2) rfl rfl ?ht (xfy _) (rinc_one _) ?_;(case ht=>exact ht);rw [show y2.setCells w.heap.size 9 (incC v2).toList = x2 from hx2];clear hx2 ht)
  | (refine xab (by rfl) 48 _ rfl w.heap.size rfl 48 (msgC ⟨3,f,t,e,v1,bal0,false,v2,0,st0,diff0,ent0,0,op0,res0⟩ none 0 none 0 none 0) _ Tryz.underlying48 rfl (xah _ _ _ _ _ _ _) ?hg ?_;(case hg=>(try rw [hx2]);exact hX1))
  | (refine xai (by rfl) 48 _ _ rfl (w.heap.size + 1) rfl (msgC ⟨3,f,t,e,v1,bal0,false,v2,0,st0,diff0,ent0,0,op0,res0⟩ none 0 none 0 none 0) rfl 48 (msgC msg0 none 0 none 0 none 0) (xah _ _ _ _ _ _ _) (xbe _ _ _ _ _ _ _ _ _ _ _ _ _ _) (xbn _ _ _ _ _ _ _) ?hg _ rfl ?_;(case hg=>(try rw [hx2]);exact hY1);(try rw [hx2]))
  | fail)
 exact xba rfl (w.heap.size + 1) rfl 48 (msgC ⟨3,f,t,e,v1,bal0,false,v2,0,st0,diff0,ent0,0,op0,res0⟩ none 0 none 0 none 0) _ Tryz.underlying48 rfl (xah _ _ _ _ _ _ _) hRf rfl hE.out
set_option maxHeartbeats 16000000 in
theorem rbody_4 (f t e p:Nat) (w:World) (s:RS) (hr:RdI p w s):Calls Tryz.prog 57 #[.pointer (some ⟨p,0,none⟩),.agg (msgC ⟨4,f,t,e,bal0,bal0,false,inc0,0,st0,diff0,ent0,0,op0,res0⟩ none 0 none 0 none 0)] w (BodyR p w (bodyZ 4 f t e s)):=by
 have hp:=hr.lt
 obtain ⟨w1,hw1,hX1,hY1,hb1⟩:=xbl w 48 48 (msgC ⟨4,f,t,e,bal0,bal0,false,inc0,0,st0,diff0,ent0,0,op0,res0⟩ none 0 none 0 none 0) (msgC msg0 none 0 none 0 none 0)
 have h1:=hr.later hb1
 have o1:Hid (OffP p w w1):=OffF.of hb1
 have hXp:w.heap.size ≠ p:=by omega
 have hYp:w.heap.size + 1 ≠ p:=by omega
 have hgl1:w.heap.size < w1.heap.size:=hX1.lt
 have x0:w1.cell? ⟨w.heap.size,0,none⟩ = some (.int .u8 4):=hX1.mc_kind
 obtain ⟨v1,s1,e1⟩:∃ n s',balZ s = (n,s'):=⟨_,_,rfl⟩
 have hZ:Hid (bodyZ 4 f t e s = (⟨4,f,t,e,v1,bal0,false,inc0,0,st0,diff0,ent0,0,op0,res0⟩,s1)):=by
  show _ = _
  simp only [bodyZ,hasZ,resZ,difZ,smallZ,oneZ,fourZ,Rd.bind,Rd.ret,e1]
 clear hr hb1
 go_enter Tryz.func57,Tryz.ntmps57
 have hc:=xgx p w1 s h1
 rw [e1] at hc
 replace hc:Hid _:=hc
 clear h1
 go_wp2_with (first
  | (refine xac (by rfl) 48 rfl (msgC msg0 none 0 none 0 none 0) xbg ?_;rw [hw1];clear hw1)
  | fail)
 clear x0
 refine Calls.mono hc.out ?_
 rintro en y1 ⟨he,h2,o2⟩
 replace he:en = .returned (.agg (balC v1)):=he
 subst he
 clear hc
 replace hX1:=o2.has hX1 hXp
 replace hY1:=o2.has hY1 hYp
 replace o1:Hid (OffP p w y1):=o1.out.trans o2
 have ht:=hX1.there 4 2 (show 4 + 2 ≤ 131 by decide)
 have hX2:=(show Has y1 w.heap.size 48 (msgL ⟨4,f,t,e,bal0,bal0,false,inc0,0,st0,diff0,ent0,0,op0,res0⟩ none 0 none 0 none 0).toArray from hX1).putCells (balC v1).toList 4 (show 4 + 2 ≤ 131 by decide)
 rw [mput_b] at hX2
 have hY2:=hY1.cells_other (show w.heap.size + 1 ≠ w.heap.size by omega) (balC v1).toList 4
 obtain ⟨x1,hx1⟩:∃ W,y1.setCells w.heap.size 4 (balC v1).toList = W:=⟨_,rfl⟩
 rw [hx1] at hX2 hY2
 have h3:RdI p x1 s1:=by rw [← hx1];exact h2.other (xap _ _) (by show p < w.heap.size;omega)
 have o3:Hid (OffP p w x1):=by rw [← hx1];exact o1.out.fresh (xap _ _) (by show w.heap.size ≤ w.heap.size;omega)
 clear h2 o2 hX1 hY1 o1
 have hX1:=hX2
 have hY1:=hY2
 have h1:=h3
 have o1:=o3
 clear hX2 hY2 h3 o3
 have x0:x1.cell? ⟨w.heap.size,0,none⟩ = some (.int .u8 4):=hX1.mc_kind
 have hE:Hid (BodyR p w (bodyZ 4 f t e s) (.returned (.agg (msgC ⟨4,f,t,e,v1,bal0,false,inc0,0,st0,diff0,ent0,0,op0,res0⟩ none 0 none 0 none 0))) (x1.setRow (w.heap.size + 1) (msgC ⟨4,f,t,e,v1,bal0,false,inc0,0,st0,diff0,ent0,0,op0,res0⟩ none 0 none 0 none 0))):=by
  refine ⟨_,_,_,_,_,_,by rw [hZ.out],?_,?_,?_,?_⟩
  ·rw [hZ.out];exact ⟨Sl.nothing _ _,Sl.nothing _ _,Sl.nothing _ _⟩
  ·exact ⟨(fun _ z=>by cases z),(fun _ z=>by cases z),(fun _ z=>by cases z)⟩
  ·rw [hZ.out];exact h1.other (xbb _ _) (by omega)
  ·exact o1.out.fresh (xbb _ _) (by omega)
 have hRf:=hY1.row (msgC ⟨4,f,t,e,v1,bal0,false,inc0,0,st0,diff0,ent0,0,op0,res0⟩ none 0 none 0 none 0)
 clear h1 o1 hZ
 go_wp2_with (first
  | (refine xak (by rfl) 24 _ _ rfl w.heap.size 4 (balC v1) rfl rfl ?ht (xfm _) (xhd _) ?_;(case ht=>exact ht);rw [show y1.setCells w.heap.size 4 (balC v1).toList = x1 from hx1];clear hx1 ht)
  | (refine xab (by rfl) 48 _ rfl w.heap.size rfl 48 (msgC ⟨4,f,t,e,v1,bal0,false,inc0,0,st0,diff0,ent0,0,op0,res0⟩ none 0 none 0 none 0) _ Tryz.underlying48 rfl (xah _ _ _ _ _ _ _) ?hg ?_;(case hg=>(try rw [hx1]);exact hX1))
  | (refine xai (by rfl) 48 _ _ rfl (w.heap.size + 1) rfl (msgC ⟨4,f,t,e,v1,bal0,false,inc0,0,st0,diff0,ent0,0,op0,res0⟩ none 0 none 0 none 0) rfl 48 (msgC msg0 none 0 none 0 none 0) (xah _ _ _ _ _ _ _) (xbe _ _ _ _ _ _ _ _ _ _ _ _ _ _) (xbn _ _ _ _ _ _ _) ?hg _ rfl ?_;(case hg=>(try rw [hx1]);exact hY1);(try rw [hx1]))
  | fail)
 exact xba rfl (w.heap.size + 1) rfl 48 (msgC ⟨4,f,t,e,v1,bal0,false,inc0,0,st0,diff0,ent0,0,op0,res0⟩ none 0 none 0 none 0) _ Tryz.underlying48 rfl (xah _ _ _ _ _ _ _) hRf rfl hE.out
set_option maxHeartbeats 16000000 in
theorem rbody_5 (f t e p:Nat) (w:World) (s:RS) (hr:RdI p w s):Calls Tryz.prog 57 #[.pointer (some ⟨p,0,none⟩),.agg (msgC ⟨5,f,t,e,bal0,bal0,false,inc0,0,st0,diff0,ent0,0,op0,res0⟩ none 0 none 0 none 0)] w (BodyR p w (bodyZ 5 f t e s)):=by
 have hp:=hr.lt
 obtain ⟨w1,hw1,hX1,hY1,hb1⟩:=xbl w 48 48 (msgC ⟨5,f,t,e,bal0,bal0,false,inc0,0,st0,diff0,ent0,0,op0,res0⟩ none 0 none 0 none 0) (msgC msg0 none 0 none 0 none 0)
 have h1:=hr.later hb1
 have o1:Hid (OffP p w w1):=OffF.of hb1
 have hXp:w.heap.size ≠ p:=by omega
 have hYp:w.heap.size + 1 ≠ p:=by omega
 have hgl1:w.heap.size < w1.heap.size:=hX1.lt
 have x0:w1.cell? ⟨w.heap.size,0,none⟩ = some (.int .u8 5):=hX1.mc_kind
 obtain ⟨v1,s1,e1⟩:∃ n s',incZ s = (n,s'):=⟨_,_,rfl⟩
 have hZ:Hid (bodyZ 5 f t e s = (⟨5,f,t,e,bal0,bal0,false,v1,0,st0,diff0,ent0,0,op0,res0⟩,s1)):=by
  show _ = _
  simp only [bodyZ,hasZ,resZ,difZ,smallZ,oneZ,fourZ,Rd.bind,Rd.ret,e1]
 clear hr hb1
 go_enter Tryz.func57,Tryz.ntmps57
 have hc:=rdinc_any p w1 s h1
 rw [e1] at hc
 replace hc:Hid _:=hc
 clear h1
 go_wp2_with (first
  | (refine xac (by rfl) 48 rfl (msgC msg0 none 0 none 0 none 0) xbg ?_;rw [hw1];clear hw1)
  | fail)
 clear x0
 refine Calls.mono hc.out ?_
 rintro en y1 ⟨he,h2,o2⟩
 replace he:en = .returned (.agg (incC v1)):=he
 subst he
 clear hc
 replace hX1:=o2.has hX1 hXp
 replace hY1:=o2.has hY1 hYp
 replace o1:Hid (OffP p w y1):=o1.out.trans o2
 have ht:=hX1.there 9 3 (show 9 + 3 ≤ 131 by decide)
 have hX2:=(show Has y1 w.heap.size 48 (msgL ⟨5,f,t,e,bal0,bal0,false,inc0,0,st0,diff0,ent0,0,op0,res0⟩ none 0 none 0 none 0).toArray from hX1).putCells (incC v1).toList 9 (show 9 + 3 ≤ 131 by decide)
 rw [xhh] at hX2
 have hY2:=hY1.cells_other (show w.heap.size + 1 ≠ w.heap.size by omega) (incC v1).toList 9
 obtain ⟨x1,hx1⟩:∃ W,y1.setCells w.heap.size 9 (incC v1).toList = W:=⟨_,rfl⟩
 rw [hx1] at hX2 hY2
 have h3:RdI p x1 s1:=by rw [← hx1];exact h2.other (xap _ _) (by show p < w.heap.size;omega)
 have o3:Hid (OffP p w x1):=by rw [← hx1];exact o1.out.fresh (xap _ _) (by show w.heap.size ≤ w.heap.size;omega)
 clear h2 o2 hX1 hY1 o1
 have hX1:=hX2
 have hY1:=hY2
 have h1:=h3
 have o1:=o3
 clear hX2 hY2 h3 o3
 have x0:x1.cell? ⟨w.heap.size,0,none⟩ = some (.int .u8 5):=hX1.mc_kind
 have hE:Hid (BodyR p w (bodyZ 5 f t e s) (.returned (.agg (msgC ⟨5,f,t,e,bal0,bal0,false,v1,0,st0,diff0,ent0,0,op0,res0⟩ none 0 none 0 none 0))) (x1.setRow (w.heap.size + 1) (msgC ⟨5,f,t,e,bal0,bal0,false,v1,0,st0,diff0,ent0,0,op0,res0⟩ none 0 none 0 none 0))):=by
  refine ⟨_,_,_,_,_,_,by rw [hZ.out],?_,?_,?_,?_⟩
  ·rw [hZ.out];exact ⟨Sl.nothing _ _,Sl.nothing _ _,Sl.nothing _ _⟩
  ·exact ⟨(fun _ z=>by cases z),(fun _ z=>by cases z),(fun _ z=>by cases z)⟩
  ·rw [hZ.out];exact h1.other (xbb _ _) (by omega)
  ·exact o1.out.fresh (xbb _ _) (by omega)
 have hRf:=hY1.row (msgC ⟨5,f,t,e,bal0,bal0,false,v1,0,st0,diff0,ent0,0,op0,res0⟩ none 0 none 0 none 0)
 clear h1 o1 hZ
 go_wp2_with (first
  | (refine xak (by rfl) 26 _ _ rfl w.heap.size 9 (incC v1) rfl rfl ?ht (xfy _) (rinc_one _) ?_;(case ht=>exact ht);rw [show y1.setCells w.heap.size 9 (incC v1).toList = x1 from hx1];clear hx1 ht)
  | (refine xab (by rfl) 48 _ rfl w.heap.size rfl 48 (msgC ⟨5,f,t,e,bal0,bal0,false,v1,0,st0,diff0,ent0,0,op0,res0⟩ none 0 none 0 none 0) _ Tryz.underlying48 rfl (xah _ _ _ _ _ _ _) ?hg ?_;(case hg=>(try rw [hx1]);exact hX1))
  | (refine xai (by rfl) 48 _ _ rfl (w.heap.size + 1) rfl (msgC ⟨5,f,t,e,bal0,bal0,false,v1,0,st0,diff0,ent0,0,op0,res0⟩ none 0 none 0 none 0) rfl 48 (msgC msg0 none 0 none 0 none 0) (xah _ _ _ _ _ _ _) (xbe _ _ _ _ _ _ _ _ _ _ _ _ _ _) (xbn _ _ _ _ _ _ _) ?hg _ rfl ?_;(case hg=>(try rw [hx1]);exact hY1);(try rw [hx1]))
  | fail)
 exact xba rfl (w.heap.size + 1) rfl 48 (msgC ⟨5,f,t,e,bal0,bal0,false,v1,0,st0,diff0,ent0,0,op0,res0⟩ none 0 none 0 none 0) _ Tryz.underlying48 rfl (xah _ _ _ _ _ _ _) hRf rfl hE.out
set_option maxHeartbeats 16000000 in
theorem rbody_6 (f t e p:Nat) (w:World) (s:RS) (hr:RdI p w s):Calls Tryz.prog 57 #[.pointer (some ⟨p,0,none⟩),.agg (msgC ⟨6,f,t,e,bal0,bal0,false,inc0,0,st0,diff0,ent0,0,op0,res0⟩ none 0 none 0 none 0)] w (BodyR p w (bodyZ 6 f t e s)):=by
 have hp:=hr.lt
 obtain ⟨w1,hw1,hX1,hY1,hb1⟩:=xbl w 48 48 (msgC ⟨6,f,t,e,bal0,bal0,false,inc0,0,st0,diff0,ent0,0,op0,res0⟩ none 0 none 0 none 0) (msgC msg0 none 0 none 0 none 0)
 have h1:=hr.later hb1
 have o1:Hid (OffP p w w1):=OffF.of hb1
 have hXp:w.heap.size ≠ p:=by omega
 have hYp:w.heap.size + 1 ≠ p:=by omega
 have hgl1:w.heap.size < w1.heap.size:=hX1.lt
 have x0:w1.cell? ⟨w.heap.size,0,none⟩ = some (.int .u8 6):=hX1.mc_kind
 have hZ:Hid (bodyZ 6 f t e s = (⟨6,f,t,e,bal0,bal0,false,inc0,0,st0,diff0,ent0,0,op0,res0⟩,s)):=by
  show _ = _
  simp only [bodyZ,hasZ,resZ,difZ,smallZ,oneZ,fourZ,Rd.bind,Rd.ret]
 clear hr hb1
 go_enter Tryz.func57,Tryz.ntmps57
 have hE:Hid (BodyR p w (bodyZ 6 f t e s) (.returned (.agg (msgC ⟨6,f,t,e,bal0,bal0,false,inc0,0,st0,diff0,ent0,0,op0,res0⟩ none 0 none 0 none 0))) (w1.setRow (w.heap.size + 1) (msgC ⟨6,f,t,e,bal0,bal0,false,inc0,0,st0,diff0,ent0,0,op0,res0⟩ none 0 none 0 none 0))):=by
  refine ⟨_,_,_,_,_,_,by rw [hZ.out],?_,?_,?_,?_⟩
  ·rw [hZ.out];exact ⟨Sl.nothing _ _,Sl.nothing _ _,Sl.nothing _ _⟩
  ·exact ⟨(fun _ z=>by cases z),(fun _ z=>by cases z),(fun _ z=>by cases z)⟩
  ·rw [hZ.out];exact h1.other (xbb _ _) (by omega)
  ·exact o1.out.fresh (xbb _ _) (by omega)
 have hRf:=hY1.row (msgC ⟨6,f,t,e,bal0,bal0,false,inc0,0,st0,diff0,ent0,0,op0,res0⟩ none 0 none 0 none 0)
 clear h1 o1 hZ
 go_wp2_with (first
  | (refine xac (by rfl) 48 rfl (msgC msg0 none 0 none 0 none 0) xbg ?_;rw [hw1];clear hw1)
  | (refine xab (by rfl) 48 _ rfl w.heap.size rfl 48 (msgC ⟨6,f,t,e,bal0,bal0,false,inc0,0,st0,diff0,ent0,0,op0,res0⟩ none 0 none 0 none 0) _ Tryz.underlying48 rfl (xah _ _ _ _ _ _ _) ?hg ?_;(case hg=>exact hX1))
  | (refine xai (by rfl) 48 _ _ rfl (w.heap.size + 1) rfl (msgC ⟨6,f,t,e,bal0,bal0,false,inc0,0,st0,diff0,ent0,0,op0,res0⟩ none 0 none 0 none 0) rfl 48 (msgC msg0 none 0 none 0 none 0) (xah _ _ _ _ _ _ _) (xbe _ _ _ _ _ _ _ _ _ _ _ _ _ _) (xbn _ _ _ _ _ _ _) ?hg _ rfl ?_;(case hg=>exact hY1))
  | fail)
 exact xba rfl (w.heap.size + 1) rfl 48 (msgC ⟨6,f,t,e,bal0,bal0,false,inc0,0,st0,diff0,ent0,0,op0,res0⟩ none 0 none 0 none 0) _ Tryz.underlying48 rfl (xah _ _ _ _ _ _ _) hRf rfl hE.out
set_option maxHeartbeats 16000000 in
theorem rbody_15 (f t e p:Nat) (w:World) (s:RS) (hr:RdI p w s):Calls Tryz.prog 57 #[.pointer (some ⟨p,0,none⟩),.agg (msgC ⟨15,f,t,e,bal0,bal0,false,inc0,0,st0,diff0,ent0,0,op0,res0⟩ none 0 none 0 none 0)] w (BodyR p w (bodyZ 15 f t e s)):=by
 have hp:=hr.lt
 obtain ⟨w1,hw1,hX1,hY1,hb1⟩:=xbl w 48 48 (msgC ⟨15,f,t,e,bal0,bal0,false,inc0,0,st0,diff0,ent0,0,op0,res0⟩ none 0 none 0 none 0) (msgC msg0 none 0 none 0 none 0)
 have h1:=hr.later hb1
 have o1:Hid (OffP p w w1):=OffF.of hb1
 have hXp:w.heap.size ≠ p:=by omega
 have hYp:w.heap.size + 1 ≠ p:=by omega
 have hgl1:w.heap.size < w1.heap.size:=hX1.lt
 have x0:w1.cell? ⟨w.heap.size,0,none⟩ = some (.int .u8 15):=hX1.mc_kind
 obtain ⟨v1,s1,e1⟩:∃ n s',opZ s = (n,s'):=⟨_,_,rfl⟩
 have hZ:Hid (bodyZ 15 f t e s = (⟨15,f,t,e,bal0,bal0,false,inc0,0,st0,diff0,ent0,0,v1,res0⟩,s1)):=by
  show _ = _
  simp only [bodyZ,hasZ,resZ,difZ,smallZ,oneZ,fourZ,Rd.bind,Rd.ret,e1]
 clear hr hb1
 go_enter Tryz.func57,Tryz.ntmps57
 have hc:=rdop_any p w1 s h1
 rw [e1] at hc
 replace hc:Hid _:=hc
 clear h1
 go_wp2_with (first
  | (refine xac (by rfl) 48 rfl (msgC msg0 none 0 none 0 none 0) xbg ?_;rw [hw1];clear hw1)
  | fail)
 clear x0
 refine Calls.mono hc.out ?_
 rintro en y1 ⟨he,h2,o2⟩
 replace he:en = .returned (.agg (opC v1)):=he
 subst he
 clear hc
 replace hX1:=o2.has hX1 hXp
 replace hY1:=o2.has hY1 hYp
 replace o1:Hid (OffP p w y1):=o1.out.trans o2
 have ht:=hX1.there 123 6 (show 123 + 6 ≤ 131 by decide)
 have hX2:=(show Has y1 w.heap.size 48 (msgL ⟨15,f,t,e,bal0,bal0,false,inc0,0,st0,diff0,ent0,0,op0,res0⟩ none 0 none 0 none 0).toArray from hX1).putCells (opL v1) 123 (show 123 + 6 ≤ 131 by decide)
 rw [xhg] at hX2
 have hY2:=hY1.cells_other (show w.heap.size + 1 ≠ w.heap.size by omega) (opL v1) 123
 obtain ⟨x1,hx1⟩:∃ W,y1.setCells w.heap.size 123 (opL v1) = W:=⟨_,rfl⟩
 rw [hx1] at hX2 hY2
 have h3:RdI p x1 s1:=by rw [← hx1];exact h2.other (xap _ _) (by show p < w.heap.size;omega)
 have o3:Hid (OffP p w x1):=by rw [← hx1];exact o1.out.fresh (xap _ _) (by show w.heap.size ≤ w.heap.size;omega)
 clear h2 o2 hX1 hY1 o1
 have hX1:=hX2
 have hY1:=hY2
 have h1:=h3
 have o1:=o3
 clear hX2 hY2 h3 o3
 have x0:x1.cell? ⟨w.heap.size,0,none⟩ = some (.int .u8 15):=hX1.mc_kind
 have hE:Hid (BodyR p w (bodyZ 15 f t e s) (.returned (.agg (msgC ⟨15,f,t,e,bal0,bal0,false,inc0,0,st0,diff0,ent0,0,v1,res0⟩ none 0 none 0 none 0))) (x1.setRow (w.heap.size + 1) (msgC ⟨15,f,t,e,bal0,bal0,false,inc0,0,st0,diff0,ent0,0,v1,res0⟩ none 0 none 0 none 0))):=by
  refine ⟨_,_,_,_,_,_,by rw [hZ.out],?_,?_,?_,?_⟩
  ·rw [hZ.out];exact ⟨Sl.nothing _ _,Sl.nothing _ _,Sl.nothing _ _⟩
  ·exact ⟨(fun _ z=>by cases z),(fun _ z=>by cases z),(fun _ z=>by cases z)⟩
  ·rw [hZ.out];exact h1.other (xbb _ _) (by omega)
  ·exact o1.out.fresh (xbb _ _) (by omega)
 have hRf:=hY1.row (msgC ⟨15,f,t,e,bal0,bal0,false,inc0,0,st0,diff0,ent0,0,v1,res0⟩ none 0 none 0 none 0)
 clear h1 o1 hZ
 go_wp2_with (first
  | (refine xak (by rfl) 39 _ _ rfl w.heap.size 123 (opC v1) rfl rfl ?ht (xca _) (op_one _) ?_;(case ht=>exact ht);rw [show y1.setCells w.heap.size 123 (opC v1).toList = x1 from hx1];clear hx1 ht)
  | (refine xab (by rfl) 48 _ rfl w.heap.size rfl 48 (msgC ⟨15,f,t,e,bal0,bal0,false,inc0,0,st0,diff0,ent0,0,v1,res0⟩ none 0 none 0 none 0) _ Tryz.underlying48 rfl (xah _ _ _ _ _ _ _) ?hg ?_;(case hg=>(try rw [hx1]);exact hX1))
  | (refine xai (by rfl) 48 _ _ rfl (w.heap.size + 1) rfl (msgC ⟨15,f,t,e,bal0,bal0,false,inc0,0,st0,diff0,ent0,0,v1,res0⟩ none 0 none 0 none 0) rfl 48 (msgC msg0 none 0 none 0 none 0) (xah _ _ _ _ _ _ _) (xbe _ _ _ _ _ _ _ _ _ _ _ _ _ _) (xbn _ _ _ _ _ _ _) ?hg _ rfl ?_;(case hg=>(try rw [hx1]);exact hY1);(try rw [hx1]))
  | fail)
 exact xba rfl (w.heap.size + 1) rfl 48 (msgC ⟨15,f,t,e,bal0,bal0,false,inc0,0,st0,diff0,ent0,0,v1,res0⟩ none 0 none 0 none 0) _ Tryz.underlying48 rfl (xah _ _ _ _ _ _ _) hRf rfl hE.out
set_option maxHeartbeats 16000000 in
theorem rbody_16 (f t e p:Nat) (w:World) (s:RS) (hr:RdI p w s):Calls Tryz.prog 57 #[.pointer (some ⟨p,0,none⟩),.agg (msgC ⟨16,f,t,e,bal0,bal0,false,inc0,0,st0,diff0,ent0,0,op0,res0⟩ none 0 none 0 none 0)] w (BodyR p w (bodyZ 16 f t e s)):=by
 have hp:=hr.lt
 obtain ⟨w1,hw1,hX1,hY1,hb1⟩:=xbl w 48 48 (msgC ⟨16,f,t,e,bal0,bal0,false,inc0,0,st0,diff0,ent0,0,op0,res0⟩ none 0 none 0 none 0) (msgC msg0 none 0 none 0 none 0)
 have h1:=hr.later hb1
 have o1:Hid (OffP p w w1):=OffF.of hb1
 have hXp:w.heap.size ≠ p:=by omega
 have hYp:w.heap.size + 1 ≠ p:=by omega
 have hgl1:w.heap.size < w1.heap.size:=hX1.lt
 have x0:w1.cell? ⟨w.heap.size,0,none⟩ = some (.int .u8 16):=hX1.mc_kind
 obtain ⟨v1,s1,e1⟩:∃ n s',opZ s = (n,s'):=⟨_,_,rfl⟩
 obtain ⟨v2,s2,e2⟩:∃ n s',numZ 1 s1 = (n,s'):=⟨_,_,rfl⟩
 obtain ⟨v3,s3,e3⟩:∃ n s',txtZ 80 s2 = (n,s'):=⟨_,_,rfl⟩
 have hZ:Hid (bodyZ 16 f t e s = (⟨16,f,t,e,bal0,bal0,false,inc0,0,st0,diff0,ent0,0,v1,⟨v2 % 256,v3⟩⟩,s3)):=by
  show _ = _
  simp only [bodyZ,hasZ,resZ,difZ,smallZ,oneZ,fourZ,Rd.bind,Rd.ret,e1,e2,e3]
 clear hr hb1
 go_enter Tryz.func57,Tryz.ntmps57
 have hc:=rdop_any p w1 s h1
 rw [e1] at hc
 replace hc:Hid _:=hc
 clear h1
 go_wp2_with (first
  | (refine xac (by rfl) 48 rfl (msgC msg0 none 0 none 0 none 0) xbg ?_;rw [hw1];clear hw1)
  | fail)
 clear x0
 refine Calls.mono hc.out ?_
 rintro en y1 ⟨he,h2,o2⟩
 replace he:en = .returned (.agg (opC v1)):=he
 subst he
 clear hc
 replace hX1:=o2.has hX1 hXp
 replace hY1:=o2.has hY1 hYp
 replace o1:Hid (OffP p w y1):=o1.out.trans o2
 have ht:=hX1.there 123 6 (show 123 + 6 ≤ 131 by decide)
 have hX2:=(show Has y1 w.heap.size 48 (msgL ⟨16,f,t,e,bal0,bal0,false,inc0,0,st0,diff0,ent0,0,op0,res0⟩ none 0 none 0 none 0).toArray from hX1).putCells (opL v1) 123 (show 123 + 6 ≤ 131 by decide)
 rw [xhg] at hX2
 have hY2:=hY1.cells_other (show w.heap.size + 1 ≠ w.heap.size by omega) (opL v1) 123
 obtain ⟨x1,hx1⟩:∃ W,y1.setCells w.heap.size 123 (opL v1) = W:=⟨_,rfl⟩
 rw [hx1] at hX2 hY2
 have h3:RdI p x1 s1:=by rw [← hx1];exact h2.other (xap _ _) (by show p < w.heap.size;omega)
 have o3:Hid (OffP p w x1):=by rw [← hx1];exact o1.out.fresh (xap _ _) (by show w.heap.size ≤ w.heap.size;omega)
 clear h2 o2 hX1 hY1 o1
 have hX1:=hX2
 have hY1:=hY2
 have h1:=h3
 have o1:=o3
 clear hX2 hY2 h3 o3
 have x0:x1.cell? ⟨w.heap.size,0,none⟩ = some (.int .u8 16):=hX1.mc_kind
 have hc:=xbu p 1 x1 s1 h1 (by decide) (by decide)
 rw [e2] at hc
 replace hc:Hid _:=hc
 clear h1
 go_wp2_with (first
  | (refine xak (by rfl) 39 _ _ rfl w.heap.size 123 (opC v1) rfl rfl ?ht (xca _) (op_one _) ?_;(case ht=>exact ht);rw [show y1.setCells w.heap.size 123 (opC v1).toList = x1 from hx1];clear hx1 ht)
  | fail)
 clear x0
 refine Calls.mono hc.out ?_
 rintro en y2 ⟨he,h2,o2⟩
 replace he:en = .returned (.int .u64 (v2:Nat)):=he
 subst he
 clear hc
 replace hX1:=o2.has hX1 hXp
 replace hY1:=o2.has hY1 hYp
 replace o1:Hid (OffP p w y2):=o1.out.trans o2
 have hcell:∃ v,y2.cell? ⟨w.heap.size,129,none⟩ = some v:=⟨_,(hX1.cell 129).trans rfl⟩
 obtain ⟨u2,hcell⟩:=hcell
 have hfree:=hX1.free 129
 obtain ⟨x2,hx2⟩:∃ W,y2.setCell ⟨w.heap.size,129,none⟩ (.int .u8 ((v2:Int) % 256)) = W:=⟨_,rfl⟩
 have hX2:Has x2 w.heap.size 48 (msgC ⟨16,f,t,e,bal0,bal0,false,inc0,0,st0,diff0,ent0,0,v1,⟨v2 % 256,[]⟩⟩ none 0 none 0 none 0):=by
  rw [← hx2]
  have z:=hX1.set 129 (.int .u8 ((v2:Int) % 256))
  rw [modn1] at z
  exact z
 have hY2:Has x2 (w.heap.size + 1) 48 (msgC msg0 none 0 none 0 none 0):=by rw [← hx2];exact hY1.set_other (a:=⟨w.heap.size,129,none⟩) (show w.heap.size + 1 ≠ w.heap.size by omega) _
 have h3:RdI p x2 s2:=by rw [← hx2];exact h2.other (xaq _ _ _) (by show p < w.heap.size;omega)
 have o3:Hid (OffP p w x2):=by rw [← hx2];exact o1.out.fresh (xaq _ _ _) (by show w.heap.size ≤ w.heap.size;omega)
 clear h2 o2 hX1 hY1 o1
 have hX1:=hX2
 have hY1:=hY2
 have h1:=h3
 have o1:=o3
 clear hX2 hY2 h3 o3
 have x0:x2.cell? ⟨w.heap.size,0,none⟩ = some (.int .u8 16):=hX1.mc_kind
 have hc:=xgm p 80 x2 s2 h1 (by decide)
 rw [e3] at hc
 replace hc:Hid _:=hc
 clear h1
 go_wp2_with (first
  | fail)
 clear x0
 try rw [hx2]
 clear hx2 hcell hfree
 refine Calls.mono hc.out ?_
 rintro en y3 ⟨he,h2,o2⟩
 replace he:en = .returned (.string (mkS v3)):=he
 subst he
 clear hc
 replace hX1:=o2.has hX1 hXp
 replace hY1:=o2.has hY1 hYp
 replace o1:Hid (OffP p w y3):=o1.out.trans o2
 have hcell:∃ v,y3.cell? ⟨w.heap.size,130,none⟩ = some v:=⟨_,(hX1.cell 130).trans rfl⟩
 obtain ⟨u3,hcell⟩:=hcell
 have hfree:=hX1.free 130
 obtain ⟨x3,hx3⟩:∃ W,y3.setCell ⟨w.heap.size,130,none⟩ (.string (mkS v3)) = W:=⟨_,rfl⟩
 have hX2:Has x3 w.heap.size 48 (msgC ⟨16,f,t,e,bal0,bal0,false,inc0,0,st0,diff0,ent0,0,v1,⟨v2 % 256,v3⟩⟩ none 0 none 0 none 0):=by
  rw [← hx3]
  have z:=hX1.set 130 (.string (mkS v3))
  exact z
 have hY2:Has x3 (w.heap.size + 1) 48 (msgC msg0 none 0 none 0 none 0):=by rw [← hx3];exact hY1.set_other (a:=⟨w.heap.size,130,none⟩) (show w.heap.size + 1 ≠ w.heap.size by omega) _
 have h3:RdI p x3 s3:=by rw [← hx3];exact h2.other (xaq _ _ _) (by show p < w.heap.size;omega)
 have o3:Hid (OffP p w x3):=by rw [← hx3];exact o1.out.fresh (xaq _ _ _) (by show w.heap.size ≤ w.heap.size;omega)
 clear h2 o2 hX1 hY1 o1
 have hX1:=hX2
 have hY1:=hY2
 have h1:=h3
 have o1:=o3
 clear hX2 hY2 h3 o3
 have x0:x3.cell? ⟨w.heap.size,0,none⟩ = some (.int .u8 16):=hX1.mc_kind
 have hE:Hid (BodyR p w (bodyZ 16 f t e s) (.returned (.agg (msgC ⟨16,f,t,e,bal0,bal0,false,inc0,0,st0,diff0,ent0,0,v1,⟨v2 % 256,v3⟩⟩ none 0 none 0 none 0))) (x3.setRow (w.heap.size + 1) (msgC ⟨16,f,t,e,bal0,bal0,false,inc0,0,st0,diff0,ent0,0,v1,⟨v2 % 256,v3⟩⟩ none 0 none 0 none 0))):=by
  refine ⟨_,_,_,_,_,_,by rw [hZ.out],?_,?_,?_,?_⟩
  ·rw [hZ.out];exact ⟨Sl.nothing _ _,Sl.nothing _ _,Sl.nothing _ _⟩
  ·exact ⟨(fun _ z=>by cases z),(fun _ z=>by cases z),(fun _ z=>by cases z)⟩
  ·rw [hZ.out];exact h1.other (xbb _ _) (by omega)
  ·exact o1.out.fresh (xbb _ _) (by omega)
 have hRf:=hY1.row (msgC ⟨16,f,t,e,bal0,bal0,false,inc0,0,st0,diff0,ent0,0,v1,⟨v2 % 256,v3⟩⟩ none 0 none 0 none 0)
 clear h1 o1 hZ
 go_wp2_with (first
  | (refine xab (by rfl) 48 _ rfl w.heap.size rfl 48 (msgC ⟨16,f,t,e,bal0,bal0,false,inc0,0,st0,diff0,ent0,0,v1,⟨v2 % 256,v3⟩⟩ none 0 none 0 none 0) _ Tryz.underlying48 rfl (xah _ _ _ _ _ _ _) ?hg ?_;(case hg=>(try rw [hx3]);exact hX1))
  | (refine xai (by rfl) 48 _ _ rfl (w.heap.size + 1) rfl (msgC ⟨16,f,t,e,bal0,bal0,false,inc0,0,st0,diff0,ent0,0,v1,⟨v2 % 256,v3⟩⟩ none 0 none 0 none 0) rfl 48 (msgC msg0 none 0 none 0 none 0) (xah _ _ _ _ _ _ _) (xbe _ _ _ _ _ _ _ _ _ _ _ _ _ _) (xbn _ _ _ _ _ _ _) ?hg _ rfl ?_;(case hg=>(try rw [hx3]);exact hY1);(try rw [hx3]))
  | fail)
 exact xba rfl (w.heap.size + 1) rfl 48 (msgC ⟨16,f,t,e,bal0,bal0,false,inc0,0,st0,diff0,ent0,0,v1,⟨v2 % 256,v3⟩⟩ none 0 none 0 none 0) _ Tryz.underlying48 rfl (xah _ _ _ _ _ _ _) hRf rfl hE.out
set_option maxHeartbeats 16000000 in
theorem rbody_17 (f t e p:Nat) (w:World) (s:RS) (hr:RdI p w s):Calls Tryz.prog 57 #[.pointer (some ⟨p,0,none⟩),.agg (msgC ⟨17,f,t,e,bal0,bal0,false,inc0,0,st0,diff0,ent0,0,op0,res0⟩ none 0 none 0 none 0)] w (BodyR p w (bodyZ 17 f t e s)):=by
 have hp:=hr.lt
 obtain ⟨w1,hw1,hX1,hY1,hb1⟩:=xbl w 48 48 (msgC ⟨17,f,t,e,bal0,bal0,false,inc0,0,st0,diff0,ent0,0,op0,res0⟩ none 0 none 0 none 0) (msgC msg0 none 0 none 0 none 0)
 have h1:=hr.later hb1
 have o1:Hid (OffP p w w1):=OffF.of hb1
 have hXp:w.heap.size ≠ p:=by omega
 have hYp:w.heap.size + 1 ≠ p:=by omega
 have hgl1:w.heap.size < w1.heap.size:=hX1.lt
 have x0:w1.cell? ⟨w.heap.size,0,none⟩ = some (.int .u8 17):=hX1.mc_kind
 obtain ⟨v1,s1,e1⟩:∃ n s',numZ 4 s = (n,s'):=⟨_,_,rfl⟩
 have hZ:Hid (bodyZ 17 f t e s = (⟨17,f,t,e,bal0,bal0,false,inc0,0,st0,diff0,ent0,v1 % 4294967296,op0,res0⟩,s1)):=by
  show _ = _
  simp only [bodyZ,hasZ,resZ,difZ,smallZ,oneZ,fourZ,Rd.bind,Rd.ret,e1]
 clear hr hb1
 go_enter Tryz.func57,Tryz.ntmps57
 have hc:=xbu p 4 w1 s h1 (by decide) (by decide)
 rw [e1] at hc
 replace hc:Hid _:=hc
 clear h1
 go_wp2_with (first
  | (refine xac (by rfl) 48 rfl (msgC msg0 none 0 none 0 none 0) xbg ?_;rw [hw1];clear hw1)
  | fail)
 clear x0
 refine Calls.mono hc.out ?_
 rintro en y1 ⟨he,h2,o2⟩
 replace he:en = .returned (.int .u64 (v1:Nat)):=he
 subst he
 clear hc
 replace hX1:=o2.has hX1 hXp
 replace hY1:=o2.has hY1 hYp
 replace o1:Hid (OffP p w y1):=o1.out.trans o2
 have hcell:∃ v,y1.cell? ⟨w.heap.size,122,none⟩ = some v:=⟨_,(hX1.cell 122).trans rfl⟩
 obtain ⟨u1,hcell⟩:=hcell
 have hfree:=hX1.free 122
 obtain ⟨x1,hx1⟩:∃ W,y1.setCell ⟨w.heap.size,122,none⟩ (.int .u32 ((v1:Int) % 4294967296)) = W:=⟨_,rfl⟩
 have hX2:Has x1 w.heap.size 48 (msgC ⟨17,f,t,e,bal0,bal0,false,inc0,0,st0,diff0,ent0,v1 % 4294967296,op0,res0⟩ none 0 none 0 none 0):=by
  rw [← hx1]
  have z:=hX1.set 122 (.int .u32 ((v1:Int) % 4294967296))
  rw [modn4] at z
  exact z
 have hY2:Has x1 (w.heap.size + 1) 48 (msgC msg0 none 0 none 0 none 0):=by rw [← hx1];exact hY1.set_other (a:=⟨w.heap.size,122,none⟩) (show w.heap.size + 1 ≠ w.heap.size by omega) _
 have h3:RdI p x1 s1:=by rw [← hx1];exact h2.other (xaq _ _ _) (by show p < w.heap.size;omega)
 have o3:Hid (OffP p w x1):=by rw [← hx1];exact o1.out.fresh (xaq _ _ _) (by show w.heap.size ≤ w.heap.size;omega)
 clear h2 o2 hX1 hY1 o1
 have hX1:=hX2
 have hY1:=hY2
 have h1:=h3
 have o1:=o3
 clear hX2 hY2 h3 o3
 have x0:x1.cell? ⟨w.heap.size,0,none⟩ = some (.int .u8 17):=hX1.mc_kind
 have hE:Hid (BodyR p w (bodyZ 17 f t e s) (.returned (.agg (msgC ⟨17,f,t,e,bal0,bal0,false,inc0,0,st0,diff0,ent0,v1 % 4294967296,op0,res0⟩ none 0 none 0 none 0))) (x1.setRow (w.heap.size + 1) (msgC ⟨17,f,t,e,bal0,bal0,false,inc0,0,st0,diff0,ent0,v1 % 4294967296,op0,res0⟩ none 0 none 0 none 0))):=by
  refine ⟨_,_,_,_,_,_,by rw [hZ.out],?_,?_,?_,?_⟩
  ·rw [hZ.out];exact ⟨Sl.nothing _ _,Sl.nothing _ _,Sl.nothing _ _⟩
  ·exact ⟨(fun _ z=>by cases z),(fun _ z=>by cases z),(fun _ z=>by cases z)⟩
  ·rw [hZ.out];exact h1.other (xbb _ _) (by omega)
  ·exact o1.out.fresh (xbb _ _) (by omega)
 have hRf:=hY1.row (msgC ⟨17,f,t,e,bal0,bal0,false,inc0,0,st0,diff0,ent0,v1 % 4294967296,op0,res0⟩ none 0 none 0 none 0)
 clear h1 o1 hZ
 go_wp2_with (first
  | (refine xab (by rfl) 48 _ rfl w.heap.size rfl 48 (msgC ⟨17,f,t,e,bal0,bal0,false,inc0,0,st0,diff0,ent0,v1 % 4294967296,op0,res0⟩ none 0 none 0 none 0) _ Tryz.underlying48 rfl (xah _ _ _ _ _ _ _) ?hg ?_;(case hg=>(try rw [hx1]);exact hX1))
  | (refine xai (by rfl) 48 _ _ rfl (w.heap.size + 1) rfl (msgC ⟨17,f,t,e,bal0,bal0,false,inc0,0,st0,diff0,ent0,v1 % 4294967296,op0,res0⟩ none 0 none 0 none 0) rfl 48 (msgC msg0 none 0 none 0 none 0) (xah _ _ _ _ _ _ _) (xbe _ _ _ _ _ _ _ _ _ _ _ _ _ _) (xbn _ _ _ _ _ _ _) ?hg _ rfl ?_;(case hg=>(try rw [hx1]);exact hY1);(try rw [hx1]))
  | fail)
 exact xba rfl (w.heap.size + 1) rfl 48 (msgC ⟨17,f,t,e,bal0,bal0,false,inc0,0,st0,diff0,ent0,v1 % 4294967296,op0,res0⟩ none 0 none 0 none 0) _ Tryz.underlying48 rfl (xah _ _ _ _ _ _ _) hRf rfl hE.out
set_option maxHeartbeats 16000000 in
theorem rbody_18 (f t e p:Nat) (w:World) (s:RS) (hr:RdI p w s):Calls Tryz.prog 57 #[.pointer (some ⟨p,0,none⟩),.agg (msgC ⟨18,f,t,e,bal0,bal0,false,inc0,0,st0,diff0,ent0,0,op0,res0⟩ none 0 none 0 none 0)] w (BodyR p w (bodyZ 18 f t e s)):=by
 have hp:=hr.lt
 obtain ⟨w1,hw1,hX1,hY1,hb1⟩:=xbl w 48 48 (msgC ⟨18,f,t,e,bal0,bal0,false,inc0,0,st0,diff0,ent0,0,op0,res0⟩ none 0 none 0 none 0) (msgC msg0 none 0 none 0 none 0)
 have h1:=hr.later hb1
 have o1:Hid (OffP p w w1):=OffF.of hb1
 have hXp:w.heap.size ≠ p:=by omega
 have hYp:w.heap.size + 1 ≠ p:=by omega
 have hgl1:w.heap.size < w1.heap.size:=hX1.lt
 have x0:w1.cell? ⟨w.heap.size,0,none⟩ = some (.int .u8 18):=hX1.mc_kind
 obtain ⟨v1,s1,e1⟩:∃ n s',balZ s = (n,s'):=⟨_,_,rfl⟩
 have hZ:Hid (bodyZ 18 f t e s = (⟨18,f,t,e,v1,bal0,false,inc0,0,st0,diff0,ent0,0,op0,res0⟩,s1)):=by
  show _ = _
  simp only [bodyZ,hasZ,resZ,difZ,smallZ,oneZ,fourZ,Rd.bind,Rd.ret,e1]
 clear hr hb1
 go_enter Tryz.func57,Tryz.ntmps57
 have hc:=xgx p w1 s h1
 rw [e1] at hc
 replace hc:Hid _:=hc
 clear h1
 go_wp2_with (first
  | (refine xac (by rfl) 48 rfl (msgC msg0 none 0 none 0 none 0) xbg ?_;rw [hw1];clear hw1)
  | fail)
 clear x0
 refine Calls.mono hc.out ?_
 rintro en y1 ⟨he,h2,o2⟩
 replace he:en = .returned (.agg (balC v1)):=he
 subst he
 clear hc
 replace hX1:=o2.has hX1 hXp
 replace hY1:=o2.has hY1 hYp
 replace o1:Hid (OffP p w y1):=o1.out.trans o2
 have ht:=hX1.there 4 2 (show 4 + 2 ≤ 131 by decide)
 have hX2:=(show Has y1 w.heap.size 48 (msgL ⟨18,f,t,e,bal0,bal0,false,inc0,0,st0,diff0,ent0,0,op0,res0⟩ none 0 none 0 none 0).toArray from hX1).putCells (balC v1).toList 4 (show 4 + 2 ≤ 131 by decide)
 rw [mput_b] at hX2
 have hY2:=hY1.cells_other (show w.heap.size + 1 ≠ w.heap.size by omega) (balC v1).toList 4
 obtain ⟨x1,hx1⟩:∃ W,y1.setCells w.heap.size 4 (balC v1).toList = W:=⟨_,rfl⟩
 rw [hx1] at hX2 hY2
 have h3:RdI p x1 s1:=by rw [← hx1];exact h2.other (xap _ _) (by show p < w.heap.size;omega)
 have o3:Hid (OffP p w x1):=by rw [← hx1];exact o1.out.fresh (xap _ _) (by show w.heap.size ≤ w.heap.size;omega)
 clear h2 o2 hX1 hY1 o1
 have hX1:=hX2
 have hY1:=hY2
 have h1:=h3
 have o1:=o3
 clear hX2 hY2 h3 o3
 have x0:x1.cell? ⟨w.heap.size,0,none⟩ = some (.int .u8 18):=hX1.mc_kind
 have hE:Hid (BodyR p w (bodyZ 18 f t e s) (.returned (.agg (msgC ⟨18,f,t,e,v1,bal0,false,inc0,0,st0,diff0,ent0,0,op0,res0⟩ none 0 none 0 none 0))) (x1.setRow (w.heap.size + 1) (msgC ⟨18,f,t,e,v1,bal0,false,inc0,0,st0,diff0,ent0,0,op0,res0⟩ none 0 none 0 none 0))):=by
  refine ⟨_,_,_,_,_,_,by rw [hZ.out],?_,?_,?_,?_⟩
  ·rw [hZ.out];exact ⟨Sl.nothing _ _,Sl.nothing _ _,Sl.nothing _ _⟩
  ·exact ⟨(fun _ z=>by cases z),(fun _ z=>by cases z),(fun _ z=>by cases z)⟩
  ·rw [hZ.out];exact h1.other (xbb _ _) (by omega)
  ·exact o1.out.fresh (xbb _ _) (by omega)
 have hRf:=hY1.row (msgC ⟨18,f,t,e,v1,bal0,false,inc0,0,st0,diff0,ent0,0,op0,res0⟩ none 0 none 0 none 0)
 clear h1 o1 hZ
 go_wp2_with (first
  | (refine xak (by rfl) 24 _ _ rfl w.heap.size 4 (balC v1) rfl rfl ?ht (xfm _) (xhd _) ?_;(case ht=>exact ht);rw [show y1.setCells w.heap.size 4 (balC v1).toList = x1 from hx1];clear hx1 ht)
  | (refine xab (by rfl) 48 _ rfl w.heap.size rfl 48 (msgC ⟨18,f,t,e,v1,bal0,false,inc0,0,st0,diff0,ent0,0,op0,res0⟩ none 0 none 0 none 0) _ Tryz.underlying48 rfl (xah _ _ _ _ _ _ _) ?hg ?_;(case hg=>(try rw [hx1]);exact hX1))
  | (refine xai (by rfl) 48 _ _ rfl (w.heap.size + 1) rfl (msgC ⟨18,f,t,e,v1,bal0,false,inc0,0,st0,diff0,ent0,0,op0,res0⟩ none 0 none 0 none 0) rfl 48 (msgC msg0 none 0 none 0 none 0) (xah _ _ _ _ _ _ _) (xbe _ _ _ _ _ _ _ _ _ _ _ _ _ _) (xbn _ _ _ _ _ _ _) ?hg _ rfl ?_;(case hg=>(try rw [hx1]);exact hY1);(try rw [hx1]))
  | fail)
 exact xba rfl (w.heap.size + 1) rfl 48 (msgC ⟨18,f,t,e,v1,bal0,false,inc0,0,st0,diff0,ent0,0,op0,res0⟩ none 0 none 0 none 0) _ Tryz.underlying48 rfl (xah _ _ _ _ _ _ _) hRf rfl hE.out
set_option maxHeartbeats 16000000 in
theorem xev (k f t e p:Nat) (w:World) (s:RS) (R:MsgV × RS) (hn:k ≠ 1 ∧ k ≠ 2 ∧ k ≠ 3 ∧ k ≠ 4 ∧ k ≠ 5 ∧ k ≠ 6 ∧ k ≠ 15 ∧ k ≠ 16 ∧ k ≠ 17 ∧ k ≠ 18) (hr:RdI p w s) (hg:∀ W,RdI p W s → Calls Tryz.prog 97 #[.pointer (some ⟨p,0,none⟩),.agg (msgC ⟨k,f,t,e,bal0,bal0,false,inc0,0,st0,diff0,ent0,0,op0,res0⟩ none 0 none 0 none 0)] W (BodyR p W R)):Calls Tryz.prog 57 #[.pointer (some ⟨p,0,none⟩),.agg (msgC ⟨k,f,t,e,bal0,bal0,false,inc0,0,st0,diff0,ent0,0,op0,res0⟩ none 0 none 0 none 0)] w (BodyR p w R):=by
 have hp:=hr.lt
 obtain ⟨w1,hw1,hX1,hY1,hb1⟩:=xbl w 48 48 (msgC ⟨k,f,t,e,bal0,bal0,false,inc0,0,st0,diff0,ent0,0,op0,res0⟩ none 0 none 0 none 0) (msgC msg0 none 0 none 0 none 0)
 have h1:=hr.later hb1
 have o1:Hid (OffP p w w1):=OffF.of hb1
 have hXp:w.heap.size ≠ p:=by omega
 have hYp:w.heap.size + 1 ≠ p:=by omega
 have hgl1:w.heap.size + 1 < w1.heap.size:=hY1.lt
 have x0:w1.cell? ⟨w.heap.size,0,none⟩ = some (.int .u8 (k:Int)):=hX1.mc_kind
 have hc:=hg w1 h1
 have k1:¬ (k:Int) = 1:=by omega
 have k2:¬ (k:Int) = 2:=by omega
 have k3:¬ (k:Int) = 3:=by omega
 have k4:¬ (k:Int) = 4:=by omega
 have k5:¬ (k:Int) = 5:=by omega
 have k6:¬ (k:Int) = 6:=by omega
 have k15:¬ (k:Int) = 15:=by omega
 have k16:¬ (k:Int) = 16:=by omega
 have k17:¬ (k:Int) = 17:=by omega
 have k18:¬ (k:Int) = 18:=by omega
 have q1:((k:Int) == 1) = false:=by rw [beq_eq_false_iff_ne];exact k1
 have q2:((k:Int) == 2) = false:=by rw [beq_eq_false_iff_ne];exact k2
 have q3:((k:Int) == 3) = false:=by rw [beq_eq_false_iff_ne];exact k3
 have q4:((k:Int) == 4) = false:=by rw [beq_eq_false_iff_ne];exact k4
 have q5:((k:Int) == 5) = false:=by rw [beq_eq_false_iff_ne];exact k5
 have q6:((k:Int) == 6) = false:=by rw [beq_eq_false_iff_ne];exact k6
 have q15:((k:Int) == 15) = false:=by rw [beq_eq_false_iff_ne];exact k15
 have q16:((k:Int) == 16) = false:=by rw [beq_eq_false_iff_ne];exact k16
 have q17:((k:Int) == 17) = false:=by rw [beq_eq_false_iff_ne];exact k17
 have q18:((k:Int) == 18) = false:=by rw [beq_eq_false_iff_ne];exact k18
 clear hn
 obtain ⟨m,s1⟩:=R
 replace hc:Hid _:=hc
 clear hr hb1 h1 hg
 go_enter Tryz.func57,Tryz.ntmps57
 go_wp2_with (first
  | (refine xac (by rfl) 48 rfl (msgC msg0 none 0 none 0 none 0) xbg ?_;rw [hw1];clear hw1)
  | (refine xab (by rfl) 48 _ rfl w.heap.size rfl 48 (msgC ⟨k,f,t,e,bal0,bal0,false,inc0,0,st0,diff0,ent0,0,op0,res0⟩ none 0 none 0 none 0) _ Tryz.underlying48 rfl (xah _ _ _ _ _ _ _) ?hg ?_;(case hg=>exact hX1))
  | fail)
 refine Calls.mono hc.out ?_
 rintro en w2 ⟨a1,c1,a2,c2,a3,c3,he,sm,nw,h2,o2⟩
 replace he:en = .returned (.agg (msgC m a1 c1 a2 c2 a3 c3)):=he
 replace sm:MsgSl w2 m a1 c1 a2 c2 a3 c3:=sm
 replace h2:RdI p w2 s1:=h2
 subst he
 clear hc x0
 replace hX1:=o2.has hX1 hXp
 replace hY1:=o2.has hY1 hYp
 replace o1:OffP p w w2:=o1.out.trans o2
 have hX2:=hX1.row (msgC m a1 c1 a2 c2 a3 c3)
 have hY2:=hY1.row_other (show w.heap.size + 1 ≠ w.heap.size by omega) (msgC m a1 c1 a2 c2 a3 c3)
 have h3:RdI p (w2.setRow w.heap.size (msgC m a1 c1 a2 c2 a3 c3)) s1:=h2.other (xbb _ _) (by omega)
 have o3:=o1.fresh (xbb w2 (g:=w.heap.size) (msgC m a1 c1 a2 c2 a3 c3)) (Nat.le_refl _)
 have sm3:=MsgSl.off sm (OffF.but (xbb w2 (g:=w.heap.size) (msgC m a1 c1 a2 c2 a3 c3))) (fun ad had z=>by have:=nw.h1 ad had;have:ad.block = w.heap.size:=z;omega) (fun ad had z=>by have:=nw.h2 ad had;have:ad.block = w.heap.size:=z;omega) (fun ad had z=>by have:=nw.h3 ad had;have:ad.block = w.heap.size:=z;omega)
 obtain ⟨w3,hw3⟩:∃ W,w2.setRow w.heap.size (msgC m a1 c1 a2 c2 a3 c3) = W:=⟨_,rfl⟩
 rw [hw3] at hX2 hY2 h3 o3 sm3
 have hE:Hid (BodyR p w (m,s1) (.returned (.agg (msgC m a1 c1 a2 c2 a3 c3))) (w3.setRow (w.heap.size + 1) (msgC m a1 c1 a2 c2 a3 c3))):=by
  refine ⟨a1,c1,a2,c2,a3,c3,rfl,?_,?_,?_,?_⟩
  ·exact MsgSl.off sm3 (OffF.but (xbb w3 (g:=w.heap.size + 1) (msgC m a1 c1 a2 c2 a3 c3))) (fun ad had z=>by have:=nw.h1 ad had;have:ad.block = w.heap.size + 1:=z;omega) (fun ad had z=>by have:=nw.h2 ad had;have:ad.block = w.heap.size + 1:=z;omega) (fun ad had z=>by have:=nw.h3 ad had;have:ad.block = w.heap.size + 1:=z;omega)
  ·exact ⟨fun ad had=>by have:=nw.h1 ad had;omega,fun ad had=>by have:=nw.h2 ad had;omega,fun ad had=>by have:=nw.h3 ad had;omega⟩
  ·exact h3.other (xbb _ _) (by omega)
  ·exact o3.fresh (xbb _ _) (by omega)
 have hRf:=hY2.row (msgC m a1 c1 a2 c2 a3 c3)
 clear h2 o2 h3 o3 sm sm3 nw o1 hY1
 go_wp2_with (first
  | (refine xai (by rfl) 48 _ _ rfl w.heap.size rfl (msgC m a1 c1 a2 c2 a3 c3) rfl 48 (msgC ⟨k,f,t,e,bal0,bal0,false,inc0,0,st0,diff0,ent0,0,op0,res0⟩ none 0 none 0 none 0) (xah _ _ _ _ _ _ _) (xbe _ _ _ _ _ _ _ _ _ _ _ _ _ _) (xbn _ _ _ _ _ _ _) ?hg w3 ?hW ?_;(case hg=>exact hX1);(case hW=>exact hw3))
  | (refine xab (by rfl) 48 _ rfl w.heap.size rfl 48 (msgC m a1 c1 a2 c2 a3 c3) _ Tryz.underlying48 rfl (xah _ _ _ _ _ _ _) ?hg ?_;(case hg=>exact hX2))
  | (refine xai (by rfl) 48 _ _ rfl (w.heap.size + 1) rfl (msgC m a1 c1 a2 c2 a3 c3) rfl 48 (msgC msg0 none 0 none 0 none 0) (xah _ _ _ _ _ _ _) (xbe _ _ _ _ _ _ _ _ _ _ _ _ _ _) (xbn _ _ _ _ _ _ _) ?hg _ rfl ?_;(case hg=>exact hY2))
  | fail)
 exact xba rfl (w.heap.size + 1) rfl 48 (msgC m a1 c1 a2 c2 a3 c3) _ Tryz.underlying48 rfl (xah _ _ _ _ _ _ _) hRf rfl hE.out
theorem rbody_any (k f t e p:Nat) (w:World) (s:RS) (hk:k < 256) (hr:RdI p w s):Calls Tryz.prog 57 #[.pointer (some ⟨p,0,none⟩),.agg (msgC ⟨k,f,t,e,bal0,bal0,false,inc0,0,st0,diff0,ent0,0,op0,res0⟩ none 0 none 0 none 0)] w (BodyR p w (bodyZ k f t e s)):=by
 by_cases h:1 ≤ k ∧ k ≤ 18
 ·rcases (by omega:k = 1 ∨ k = 2 ∨ k = 3 ∨ k = 4 ∨ k = 5 ∨ k = 6 ∨ k = 7 ∨ k = 8 ∨ k = 9 ∨ k = 10 ∨ k = 11 ∨ k = 12 ∨ k = 13 ∨ k = 14 ∨ k = 15 ∨ k = 16 ∨ k = 17 ∨ k = 18) with rfl | rfl | rfl | rfl | rfl | rfl | rfl | rfl | rfl | rfl | rfl | rfl | rfl | rfl | rfl | rfl | rfl | rfl
  ·exact rbody_1 f t e p w s hr
  ·exact rbody_2 f t e p w s hr
  ·exact rbody_3 f t e p w s hr
  ·exact rbody_4 f t e p w s hr
  ·exact rbody_5 f t e p w s hr
  ·exact rbody_6 f t e p w s hr
  ·exact xev 7 f t e p w s _ (by decide) hr fun W h=>grp_7 f t e p W s h
  ·exact xev 8 f t e p w s _ (by decide) hr fun W h=>grp_8 f t e p W s h
  ·exact xev 9 f t e p w s _ (by decide) hr fun W h=>grp_9 f t e p W s h
  ·exact xev 10 f t e p w s _ (by decide) hr fun W h=>grp_10 f t e p W s h
  ·exact xev 11 f t e p w s _ (by decide) hr fun W h=>grp_11 f t e p W s h
  ·exact xev 12 f t e p w s _ (by decide) hr fun W h=>grp_12 f t e p W s h
  ·exact xev 13 f t e p w s _ (by decide) hr fun W h=>grp_13 f t e p W s h
  ·exact xev 14 f t e p w s _ (by decide) hr fun W h=>grp_14 f t e p W s h
  ·exact rbody_15 f t e p w s hr
  ·exact rbody_16 f t e p w s hr
  ·exact rbody_17 f t e p w s hr
  ·exact rbody_18 f t e p w s hr
 ·rw [body_other k f t e h]
  exact xev k f t e p w s _ (by omega) hr fun W h2=>grp_else k f t e p W s hk h h2

theorem By.belowD {a b:World} {B:Nat} {ao:Option Addr} {c:Nat} {xs:List UInt8} (h:By a ao c xs) (k:Below B a b) (hg:∀ ad,ao = some ad → ad.block < B):By b ao c xs:=by
 refine ⟨h.le,h.cap,h.nil,fun ad had j u hu=>?_⟩
 have e:(ad.add j).block = ad.block:=by unfold Addr.add;split <;> rfl
 rw [World.cell?_of_block (w:=a) (by rw [e];exact k.block _ (hg ad had))]
 exact h.at' ad had j u hu
def docD (b:List UInt8):MsgV × Bool:=match decZ b with
 | some m=>(m,true)
 | none=>(msg0,false)
def DecR (w:World) (xs:List UInt8) (e:Ending) (w':World):Prop:=Below w.heap.size w w' ∧ ∃ b1 d1 b2 d2 b3 d3,e = .returned (.tuple #[.agg (msgC (docD xs).1 b1 d1 b2 d2 b3 d3),.bool (docD xs).2]) ∧ MsgSl w' (docD xs).1 b1 d1 b2 d2 b3 d3
theorem DecR.nix {w w':World} {xs:List UInt8} (h:decZ xs = none) (hb:Below w.heap.size w w'):DecR w xs (.returned (.tuple #[.agg (msgC msg0 none 0 none 0 none 0),.bool false])) w':=by
 have e:docD xs = (msg0,false):=by unfold docD;rw [h]
 exact ⟨hb,none,0,none,0,none,0,by rw [e],by rw [e];exact ⟨Sl.nothing _ _,Sl.nothing _ _,Sl.nothing _ _⟩⟩
theorem msg_built1_c (y:Nat):Tryz.prog.built 48 [(0,.int .u8 (y:Int))] = some (msgC ⟨y,0,0,0,bal0,bal0,false,inc0,0,st0,diff0,ent0,0,op0,res0⟩ none 0 none 0 none 0):=by kernel_rfl
theorem msg_built1 (n:Nat):Tryz.prog.built 48 [(0,.int .u8 ((n:Int) % 256))] = some (msgC ⟨n % 256,0,0,0,bal0,bal0,false,inc0,0,st0,diff0,ent0,0,op0,res0⟩ none 0 none 0 none 0):=by rw [modn1];exact msg_built1_c _
theorem headZ_is {s s1 s2 s3 s4 s5:RS} {n1 n2 n3 n4:Nat} {m:MsgV} (e1:numZ 1 s = (n1,s1)) (e2:numZ 1 s1 = (n2,s2)) (e3:numZ 1 s2 = (n3,s3)) (e4:numZ 4 s3 = (n4,s4)) (e5:bodyZ (n1 % 256) (n2 % 256) (n3 % 256) (n4 % 4294967296) s4 = (m,s5)):headZ s = (m,s5):=by
 simp only [headZ,oneZ,fourZ,Rd.bind,Rd.ret,e1,e2,e3,e4,e5]
theorem decZ_long {b:List UInt8} (h:2000 < b.length):decZ b = none:=if_pos h
theorem decZ_lack {b:List UInt8} {m:MsgV} {s5:RS} (h:headZ ⟨b,false⟩ = (m,s5)) (hz:(numZ 8 s5).2.bad = true ∨ (numZ 8 s5).2.left ≠ []):decZ b = none:=by
 unfold decZ
 rw [h]
 show (if 2000 < b.length then none else if (numZ 8 s5).2.bad = true ∨ (numZ 8 s5).2.left ≠ [] then none else if isMsg m = true ∧ sumB (msgB m) = b then some m else none) = none
 rw [if_pos hz]
 split <;> rfl
theorem decZ_not {b:List UInt8} {m:MsgV} {s5:RS} (h:headZ ⟨b,false⟩ = (m,s5)) (hi:¬ (isMsg m = true ∧ sumB (msgB m) = b)):decZ b = none:=by
 unfold decZ
 rw [h]
 show (if 2000 < b.length then none else if (numZ 8 s5).2.bad = true ∨ (numZ 8 s5).2.left ≠ [] then none else if isMsg m = true ∧ sumB (msgB m) = b then some m else none) = none
 rw [if_neg hi]
 split
 ·rfl
 ·split <;> rfl
theorem decZ_yes {b:List UInt8} {m:MsgV} {s5:RS} (hl:¬ 2000 < b.length) (h:headZ ⟨b,false⟩ = (m,s5)) (h1:(numZ 8 s5).2.bad = false) (h2:(numZ 8 s5).2.left = []) (hi:isMsg m = true) (he:sumB (msgB m) = b):decZ b = some m:=by
 unfold decZ
 rw [if_neg hl,h]
 show (if (numZ 8 s5).2.bad = true ∨ (numZ 8 s5).2.left ≠ [] then none else if isMsg m = true ∧ sumB (msgB m) = b then some m else none) = some m
 rw [if_neg (by rw [h1,h2];simp),if_pos ⟨hi,he⟩]
set_option maxHeartbeats 40000000 in
theorem rdec_any (ao:Option Addr) (c:Nat) (xs:List UInt8) (w:World) (h:By w ao c xs) (hlt:∀ ad,ao = some ad → ad.block < w.heap.size) (hl:xs.length ≤ 1000000000):Calls Tryz.prog 18 #[.slice ao xs.length c] w (DecR w xs):=by
 obtain ⟨w1,hw1,hR,hb1⟩:=xbr w 48 (msgC msg0 none 0 none 0 none 0)
 have hcap:=h.cap
 obtain ⟨lx,hlx⟩:∃ n,xs.length = n:=⟨_,rfl⟩
 have hle:=h.le
 rw [hlx] at hl hle ⊢
 by_cases k1:2000 < lx
 ·have k1I:(2000:Int) < (lx:Int):=by omega
  have hD:Hid (decZ xs = none):=decZ_long (by omega)
  have hRf:=hR.row (msgC msg0 none 0 none 0 none 0)
  have hE:Hid (DecR w xs (.returned (.tuple #[.agg (msgC msg0 none 0 none 0 none 0),.bool false])) (w1.setRow w.heap.size (msgC msg0 none 0 none 0 none 0))):=DecR.nix hD.out (below_setRow hb1 (Nat.le_refl _) _)
  replace hlx:Hid _:=hlx
  clear h hlt hb1 k1 hD
  go_enter Tryz.func18,Tryz.ntmps18
  go_wp2_with (first
   | (refine xac (by rfl) 48 rfl (msgC msg0 none 0 none 0 none 0) xbg ?_;rw [hw1];clear hw1)
   | (refine xbi (by rfl) 48 [] rfl [] rfl (msgC msg0 none 0 none 0 none 0) xfi ?_)
   | (refine xai (by rfl) 48 _ _ rfl w.heap.size rfl (msgC msg0 none 0 none 0 none 0) rfl 48 (msgC msg0 none 0 none 0 none 0) (xah _ _ _ _ _ _ _) rfl (xbn _ _ _ _ _ _ _) ?hg _ rfl ?_;(case hg=>exact hR))
   | fail)
  exact xes rfl w.heap.size rfl 48 (msgC msg0 none 0 none 0 none 0) _ Tryz.underlying48 rfl (xah _ _ _ _ _ _ _) hRf rfl hE.out
 have n1I:¬ (2000:Int) < (lx:Int):=by omega
 have hnl:Hid (¬ 2000 < xs.length):=by show ¬ _;rw [hlx];exact k1
 obtain ⟨w2,hw2,hP,hb2⟩:=xbr w1 113 #[.slice ao lx c,.bool false]
 have s1:w1.heap.size = w.heap.size + 1:=by rw [← hw1];simp
 rw [s1] at hP
 have hI:RdI (w.heap.size + 1) w2 ⟨xs,false⟩:=⟨ao,c,by rw [show (⟨xs,false⟩:RS).left.length = lx from hlx];exact hP,(h.later hb1).later hb2,fun ad had=>by have:=hlt ad had;omega,by show xs.length ≤ _;omega⟩
 replace hR:=hR.later hb2
 have hR2:Hid (w.heap.size < w2.heap.size):=hR.lt
 have hb:Below w.heap.size w w2:=hb1.trans (hb2.mono hb1.size)
 have hBx:Hid (∀ W,Below w.heap.size w W → By W ao c xs):=fun W hW=>h.belowD hW hlt
 obtain ⟨p,hp⟩:∃ p,p = w.heap.size + 1:=⟨_,rfl⟩
 obtain ⟨m1,t1,e1⟩:∃ n s',numZ 1 ⟨xs,false⟩ = (n,s'):=⟨_,_,rfl⟩
 obtain ⟨m2,t2,e2⟩:∃ n s',numZ 1 t1 = (n,s'):=⟨_,_,rfl⟩
 obtain ⟨m3,t3,e3⟩:∃ n s',numZ 1 t2 = (n,s'):=⟨_,_,rfl⟩
 obtain ⟨m4,t4,e4⟩:∃ n s',numZ 4 t3 = (n,s'):=⟨_,_,rfl⟩
 obtain ⟨mv,t5,e5⟩:∃ m s',bodyZ (m1 % 256) (m2 % 256) (m3 % 256) (m4 % 4294967296) t4 = (m,s'):=⟨_,_,rfl⟩
 obtain ⟨m6,t6,e6⟩:∃ n s',numZ 8 t5 = (n,s'):=⟨_,_,rfl⟩
 have hH:Hid (headZ ⟨xs,false⟩ = (mv,t5)):=headZ_is e1 e2 e3 e4 e5
 have hok:Hid (MsgOk mv):=by
  have z:=headZ_ok ⟨xs,false⟩
  rw [hH.out] at z
  exact z
 have hc:=xbu (w.heap.size + 1) 1 w2 ⟨xs,false⟩ hI (by decide) (by decide)
 rw [e1] at hc
 replace hc:Hid _:=hc
 replace hlx:Hid _:=hlx
 clear h hlt hI hb1 hb2 hP k1 hl
 go_enter Tryz.func18,Tryz.ntmps18
 go_wp2_with (first
  | (refine xac (by rfl) 48 rfl (msgC msg0 none 0 none 0 none 0) xbg ?_;rw [hw1];clear hw1)
  | (refine xcu (by rfl) 113 0 _ rfl (.slice ao lx c) rfl #[.slice ao lx c,.bool false] (reader_built _ _ _) ?_)
  | (refine Go.Great.wpList_boxTo rfl 113 _ rfl _ rfl (w.heap.size + 1) rfl #[.slice ao lx c,.bool false] rfl ?_;rw [hw2];clear hw2)
  | fail)
 refine Calls.mono hc.out ?_
 rintro en w3 ⟨he,h3,o3⟩
 replace he:en = .returned (.int .u64 (m1:Nat)):=he
 subst he
 clear hc
 have hRp:w.heap.size ≠ w.heap.size + 1:=by omega
 replace hR:=o3.has hR hRp
 have hR3:=hR.lt
 have hp3:=h3.lt
 have o1:Hid (OffP (w.heap.size + 1) w w3):=(OffF.of hb).trans o3
 obtain ⟨w4,hw4,hX,hq⟩:=xcm w3 48 (msgC msg0 none 0 none 0 none 0) (msgC ⟨m1 % 256,0,0,0,bal0,bal0,false,inc0,0,st0,diff0,ent0,0,op0,res0⟩ none 0 none 0 none 0)
 replace hR:=hR.later hq
 replace h3:=h3.later hq
 replace o1:Hid (OffP (w.heap.size + 1) w w4):=o1.out.trans (OffF.of hq)
 have hc:=xbu (w.heap.size + 1) 1 w4 t1 h3 (by decide) (by decide)
 rw [e2] at hc
 replace hc:Hid _:=hc
 have hbt:Hid _:=msg_built1 m1
 clear h3 o3 hq hb
 go_wp2_with (first
  | (refine xcu (by rfl) 48 0 _ rfl (.int .u8 ((m1:Int) % 256)) rfl (msgC ⟨m1 % 256,0,0,0,bal0,bal0,false,inc0,0,st0,diff0,ent0,0,op0,res0⟩ none 0 none 0 none 0) hbt.out ?_)
  | (refine xac (by rfl) 48 rfl (msgC msg0 none 0 none 0 none 0) xbg ?_)
  | (refine xai (by rfl) 48 _ _ rfl w3.heap.size rfl (msgC ⟨m1 % 256,0,0,0,bal0,bal0,false,inc0,0,st0,diff0,ent0,0,op0,res0⟩ none 0 none 0 none 0) rfl 48 (msgC msg0 none 0 none 0 none 0) (xah _ _ _ _ _ _ _) rfl (xbn _ _ _ _ _ _ _) ?hg w4 ?hW ?_;(case hg=>exact Has.new _ _ _);(case hW=>exact hw4);clear hw4)
  | fail)
 have hXp:w3.heap.size ≠ w.heap.size + 1:=by omega
 have hRX:w.heap.size ≠ w3.heap.size:=by omega
 clear hbt
 refine Calls.mono hc.out ?_
 rintro en w5 ⟨he,h2,o2⟩
 replace he:en = .returned (.int .u64 (m2:Nat)):=he
 subst he
 clear hc
 replace hR:=o2.has hR hRp
 replace hX:=o2.has hX hXp
 replace o1:Hid (OffP (w.heap.size + 1) w w5):=o1.out.trans o2
 have hcell:w5.cell? ⟨w3.heap.size,1,none⟩ = some (.int .u8 0):=hX.cell 1
 have hfree:=hX.free 1
 obtain ⟨x2,hx2⟩:∃ W,w5.setCell ⟨w3.heap.size,1,none⟩ (.int .u8 ((m2:Int) % 256)) = W:=⟨_,rfl⟩
 have hX':Has x2 w3.heap.size 48 (msgC ⟨m1 % 256,m2 % 256,0,0,bal0,bal0,false,inc0,0,st0,diff0,ent0,0,op0,res0⟩ none 0 none 0 none 0):=by
  rw [← hx2]
  have z:=hX.set 1 (.int .u8 ((m2:Int) % 256))
  rw [modn1] at z
  exact z
 have hR':Has x2 w.heap.size 48 (msgC msg0 none 0 none 0 none 0):=by rw [← hx2];exact hR.set_other hRX _
 have h3:RdI (w.heap.size + 1) x2 t2:=by rw [← hx2];exact h2.other (xaq _ _ _) (by show w.heap.size + 1 < w3.heap.size;omega)
 have o3:Hid (OffP (w.heap.size + 1) w x2):=by rw [← hx2];exact o1.out.fresh (xaq _ _ _) (by show w.heap.size ≤ w3.heap.size;omega)
 clear h2 o2 hX hR o1
 have hX:=hX'
 have hR:=hR'
 have o1:=o3
 clear hX' hR' o3
 have hc:=xbu (w.heap.size + 1) 1 x2 t2 h3 (by decide) (by decide)
 rw [e3] at hc
 replace hc:Hid _:=hc
 clear h3
 go_wp2_with fail
 try rw [hx2]
 clear hx2 hcell hfree
 refine Calls.mono hc.out ?_
 rintro en w6 ⟨he,h2,o2⟩
 replace he:en = .returned (.int .u64 (m3:Nat)):=he
 subst he
 clear hc
 replace hR:=o2.has hR hRp
 replace hX:=o2.has hX hXp
 replace o1:Hid (OffP (w.heap.size + 1) w w6):=o1.out.trans o2
 have hcell:w6.cell? ⟨w3.heap.size,2,none⟩ = some (.int .u8 0):=hX.cell 2
 have hfree:=hX.free 2
 obtain ⟨x3,hx3⟩:∃ W,w6.setCell ⟨w3.heap.size,2,none⟩ (.int .u8 ((m3:Int) % 256)) = W:=⟨_,rfl⟩
 have hX':Has x3 w3.heap.size 48 (msgC ⟨m1 % 256,m2 % 256,m3 % 256,0,bal0,bal0,false,inc0,0,st0,diff0,ent0,0,op0,res0⟩ none 0 none 0 none 0):=by
  rw [← hx3]
  have z:=hX.set 2 (.int .u8 ((m3:Int) % 256))
  rw [modn1] at z
  exact z
 have hR':Has x3 w.heap.size 48 (msgC msg0 none 0 none 0 none 0):=by rw [← hx3];exact hR.set_other hRX _
 have h3:RdI (w.heap.size + 1) x3 t3:=by rw [← hx3];exact h2.other (xaq _ _ _) (by show w.heap.size + 1 < w3.heap.size;omega)
 have o3:Hid (OffP (w.heap.size + 1) w x3):=by rw [← hx3];exact o1.out.fresh (xaq _ _ _) (by show w.heap.size ≤ w3.heap.size;omega)
 clear h2 o2 hX hR o1
 have hX:=hX'
 have hR:=hR'
 have o1:=o3
 clear hX' hR' o3
 have hc:=xbu (w.heap.size + 1) 4 x3 t3 h3 (by decide) (by decide)
 rw [e4] at hc
 replace hc:Hid _:=hc
 clear h3
 go_wp2_with fail
 try rw [hx3]
 clear hx3 hcell hfree
 refine Calls.mono hc.out ?_
 rintro en w7 ⟨he,h2,o2⟩
 replace he:en = .returned (.int .u64 (m4:Nat)):=he
 subst he
 clear hc
 replace hR:=o2.has hR hRp
 replace hX:=o2.has hX hXp
 replace o1:Hid (OffP (w.heap.size + 1) w w7):=o1.out.trans o2
 have hcell:w7.cell? ⟨w3.heap.size,3,none⟩ = some (.int .u32 0):=hX.cell 3
 have hfree:=hX.free 3
 obtain ⟨x4,hx4⟩:∃ W,w7.setCell ⟨w3.heap.size,3,none⟩ (.int .u32 ((m4:Int) % 4294967296)) = W:=⟨_,rfl⟩
 have hX':Has x4 w3.heap.size 48 (msgC ⟨m1 % 256,m2 % 256,m3 % 256,m4 % 4294967296,bal0,bal0,false,inc0,0,st0,diff0,ent0,0,op0,res0⟩ none 0 none 0 none 0):=by
  rw [← hx4]
  have z:=hX.set 3 (.int .u32 ((m4:Int) % 4294967296))
  rw [modn4] at z
  exact z
 have hR':Has x4 w.heap.size 48 (msgC msg0 none 0 none 0 none 0):=by rw [← hx4];exact hR.set_other hRX _
 have h3:RdI (w.heap.size + 1) x4 t4:=by rw [← hx4];exact h2.other (xaq _ _ _) (by show w.heap.size + 1 < w3.heap.size;omega)
 have o3:Hid (OffP (w.heap.size + 1) w x4):=by rw [← hx4];exact o1.out.fresh (xaq _ _ _) (by show w.heap.size ≤ w3.heap.size;omega)
 clear h2 o2 hX hR o1
 have hX:=hX'
 have hR:=hR'
 have o1:=o3
 clear hX' hR' o3
 have hk256:m1 % 256 < 256:=Nat.mod_lt _ (by decide)
 have hc:=rbody_any (m1 % 256) (m2 % 256) (m3 % 256) (m4 % 4294967296) (w.heap.size + 1) x4 t4 hk256 h3
 rw [e5] at hc
 replace hc:Hid _:=hc
 have hsX:w3.heap.size < x4.heap.size:=hX.lt
 clear h3 hk256
 go_wp2_with (first
  | (refine xab (by rfl) 48 _ rfl w3.heap.size rfl 48 (msgC ⟨m1 % 256,m2 % 256,m3 % 256,m4 % 4294967296,bal0,bal0,false,inc0,0,st0,diff0,ent0,0,op0,res0⟩ none 0 none 0 none 0) _ Tryz.underlying48 rfl (xah _ _ _ _ _ _ _) ?hg ?_;(case hg=>(try rw [hx4]);exact hX);(try rw [hx4]))
  | fail)
 try rw [hx4]
 clear hx4 hcell hfree
 refine Calls.mono hc.out ?_
 rintro en w8 ⟨a1,c1,a2,c2,a3,c3,he,sm,nw,h2,o2⟩
 replace he:en = .returned (.agg (msgC mv a1 c1 a2 c2 a3 c3)):=he
 replace sm:MsgSl w8 mv a1 c1 a2 c2 a3 c3:=sm
 replace h2:RdI (w.heap.size + 1) w8 t5:=h2
 subst he
 clear hc
 replace hR:=o2.has hR hRp
 replace hX:=o2.has hX hXp
 replace o1:Hid (OffP (w.heap.size + 1) w w8):=o1.out.trans o2
 have hX2:=hX.row (msgC mv a1 c1 a2 c2 a3 c3)
 have hR2':=hR.row_other hRX (msgC mv a1 c1 a2 c2 a3 c3)
 have h3:RdI (w.heap.size + 1) (w8.setRow w3.heap.size (msgC mv a1 c1 a2 c2 a3 c3)) t5:=h2.other (xbb _ _) (by omega)
 have o3:=o1.out.fresh (xbb w8 (g:=w3.heap.size) (msgC mv a1 c1 a2 c2 a3 c3)) (by omega)
 have sm3:=MsgSl.off sm (OffF.but (xbb w8 (g:=w3.heap.size) (msgC mv a1 c1 a2 c2 a3 c3))) (fun ad had z=>by have:=nw.h1 ad had;have:ad.block = w3.heap.size:=z;omega) (fun ad had z=>by have:=nw.h2 ad had;have:ad.block = w3.heap.size:=z;omega) (fun ad had z=>by have:=nw.h3 ad had;have:ad.block = w3.heap.size:=z;omega)
 obtain ⟨w9,hw9⟩:∃ W,w8.setRow w3.heap.size (msgC mv a1 c1 a2 c2 a3 c3) = W:=⟨_,rfl⟩
 rw [hw9] at hX2 hR2' h3 o3 sm3
 have hf1:∀ ad,a1 = some ad → w.heap.size + 1 < ad.block:=fun ad had=>by have:=nw.h1 ad had;omega
 have hf2:∀ ad,a2 = some ad → w.heap.size + 1 < ad.block:=fun ad had=>by have:=nw.h2 ad had;omega
 have hf3:∀ ad,a3 = some ad → w.heap.size + 1 < ad.block:=fun ad had=>by have:=nw.h3 ad had;omega
 have hc:=xbu (w.heap.size + 1) 8 w9 t5 h3 (by decide) (by decide)
 rw [e6] at hc
 replace hc:Hid _:=hc
 clear h2 o2 h3 sm nw o1 hR hsX
 replace o3:Hid _:=o3
 replace sm3:Hid _:=sm3
 replace hf1:Hid _:=hf1
 replace hf2:Hid _:=hf2
 replace hf3:Hid _:=hf3
 go_wp2_with (first
  | (refine xai (by rfl) 48 _ _ rfl w3.heap.size rfl (msgC mv a1 c1 a2 c2 a3 c3) rfl 48 (msgC ⟨m1 % 256,m2 % 256,m3 % 256,m4 % 4294967296,bal0,bal0,false,inc0,0,st0,diff0,ent0,0,op0,res0⟩ none 0 none 0 none 0) (xah _ _ _ _ _ _ _) (xbe _ _ _ _ _ _ _ _ _ _ _ _ _ _) (xbn _ _ _ _ _ _ _) ?hg w9 ?hW ?_;(case hg=>exact hX);(case hW=>exact hw9);clear hw9)
  | fail)
 clear hX
 refine Calls.mono hc.out ?_
 rintro en w10 ⟨he,h4,o4⟩
 replace he:en = .returned (.int .u64 (m6:Nat)):=he
 subst he
 clear hc
 replace h4:RdI (w.heap.size + 1) w10 t6:=h4
 have hX:=o4.has hX2 hXp
 have hR:=o4.has hR2' hRp
 have o5:Hid (OffP (w.heap.size + 1) w w10):=o3.out.trans o4
 have sm:Hid (MsgSl w10 mv a1 c1 a2 c2 a3 c3):=MsgSl.off sm3.out o4 (fun ad had z=>by have:=hf1.out ad had;have:ad.block = w.heap.size + 1:=z;omega) (fun ad had z=>by have:=hf2.out ad had;have:ad.block = w.heap.size + 1:=z;omega) (fun ad had z=>by have:=hf3.out ad had;have:ad.block = w.heap.size + 1:=z;omega)
 have hbW:Below w.heap.size w w10:=o5.out.below (fun b z=>by have:b = w.heap.size + 1:=z;omega) (Nat.le_refl _)
 have hm6:Hid (numZ 8 t5 = (m6,t6)):=e6
 clear hX2 hR2' o3 o4 sm3 o5 e6
 obtain ⟨hbad,hbfr⟩:=h4.bad
 obtain ⟨A,C,hp4,hB4,hA4,_⟩:=h4
 have hleft:w10.cell? ⟨(w.heap.size + 1),0,none⟩ = some (.slice A t6.left.length C):=hp4.cell 0
 obtain ⟨ll,hll⟩:∃ n,t6.left.length = n:=⟨_,rfl⟩
 rw [hll] at hleft
 replace hll:Hid _:=hll
 have hRf:=hR.row (msgC msg0 none 0 none 0 none 0)
 have hEn:Hid (decZ xs = none → DecR w xs (.returned (.tuple #[.agg (msgC msg0 none 0 none 0 none 0),.bool false])) (w10.setRow w.heap.size (msgC msg0 none 0 none 0 none 0))):=fun hD=>DecR.nix hD (below_setRow hbW (Nat.le_refl _) _)
 obtain ⟨t6l,t6b⟩:=t6
 replace hbad:w10.cell? ⟨(w.heap.size + 1),1,none⟩ = some (.bool t6b):=hbad
 clear hp4 hB4 hA4
 cases hbd:t6b with
 | true =>
  rw [hbd] at hbad
  have hE:Hid _:=hEn.out (decZ_lack hH.out (.inl (by rw [hm6.out];exact hbd)))
  clear hbW sm hX hleft hEn
  go_wp2_with (first
   | (refine xbi (by rfl) 48 [] rfl [] rfl (msgC msg0 none 0 none 0 none 0) xfi ?_)
   | (refine xai (by rfl) 48 _ _ rfl w.heap.size rfl (msgC msg0 none 0 none 0 none 0) rfl 48 (msgC msg0 none 0 none 0 none 0) (xah _ _ _ _ _ _ _) rfl (xbn _ _ _ _ _ _ _) ?hg _ rfl ?_;(case hg=>exact hR))
   | fail)
  exact xes rfl w.heap.size rfl 48 (msgC msg0 none 0 none 0 none 0) _ Tryz.underlying48 rfl (xah _ _ _ _ _ _ _) hRf rfl hE.out
 | false =>
 rw [hbd] at hbad
 by_cases kl:0 < ll
 ·have klI:(0:Int) < (ll:Int):=by omega
  have hE:Hid _:=hEn.out (decZ_lack hH.out (.inr (by rw [hm6.out];show t6l ≠ [];intro z;have:=hll.out;rw [show t6l = [] from z] at this;have:(0:Nat) = ll:=this;omega)))
  clear hbW sm hX hEn
  go_wp2_with (first
   | (refine xbi (by rfl) 48 [] rfl [] rfl (msgC msg0 none 0 none 0 none 0) xfi ?_)
   | (refine xai (by rfl) 48 _ _ rfl w.heap.size rfl (msgC msg0 none 0 none 0 none 0) rfl 48 (msgC msg0 none 0 none 0 none 0) (xah _ _ _ _ _ _ _) rfl (xbn _ _ _ _ _ _ _) ?hg _ rfl ?_;(case hg=>exact hR))
   | fail)
  exact xes rfl w.heap.size rfl 48 (msgC msg0 none 0 none 0 none 0) _ Tryz.underlying48 rfl (xah _ _ _ _ _ _ _) hRf rfl hE.out
 have hl0:Hid (t6l = []):=List.eq_nil_of_length_eq_zero (by have:t6l.length = ll:=hll.out;omega)
 have ll0:ll = 0:=by omega
 subst ll0
 clear kl hRf hEn
 cases hi:isMsg mv with
 | false =>
  have hD:Hid (decZ xs = none):=decZ_not hH.out (fun z=>by rw [hi] at z;cases z.1)
  have hc:=denc_no mv a1 a2 a3 c1 c2 c3 w10 hok.out sm.out hi
  replace hc:Hid _:=hc
  clear sm hi
  go_wp2_with (first
   | (refine xab (by rfl) 48 _ rfl w3.heap.size rfl 48 (msgC mv a1 c1 a2 c2 a3 c3) _ Tryz.underlying48 rfl (xah _ _ _ _ _ _ _) ?hg ?_;(case hg=>exact hX))
   | fail)
  refine Calls.mono hc.out ?_
  rintro en w11 ⟨rfl,hq⟩
  clear hc hX hbad hleft
  replace hR:=hR.later hq
  replace hbW:=hbW.trans (hq.mono hbW.size)
  have hRf:=hR.row (msgC msg0 none 0 none 0 none 0)
  have hE:Hid (DecR w xs (.returned (.tuple #[.agg (msgC msg0 none 0 none 0 none 0),.bool false])) (w11.setRow w.heap.size (msgC msg0 none 0 none 0 none 0))):=DecR.nix hD.out (below_setRow hbW (Nat.le_refl _) _)
  clear hbW hq
  go_wp2_with (first
   | (refine xbi (by rfl) 48 [] rfl [] rfl (msgC msg0 none 0 none 0 none 0) xfi ?_)
   | (refine xai (by rfl) 48 _ _ rfl w.heap.size rfl (msgC msg0 none 0 none 0 none 0) rfl 48 (msgC msg0 none 0 none 0 none 0) (xah _ _ _ _ _ _ _) rfl (xbn _ _ _ _ _ _ _) ?hg _ rfl ?_;(case hg=>exact hR))
   | fail)
  exact xes rfl w.heap.size rfl 48 (msgC msg0 none 0 none 0 none 0) _ Tryz.underlying48 rfl (xah _ _ _ _ _ _ _) hRf rfl hE.out
 | true =>
  have hc:=denc_yes mv a1 a2 a3 c1 c2 c3 w10 hok.out sm.out hi
  have hyes:Hid (sumB (msgB mv) = xs → decZ xs = some mv):=fun z=>decZ_yes hnl.out hH.out (by rw [hm6.out];exact hbd) (by rw [hm6.out];exact hl0.out) hi z
  have hno:Hid (¬ sumB (msgB mv) = xs → decZ xs = none):=fun z=>decZ_not hH.out (fun y=>z y.2)
  obtain ⟨P,hPe⟩:∃ l,sumB (msgB mv) = l:=⟨_,rfl⟩
  unfold EncR at hc
  rw [hPe] at hc hyes hno
  obtain ⟨lp,hlp⟩:∃ n,P.length = n:=⟨_,rfl⟩
  rw [hlp] at hc
  replace hc:Hid _:=hc
  replace hlp:Hid _:=hlp
  clear hi hPe
  go_wp2_with (first
   | (refine xab (by rfl) 48 _ rfl w3.heap.size rfl 48 (msgC mv a1 c1 a2 c2 a3 c3) _ Tryz.underlying48 rfl (xah _ _ _ _ _ _ _) ?hg ?_;(case hg=>exact hX))
   | fail)
  refine Calls.mono hc.out ?_
  rintro en w11 ⟨g11,k11,rfl,-,hB,hq⟩
  clear hc hbad hleft
  replace hR:=hR.later hq
  replace hX:=hX.later hq
  have sm11:Hid (MsgSl w11 mv a1 c1 a2 c2 a3 c3):=sm.out.later hq
  replace hbW:=hbW.trans (hq.mono hbW.size)
  have hBx11:=hBx.out w11 hbW
  have y1:=str_of1 hB hlp.out.symm
  have y2:=str_of1 hBx11 hlx.out.symm
  have hcap11:=hB.cap
  have hle11:=hB.le
  rw [hlp.out] at hle11
  clear hB hBx11 hq sm
  by_cases hs:P = xs
  ·subst hs
   have hD:Hid (docD P = (mv,true)):=by show _ = _;unfold docD;rw [hyes.out rfl]
   have hRf:=hR.row (msgC mv a1 c1 a2 c2 a3 c3)
   have hE:Hid (DecR w P (.returned (.tuple #[.agg (msgC mv a1 c1 a2 c2 a3 c3),.bool true])) (w11.setRow w.heap.size (msgC mv a1 c1 a2 c2 a3 c3))):=by
    refine ⟨below_setRow hbW (Nat.le_refl _) _,a1,c1,a2,c2,a3,c3,by rw [hD.out],?_⟩
    rw [hD.out]
    exact MsgSl.off sm11.out (OffF.but (xbb w11 (g:=w.heap.size) (msgC mv a1 c1 a2 c2 a3 c3))) (fun ad had z=>by have:=hf1.out ad had;have:ad.block = w.heap.size:=z;omega) (fun ad had z=>by have:=hf2.out ad had;have:ad.block = w.heap.size:=z;omega) (fun ad had z=>by have:=hf3.out ad had;have:ad.block = w.heap.size:=z;omega)
   clear hbW
   go_wp2_with (first
    | (refine xab (by rfl) 48 _ rfl w3.heap.size rfl 48 (msgC mv a1 c1 a2 c2 a3 c3) _ Tryz.underlying48 rfl (xah _ _ _ _ _ _ _) ?hg ?_;(case hg=>exact hX))
    | (refine xai (by rfl) 48 _ _ rfl w.heap.size rfl (msgC mv a1 c1 a2 c2 a3 c3) rfl 48 (msgC msg0 none 0 none 0 none 0) (xah _ _ _ _ _ _ _) (xbe _ _ _ _ _ _ _ _ _ _ _ _ _ _) (xbn _ _ _ _ _ _ _) ?hg _ rfl ?_;(case hg=>exact hR))
    | fail)
   exact xes rfl w.heap.size rfl 48 (msgC mv a1 c1 a2 c2 a3 c3) _ Tryz.underlying48 rfl (xah _ _ _ _ _ _ _) hRf rfl hE.out
  ·have hD:Hid (decZ xs = none):=hno.out hs
   have hsL:(P == xs) = false:=by rw [beq_eq_false_iff_ne];exact hs
   have hRf:=hR.row (msgC msg0 none 0 none 0 none 0)
   have hE:Hid (DecR w xs (.returned (.tuple #[.agg (msgC msg0 none 0 none 0 none 0),.bool false])) (w11.setRow w.heap.size (msgC msg0 none 0 none 0 none 0))):=DecR.nix hD.out (below_setRow hbW (Nat.le_refl _) _)
   clear hbW hX hs
   go_wp2_with (first
    | (refine xbi (by rfl) 48 [] rfl [] rfl (msgC msg0 none 0 none 0 none 0) xfi ?_)
    | (refine xai (by rfl) 48 _ _ rfl w.heap.size rfl (msgC msg0 none 0 none 0 none 0) rfl 48 (msgC msg0 none 0 none 0 none 0) (xah _ _ _ _ _ _ _) rfl (xbn _ _ _ _ _ _ _) ?hg _ rfl ?_;(case hg=>exact hR))
    | fail)
   exact xes rfl w.heap.size rfl 48 (msgC msg0 none 0 none 0 none 0) _ Tryz.underlying48 rfl (xah _ _ _ _ _ _ _) hRf rfl hE.out
end Go.Proofs.YtecilienolabfaaGreatDoor
