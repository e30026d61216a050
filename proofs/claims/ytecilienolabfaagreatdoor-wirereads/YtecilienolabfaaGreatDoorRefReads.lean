/- RdMath, RdOk, RefRead, RefReadOp, EntApp, RefReadLog, RefReadSt, RefGetSt, joined. -/
import Derived.Test.YtecilienolabfaaGreatDoorMsgFacts
import Derived.Test.YtecilienolabfaaGreatDoorRef3
import Derived.Test.YtecilienolabfaaGreatDoorCoder
import Derived.Test.YtecilienolabfaaGreatDoorPackCode
import Derived.Test.YtecilienolabfaaGreatDoorRefPuts
import Derived.Test.YtecilienolabfaaGreatDoorPackObj
import Derived.Test.YtecilienolabfaaGreatDoorEntRow
import Derived.Maps.AppendAt
import Derived.Test.YtecilienolabfaaGreatDoorPackRead
namespace Go.Proofs.YtecilienolabfaaGreatDoor
set_option linter.unusedSimpArgs false
set_option linter.unusedVariables false
set_option maxRecDepth 100000
open Go.RowKit
structure RS where
 left:List UInt8
 bad:Bool
abbrev Rd (α:Type):=RS → α × RS
def Rd.ret {α:Type} (x:α):Rd α:=fun s=>(x,s)
def Rd.bind {α β:Type} (m:Rd α) (f:α → Rd β):Rd β:=fun s=>f (m s).1 (m s).2
theorem rd_assoc {α β γ:Type} (m:Rd α) (f:α → Rd β) (g:β → Rd γ):(m.bind f).bind g = m.bind fun x=>(f x).bind g:=rfl
theorem rd_left {α β:Type} (x:α) (f:α → Rd β):(Rd.ret x).bind f = f x:=rfl
def numZ (k:Nat):Rd Nat:=fun s=>if s.left.length < k then (0,⟨s.left,true⟩) else (getN (s.left.take k),⟨s.left.drop k,s.bad⟩)
def txtZ (most:Nat):Rd (List UInt8):=fun s=>if xbt s.left (most:Int) = 0 then ((s.left.drop 2).take (lenN s.left),⟨s.left.drop (2 + lenN s.left),s.bad⟩) else ([],⟨s.left,true⟩)
def oneZ:Rd Nat:=(numZ 1).bind fun m=>.ret (m % 256)
def fourZ:Rd Nat:=(numZ 4).bind fun m=>.ret (m % 4294967296)
def badZ (b:Bool):Rd Unit:=fun s=>((),⟨s.left,s.bad || b⟩)
def opZ:Rd OpV:=oneZ.bind fun c=>fourZ.bind fun s=>oneZ.bind fun k=>oneZ.bind fun j=>oneZ.bind fun p=>(txtZ 16).bind fun d=>.ret ⟨c,s,k,j,p,d⟩
def entZ:Rd EntV:=fourZ.bind fun s=>fourZ.bind fun n=>opZ.bind fun o=>.ret ⟨s,n,o⟩
def logTo (n:Nat):Nat → Nat → List EntV → Rd (List EntV)
 | 0,_,l=>.ret l
 | f + 1,i,l=>fun s=>if i < n ∧ i ≤ 6 ∧ s.bad = false then (entZ.bind fun e=>logTo n f (i + 1) (l ++ [e])) s else (l,s)
def logZ:Rd (List EntV):=oneZ.bind fun n=>(logTo n 7 0 []).bind fun l=>(badZ (decide (6 < n))).bind fun _=>.ret l
def setA (x:ObjV) (k:Nat) (t:List UInt8):ObjV:=if k = 0 then { x with a0:=t } else if k = 1 then { x with a1:=t } else { x with a2:=t }
def atrsZ:Nat → ObjV → Rd ObjV
 | 0,x=>.ret x
 | k + 1,x=>(atrsZ k x).bind fun y=>(txtZ 16).bind fun t=>.ret (setA y k t)
def thereZ:Rd Bool:=oneZ.bind fun n=>(badZ (decide (1 < n))).bind fun _=>.ret (decide (n = 1))
def obZ:Rd ObjV:=thereZ.bind fun t=>(txtZ 16).bind fun d=>atrsZ 3 ⟨t,d,[],[],[]⟩
def setO (b:BaseV) (n:Nat) (y:ObjV):BaseV:={ b with obj:=fun j=>if j.val = n then y else b.obj j }
def setL (b:BaseV) (n:Nat) (l:LastV):BaseV:={ b with last:=fun j=>if j.val = n then l else b.last j }
def objsZ:Nat → BaseV → Rd BaseV
 | 0,b=>.ret b
 | n + 1,b=>(objsZ n b).bind fun b'=>obZ.bind fun y=>.ret (setO b' n y)
def lastZ:Rd LastV:=fourZ.bind fun s=>oneZ.bind fun c=>.ret ⟨s,⟨c,[]⟩⟩
def lastsZ:Nat → BaseV → Rd BaseV
 | 0,b=>.ret b
 | n + 1,b=>(lastsZ n b).bind fun b'=>lastZ.bind fun l=>.ret (setL b' n l)
def stZ:Rd StV:=fourZ.bind fun a=>fourZ.bind fun s=>fourZ.bind fun n=>(objsZ 6 base0).bind fun b=>(lastsZ 3 b).bind fun b'=>logZ.bind fun l=>.ret ⟨a,b',⟨s,n,op0⟩,l⟩
structure Like {α:Type} (R:Rd α) (M:Wk α):Prop where
 bad:∀ s,(R ⟨s,true⟩).2.bad = true
 is:∀ s x r,R ⟨s,false⟩ = (x,⟨r,false⟩) ↔ M s = .ok (x,r)
theorem xdq {α:Type} (x:α):Like (.ret x) (.ret x) where
 bad:=fun s=>rfl
 is:=fun s y r=>by
  rw [ret_ok]
  constructor
  ·intro h
   injection h with h1 h2
   injection h2 with h2 _
   exact ⟨h1,h2⟩
  ·rintro ⟨rfl,rfl⟩;rfl
theorem xbd {α β:Type} {R:Rd α} {M:Wk α} {f:α → Rd β} {g:α → Wk β} (h:Like R M) (hf:∀ x,Like (f x) (g x)):Like (R.bind f) (M.bind g) where
 bad:=fun s=>by
  have:=h.bad s
  show ((f (R ⟨s,true⟩).1) (R ⟨s,true⟩).2).2.bad = true
  cases hR:(R ⟨s,true⟩).2 with
  | mk l b =>
   rw [hR] at this
   have:b = true:=this
   subst this
   exact (hf _).bad l
 is:=fun s y r=>by
  rw [xaw]
  constructor
  ·intro e
   cases hR:R ⟨s,false⟩ with
   | mk x t =>
    obtain ⟨l,b⟩:=t
    have e:(f (R ⟨s,false⟩).1) (R ⟨s,false⟩).2 = (y,⟨r,false⟩):=e
    rw [hR] at e
    cases b with
    | true =>
     have:=(hf x).bad l
     rw [show (f x ⟨l,true⟩) = (y,⟨r,false⟩) from e] at this
     cases this
    | false=>exact ⟨x,l,(h.is s x l).1 hR,((hf x).is l y r).1 e⟩
  ·rintro ⟨x,l,h1,h2⟩
   show (f (R ⟨s,false⟩).1) (R ⟨s,false⟩).2 = _
   rw [(h.is s x l).2 h1]
   exact ((hf x).is l y r).2 h2
theorem like_num (z k:Nat):Like (numZ k) (GetC.num z k) where
 bad:=fun s=>by
  unfold numZ
  split <;> rfl
 is:=fun s x r=>by
  rw [get_num]
  unfold numZ
  split
  ·rename_i h
   constructor
   ·intro e
    injection e with _ e
    injection e with _ e
    cases e
   ·rintro ⟨h1,_⟩
    exact absurd h (by show ¬ s.length < k;omega)
  ·rename_i h
   have h:¬ s.length < k:=h
   constructor
   ·intro e
    injection e with e1 e2
    injection e2 with e2 _
    exact ⟨by omega,e1.symm,e2.symm⟩
   ·rintro ⟨_,rfl,rfl⟩;rfl
theorem like_txt (z:List UInt8) (k:Nat):Like (txtZ k) (GetC.txt z k) where
 bad:=fun s=>by
  unfold txtZ
  split <;> rfl
 is:=fun s x r=>by
  show _ ↔ (if xbt s (k:Int) = 0 then (.ok ((s.drop 2).take (lenN s),s.drop (2 + lenN s)):Except Nat (List UInt8 × List UInt8)) else .error (xbt s (k:Int)).toNat) = .ok (x,r)
  unfold txtZ
  show (if xbt s (k:Int) = 0 then _ else _) = _ ↔ _
  split
  ·constructor
   ·intro e
    injection e with e1 e2
    injection e2 with e2 _
    rw [e1,e2]
   ·intro e
    injection e with e
    injection e with e1 e2
    rw [e1,e2]
  ·constructor
   ·intro e
    injection e with _ e
    injection e with _ e
    cases e
   ·intro e;cases e
theorem xcy (z:Nat):Like oneZ (oneM GetC z):=xbd (like_num _ _) fun _=>xdq _
theorem xdt (z:Nat):Like fourZ (fourM GetC z):=xbd (like_num _ _) fun _=>xdq _
theorem like_op (z:OpV):Like opZ (opM GetC z):=xbd (xcy _) fun _=>xbd (xdt _) fun _=>xbd (xcy _) fun _=>xbd (xcy _) fun _=>xbd (xcy _) fun _=>xbd (like_txt _ _) fun _=>xdq _
theorem like_ent (z:EntV):Like entZ (entM GetC z):=xbd (xdt _) fun _=>xbd (xdt _) fun _=>xbd (like_op _) fun _=>xdq _
theorem like_okay {α:Type} (x:α):Like ((badZ false).bind fun _=>.ret x) (.ret x) where
 bad:=fun s=>rfl
 is:=fun s y r=>by
  rw [ret_ok]
  constructor
  ·intro h
   injection h with h1 h2
   injection h2 with h2 _
   exact ⟨h1,h2⟩
  ·rintro ⟨rfl,rfl⟩;rfl
theorem like_bad {α:Type} (x:α) (n:Nat):Like ((badZ true).bind fun _=>.ret x) (.err n) where
 bad:=fun s=>rfl
 is:=fun s y r=>by
  constructor
  ·intro h
   injection h with _ h
   injection h with _ h
   cases h
  ·intro h;cases h
theorem like_there (z:Bool):Like thereZ (flagM GetC z):=xbd (xcy _) fun m=>by
 by_cases h0:m = 0
 ·subst h0;exact like_okay false
 ·by_cases h1:m = 1
  ·subst h1;exact like_okay true
  ·have e1:decide (1 < m) = true:=decide_eq_true (by omega)
   rw [if_neg h0,if_neg h1,e1]
   exact like_bad _ _
theorem like_ob (z:ObjV):Like obZ (obM GetC z):=xbd (like_there _) fun t=>xbd (like_txt _ _) fun d=>by
 have e:atrsZ 3 ⟨t,d,[],[],[]⟩ = (txtZ 16).bind fun a=>(txtZ 16).bind fun b=>(txtZ 16).bind fun c=>.ret ⟨t,d,a,b,c⟩:=rfl
 rw [e]
 exact xbd (like_txt _ _) fun _=>xbd (like_txt _ _) fun _=>xbd (like_txt _ _) fun _=>xdq _
theorem like_last (z:LastV):Like lastZ (lstM GetC z):=xbd (xdt _) fun _=>xbd (xcy _) fun _=>xdq _
theorem sets_are (a b c d e f:ObjV) (k l m:LastV):setL (setL (setL (setO (setO (setO (setO (setO (setO base0 0 a) 1 b) 2 c) 3 d) 4 e) 5 f) 0 k) 1 l) 2 m = ⟨objs6 a b c d e f,lasts3 k l m⟩:=by
 have h1:(setL (setL (setL (setO (setO (setO (setO (setO (setO base0 0 a) 1 b) 2 c) 3 d) 4 e) 5 f) 0 k) 1 l) 2 m).obj = objs6 a b c d e f:=by
  funext i
  match i with
  | 0=>rfl
  | 1=>rfl
  | 2=>rfl
  | 3=>rfl
  | 4=>rfl
  | 5=>rfl
 have h2:(setL (setL (setL (setO (setO (setO (setO (setO (setO base0 0 a) 1 b) 2 c) 3 d) 4 e) 5 f) 0 k) 1 l) 2 m).last = lasts3 k l m:=by
  funext i
  match i with
  | 0=>rfl
  | 1=>rfl
  | 2=>rfl
 cases hq:setL (setL (setL (setO (setO (setO (setO (setO (setO base0 0 a) 1 b) 2 c) 3 d) 4 e) 5 f) 0 k) 1 l) 2 m with
 | mk o s =>
  rw [hq] at h1 h2
  have h1:o = objs6 a b c d e f:=h1
  have h2:s = lasts3 k l m:=h2
  rw [h1,h2]
theorem like_bs (z:BaseV):Like ((objsZ 6 base0).bind fun b=>lastsZ 3 b) (bsM GetC z):=by
 have e:((objsZ 6 base0).bind fun b=>lastsZ 3 b) = obZ.bind fun a=>obZ.bind fun b=>obZ.bind fun c=>obZ.bind fun d=>obZ.bind fun e=>obZ.bind fun f=>lastZ.bind fun k=>lastZ.bind fun l=>lastZ.bind fun m =>
   .ret (setL (setL (setL (setO (setO (setO (setO (setO (setO base0 0 a) 1 b) 2 c) 3 d) 4 e) 5 f) 0 k) 1 l) 2 m):=by
  simp only [objsZ,lastsZ,rd_assoc,rd_left]
 rw [e]
 refine xbd (like_ob _) fun a=>xbd (like_ob _) fun b=>xbd (like_ob _) fun c=>xbd (like_ob _) fun d=>xbd (like_ob _) fun e=>xbd (like_ob _) fun f=>xbd (like_last _) fun k=>xbd (like_last _) fun l=>xbd (like_last _) fun m=>?_
 rw [sets_are]
 exact xdq _
theorem wk_assoc {α β γ:Type} (m:Wk α) (f:α → Wk β) (g:β → Wk γ):(m.bind f).bind g = m.bind fun x=>(f x).bind g:=by
 funext s
 unfold Wk.bind
 cases m s with
 | error n=>rfl
 | ok p=>obtain ⟨x,t⟩:=p;rfl
theorem wk_left {α β:Type} (x:α) (f:α → Wk β):(Wk.ret x).bind f = f x:=rfl
theorem like_eq {α:Type} {R R':Rd α} {M:Wk α} (h:Like R M) (hb:∀ s,(R' ⟨s,true⟩).2.bad = true) (he:∀ s,R' ⟨s,false⟩ = R ⟨s,false⟩):Like R' M:=⟨hb,fun s x r=>by rw [he];exact h.is s x r⟩
theorem logTo_bad (n:Nat):∀ (f i:Nat) (l:List EntV) (s:List UInt8),(logTo n f i l ⟨s,true⟩).2.bad = true
 | 0,_,_,_=>rfl
 | f + 1,i,l,s=>by
  show (if i < n ∧ i ≤ 6 ∧ true = false then _ else (l,({ left:=s,bad:=true }:RS))).2.bad = true
  rw [if_neg (fun h=>by cases h.2.2)]
theorem like_to (n:Nat) (hn:n ≤ 6):∀ (j f i:Nat) (l:List EntV),i + j = n → j ≤ f → Like (logTo n f i l) ((entsM GetC (List.replicate j ent0)).bind fun t=>.ret (l ++ t))
 | 0,f,i,l,hi,hf=>by
  have e:(entsM GetC (List.replicate 0 ent0)).bind (fun t=>Wk.ret (l ++ t)) = .ret l:=by
   show (Wk.ret []).bind (fun t=>Wk.ret (l ++ t)) = _
   rw [wk_left,List.append_nil]
  rw [e]
  refine like_eq (xdq l) (logTo_bad n f i l) (fun s=>?_)
  cases f with
  | zero=>rfl
  | succ f =>
   show (if i < n ∧ i ≤ 6 ∧ false = false then _ else (l,({ left:=s,bad:=false }:RS))) = _
   rw [if_neg (by omega)]
   rfl
 | j + 1,f,i,l,hi,hf=>by
  cases f with
  | zero=>omega
  | succ f =>
   have e:(entsM GetC (List.replicate (j + 1) ent0)).bind (fun t=>Wk.ret (l ++ t)) = (entM GetC ent0).bind fun x=>(entsM GetC (List.replicate j ent0)).bind fun t=>.ret ((l ++ [x]) ++ t):=by
    show ((entM GetC ent0).bind fun x=>(entsM GetC (List.replicate j ent0)).bind fun y=>.ret (x :: y)).bind (fun t=>Wk.ret (l ++ t)) = _
    rw [wk_assoc]
    congr 1
    funext x
    rw [wk_assoc]
    congr 1
    funext y
    rw [wk_left,List.append_assoc]
    rfl
   rw [e]
   refine like_eq (xbd (like_ent ent0) fun x=>like_to n hn j f (i + 1) (l ++ [x]) (by omega) (by omega)) (logTo_bad n (f + 1) i l) (fun s=>?_)
   show (if i < n ∧ i ≤ 6 ∧ false = false then (entZ.bind fun e=>logTo n f (i + 1) (l ++ [e])) ⟨s,false⟩ else _) = _
   rw [if_pos ⟨by omega,by omega,rfl⟩]
theorem like_log:Like logZ (logM GetC []):=by
 have e:logM GetC [] = (oneM GetC 0).bind fun n=>if 6 < n then .err 13 else entsM GetC (List.replicate n ent0):=by
  show ((GetC.num ((([]:List EntV).length:Int) % 18446744073709551616).toNat 1).bind fun m=>.ret (sgn m)).bind _ = ((GetC.num 0 1).bind fun m=>.ret (m % 256)).bind _
  rw [wk_assoc,wk_assoc]
  funext s
  show Wk.bind (GetC.num 0 1) _ s = _
  unfold Wk.bind
  cases hr:GetC.num 0 1 s with
  | error n=>rfl
  | ok p =>
   obtain ⟨x,t⟩:=p
   have hx:=(num_was (by decide) hr).1
   have hx:x < 256:=by simpa using hx
   have e1:sgn x = (x:Int):=xgu (by omega)
   have e2:x % 256 = x:=Nat.mod_eq_of_lt hx
   show (if 6 < sgn x then Wk.err 13 else entsM GetC (padE (sgn x).toNat [])) t = (if 6 < x % 256 then Wk.err 13 else entsM GetC (List.replicate (x % 256) ent0)) t
   rw [e1,e2,Int.toNat_natCast]
   have e3:padE x [] = List.replicate x ent0:=by unfold padE;simp
   rw [e3]
   by_cases h6:6 < x
   ·rw [if_pos h6,if_pos (by omega)]
   ·rw [if_neg h6,if_neg (by omega)]
 rw [e]
 refine xbd (xcy 0) fun n=>?_
 by_cases h6:6 < n
 ·rw [if_pos h6,decide_eq_true h6]
  refine ⟨fun s=>?_,fun s x r=>?_⟩
  ·show (_ || true) = true
   rw [Bool.or_true]
  ·constructor
   ·intro h
    injection h with _ h
    injection h with _ h
    rw [Bool.or_true] at h
    cases h
   ·intro h;cases h
 ·rw [if_neg h6,decide_eq_false h6]
  have h:=like_to n (by omega) n 7 0 [] (by omega) (by omega)
  have e2:(entsM GetC (List.replicate n ent0)).bind (fun t=>Wk.ret ([] ++ t)) = (entsM GetC (List.replicate n ent0)).bind fun t=>.ret t:=rfl
  have e3:(entsM GetC (List.replicate n ent0)).bind (fun t=>Wk.ret t) = entsM GetC (List.replicate n ent0):=by
   funext s
   unfold Wk.bind
   cases entsM GetC (List.replicate n ent0) s with
   | error n=>rfl
   | ok p=>obtain ⟨x,t⟩:=p;rfl
  rw [e2] at h
  have h9:=xbd h (fun l=>like_okay l)
  rw [wk_assoc] at h9
  have e4:((entsM GetC (List.replicate n ent0)).bind fun x=>(Wk.ret x).bind fun x=>Wk.ret x) = entsM GetC (List.replicate n ent0):=by
   rw [show (fun x:List EntV=>(Wk.ret x).bind fun x=>Wk.ret x) = fun x=>Wk.ret x from rfl,e3]
  rw [e4] at h9
  exact h9
theorem like_st:Like stZ (statM GetC st0):=by
 have e:stZ = fourZ.bind fun a=>(fourZ.bind fun s=>fourZ.bind fun n=>.ret ⟨s,n,op0⟩).bind fun t=>((objsZ 6 base0).bind fun b=>lastsZ 3 b).bind fun b=>logZ.bind fun l=>.ret ⟨a,b,t,l⟩:=by
  simp only [stZ,rd_assoc,rd_left]
 rw [e]
 exact xbd (xdt _) fun a=>xbd (xbd (xdt _) fun _=>xbd (xdt _) fun _=>xdq _) fun t=>xbd (like_bs _) fun b=>xbd like_log fun l=>xdq _

theorem one_ok (s:RS):(oneZ s).1 < 256:=Nat.mod_lt _ (by decide)
theorem xfk (s:RS):(fourZ s).1 < 4294967296:=Nat.mod_lt _ (by decide)
theorem txt_ok (m:Nat) (s:RS):(txtZ m s).1.length < 65536:=by
 unfold txtZ
 split
 ·have:=lenN_lt s.left
  show ((s.left.drop 2).take (lenN s.left)).length < _
  rw [List.length_take]
  omega
 ·show 0 < _;decide
theorem opZ_ok (s:RS):OpOk (opZ s).1:=by
 obtain ⟨a,s1,e1⟩:∃ n s',oneZ s = (n,s'):=⟨_,_,rfl⟩
 have h1:=one_ok s
 rw [e1] at h1
 obtain ⟨b,s2,e2⟩:∃ n s',fourZ s1 = (n,s'):=⟨_,_,rfl⟩
 have h2:=xfk s1
 rw [e2] at h2
 obtain ⟨c,s3,e3⟩:∃ n s',oneZ s2 = (n,s'):=⟨_,_,rfl⟩
 have h3:=one_ok s2
 rw [e3] at h3
 obtain ⟨d,s4,e4⟩:∃ n s',oneZ s3 = (n,s'):=⟨_,_,rfl⟩
 have h4:=one_ok s3
 rw [e4] at h4
 obtain ⟨f,s5,e5⟩:∃ n s',oneZ s4 = (n,s'):=⟨_,_,rfl⟩
 have h5:=one_ok s4
 rw [e5] at h5
 obtain ⟨g,s6,e6⟩:∃ n s',txtZ 16 s5 = (n,s'):=⟨_,_,rfl⟩
 have h6:=txt_ok 16 s5
 rw [e6] at h6
 have hZ:opZ s = (⟨a,b,c,d,f,g⟩,s6):=by simp only [opZ,Rd.bind,Rd.ret,e1,e2,e3,e4,e5,e6]
 rw [hZ]
 exact ⟨h1,h2,h3,h4,h5,Nat.le_trans (Nat.le_of_lt h6) (by decide)⟩
theorem entZ_ok (s:RS):EntOk (entZ s).1:=by
 obtain ⟨a,s1,e1⟩:∃ n s',fourZ s = (n,s'):=⟨_,_,rfl⟩
 have h1:=xfk s
 rw [e1] at h1
 obtain ⟨b,s2,e2⟩:∃ n s',fourZ s1 = (n,s'):=⟨_,_,rfl⟩
 have h2:=xfk s1
 rw [e2] at h2
 obtain ⟨c,s3,e3⟩:∃ n s',opZ s2 = (n,s'):=⟨_,_,rfl⟩
 have h3:=opZ_ok s2
 rw [e3] at h3
 have hZ:entZ s = (⟨a,b,c⟩,s3):=by simp only [entZ,Rd.bind,Rd.ret,e1,e2,e3]
 rw [hZ]
 exact ⟨h1,h2,h3⟩
theorem logTo_ok (n:Nat):∀ (f i:Nat) (l:List EntV) (s:RS),(∀ e ∈ l,EntOk e) → (∀ e ∈ (logTo n f i l s).1,EntOk e) ∧ (logTo n f i l s).1.length ≤ l.length + f
 | 0,_,l,s,h=>⟨h,Nat.le_refl _⟩
 | f + 1,i,l,s,h=>by
  by_cases hc:i < n ∧ i ≤ 6 ∧ s.bad = false
  ·have e:logTo n (f + 1) i l s = logTo n f (i + 1) (l ++ [(entZ s).1]) (entZ s).2:=if_pos hc
   rw [e]
   have hl:∀ e ∈ l ++ [(entZ s).1],EntOk e:=fun e he=>by
    rcases List.mem_append.1 he with he | he
    ·exact h e he
    ·rw [List.mem_singleton] at he
     rw [he]
     exact entZ_ok s
   obtain ⟨h1,h2⟩:=logTo_ok n f (i + 1) (l ++ [(entZ s).1]) (entZ s).2 hl
   refine ⟨h1,Nat.le_trans h2 ?_⟩
   rw [List.length_append]
   show l.length + 1 + f ≤ _
   omega
  ·have e:logTo n (f + 1) i l s = (l,s):=if_neg hc
   rw [e]
   exact ⟨h,by show l.length ≤ _;omega⟩
theorem logZ_ok (s:RS):(∀ e ∈ (logZ s).1,EntOk e) ∧ (logZ s).1.length ≤ 7:=by
 obtain ⟨h1,h2⟩:=logTo_ok (oneZ s).1 7 0 [] (oneZ s).2 (fun e he=>by cases he)
 exact ⟨h1,by rw [List.length_nil,Nat.zero_add] at h2;exact h2⟩
structure ObS (x:ObjV):Prop where
 data:x.data.length < 65536
 a0:x.a0.length < 65536
 a1:x.a1.length < 65536
 a2:x.a2.length < 65536
theorem obZ_ok (s:RS):ObS (obZ s).1:=⟨txt_ok _ _,txt_ok _ _,txt_ok _ _,txt_ok _ _⟩
theorem objsZ_ok:∀ (n:Nat) (s:RS) (j:Fin 6),ObS ((objsZ n base0 s).1.obj j)
 | 0,_,_=>⟨by show 0 < _;decide,by show 0 < _;decide,by show 0 < _;decide,by show 0 < _;decide⟩
 | n + 1,s,j=>by
  show ObS (if j.val = n then _ else _)
  split
  ·exact obZ_ok _
  ·exact objsZ_ok n s j
structure LsS (x:LastV):Prop where
 seq:x.seq < 4294967296
 code:x.r.code < 256
 data:x.r.data = []
theorem lastZ_ok (s:RS):LsS (lastZ s).1:=⟨xfk _,one_ok _,rfl⟩
theorem lastsZ_ok (b:BaseV) (hb:∀ j,LsS (b.last j)):∀ (n:Nat) (s:RS) (j:Fin 3),LsS ((lastsZ n b s).1.last j) ∧ (lastsZ n b s).1.obj = b.obj
 | 0,_,j=>⟨hb j,rfl⟩
 | n + 1,s,j=>by
  refine ⟨?_,(lastsZ_ok b hb n s j).2⟩
  show LsS (if j.val = n then _ else _)
  split
  ·exact lastZ_ok _
  ·exact (lastsZ_ok b hb n s j).1
theorem objsZ_last:∀ (n:Nat) (s:RS) (j:Fin 3),(objsZ n base0 s).1.last j = last0
 | 0,_,_=>rfl
 | n + 1,s,j=>objsZ_last n s j
theorem stZ_ok (s:RS):StOk (stZ s).1:=by
 obtain ⟨a,s1,e1⟩:∃ n s',fourZ s = (n,s'):=⟨_,_,rfl⟩
 have h1:=xfk s
 rw [e1] at h1
 obtain ⟨b,s2,e2⟩:∃ n s',fourZ s1 = (n,s'):=⟨_,_,rfl⟩
 have h2:=xfk s1
 rw [e2] at h2
 obtain ⟨c,s3,e3⟩:∃ n s',fourZ s2 = (n,s'):=⟨_,_,rfl⟩
 have h3:=xfk s2
 rw [e3] at h3
 obtain ⟨d,s4,e4⟩:∃ n s',objsZ 6 base0 s3 = (n,s'):=⟨_,_,rfl⟩
 obtain ⟨f,s5,e5⟩:∃ n s',lastsZ 3 d s4 = (n,s'):=⟨_,_,rfl⟩
 obtain ⟨l,s6,e6⟩:∃ n s',logZ s5 = (n,s'):=⟨_,_,rfl⟩
 have hZ:stZ s = (⟨a,f,⟨b,c,op0⟩,l⟩,s6):=by simp only [stZ,Rd.bind,Rd.ret,e1,e2,e3,e4,e5,e6]
 have hl0:∀ j,LsS (d.last j):=fun j=>by
  have:=objsZ_last 6 s3 j
  rw [e4] at this
  rw [show d.last j = last0 from this]
  exact ⟨by decide,by decide,rfl⟩
 have hL:∀ j,LsS (f.last j):=fun j=>by have:=(lastsZ_ok d hl0 3 s4 j).1;rw [e5] at this;exact this
 have hO:f.obj = d.obj:=by have:=(lastsZ_ok d hl0 3 s4 0).2;rw [e5] at this;exact this
 have hob:∀ j,ObS (d.obj j):=fun j=>by have:=objsZ_ok 6 s3 j;rw [e4] at this;exact this
 have hlg:=logZ_ok s5
 rw [e6] at hlg
 rw [hZ]
 refine ⟨h1,⟨fun i=>(hL i).seq,fun i=>(hL i).code,fun i=>?_,fun i=>?_,fun i=>?_,fun i=>?_,fun i=>?_⟩,⟨h2,h3,?_⟩,hlg.1,?_⟩
 ·show (f.last i).r.data.length ≤ _
  rw [(hL i).data];exact Nat.zero_le _
 ·show (f.obj i).data.length ≤ _
  rw [hO];have:=(hob i).data;omega
 ·show (f.obj i).a0.length ≤ _
  rw [hO];have:=(hob i).a0;omega
 ·show (f.obj i).a1.length ≤ _
  rw [hO];have:=(hob i).a1;omega
 ·show (f.obj i).a2.length ≤ _
  rw [hO];have:=(hob i).a2;omega
 ·show OpOk op0
  exact ⟨by decide,by decide,by decide,by decide,by decide,Nat.zero_le _⟩
 ·have:l.length ≤ 7:=hlg.2
  show l.length ≤ 1000
  omega

def RdI (p:Nat) (w:World) (s:RS):Prop:=∃ ao c,Has w p 113 #[.slice ao s.left.length c,.bool s.bad] ∧ By w ao c s.left ∧ (∀ ad,ao = some ad → ad.block + 1 < p) ∧ s.left.length ≤ 1000000000
abbrev OffP (p:Nat):=OffF (fun k=>k = p)
theorem RdI.lt {p:Nat} {w:World} {s:RS} (h:RdI p w s):p < w.heap.size:=by
 obtain ⟨ao,c,h1,_⟩:=h
 exact h1.lt
theorem RdI.later {p:Nat} {w w':World} {s:RS} (h:RdI p w s) (hb:Below w.heap.size w w'):RdI p w' s:=by
 obtain ⟨ao,c,h1,h2,h3,h4⟩:=h
 exact ⟨ao,c,h1.later hb,h2.later hb,h3,h4⟩
theorem RdI.other {p q:Nat} {w w':World} {s:RS} (h:RdI p w s) (hb:But q w w') (hq:p < q):RdI p w' s:=by
 obtain ⟨ao,c,h1,h2,h3,h4⟩:=h
 have hp:=h1.lt
 refine ⟨ao,c,hb.has h1 (by omega),h2.at (fun ad had _=>hb.block _ (by have:=h3 ad had;omega) (by have:=h3 ad had;omega)),h3,h4⟩
theorem OffF.next {F:Nat → Prop} {w w' w'':World} (h:OffF F w w') (k:Below w'.heap.size w' w''):OffF F w w'' :=
 ⟨k.os.trans h.os,k.tape.trans h.tape,k.output.trans h.output,Nat.le_trans h.size k.size,fun i hi hn=>(k.block i (Nat.lt_of_lt_of_le hi h.size)).trans (h.block i hi hn)⟩
theorem OffF.fresh {F:Nat → Prop} {w w' w'':World} {q:Nat} (h:OffF F w w') (k:But q w' w'') (hq:w.heap.size ≤ q):OffF F w w'' :=
 ⟨k.os.trans h.os,k.tape.trans h.tape,k.output.trans h.output,Nat.le_trans h.size k.size,fun i hi hn=>(k.block i (Nat.lt_of_lt_of_le hi h.size) (by omega)).trans (h.block i hi hn)⟩
def Reads {α:Type} (p:Nat) (w:World) (r:α × RS) (V:α → Value) (e:Ending) (w':World):Prop:=e = .returned (V r.1) ∧ RdI p w' r.2 ∧ OffP p w w'
theorem rd_set {p:Nat} {w w1:World} {ao ao':Option Addr} {c c' n:Nat} {b:Bool} {s:RS} (h:Has w p 113 #[.slice ao n c,.bool b]) (hq:Below w.heap.size w w1) (hB:By w1 ao' c' s.left) (h3:∀ ad,ao' = some ad → ad.block + 1 < p) (h4:s.left.length ≤ 1000000000) (hb:s.bad = b) :
  RdI p (w1.setCell ⟨p,0,none⟩ (.slice ao' s.left.length c')) s ∧ OffP p w (w1.setCell ⟨p,0,none⟩ (.slice ao' s.left.length c')):=by
 have h1:=(h.later hq).set 0 (.slice ao' s.left.length c')
 refine ⟨⟨ao',c',by rw [hb];exact h1,hB.kept (fun ad had _=>by have:=h3 ad had;show ad.block ≠ p;omega) _,h3,h4⟩,?_⟩
 exact (OffF.of hq).trans (OffF.but (xaq _ _ _))
set_option maxHeartbeats 2000000 in
theorem xbu (p k:Nat) (w:World) (s:RS) (h:RdI p w s) (h1:0 < k) (hk:k ≤ 8):Calls Tryz.prog 56 #[.pointer (some ⟨p,0,none⟩),.int .i64 (k:Nat)] w (Reads p w (numZ k s) fun n=>.int .u64 (n:Nat)):=by
 obtain ⟨ao,c,hp,hB,h3,h4⟩:=h
 have hheld:heldI (k:Int) = k:=by unfold heldI;split <;> (try split) <;> omega
 have hle:=hB.le
 have hcap:=hB.cap
 have hcell:=hp.cell 0
 by_cases hs:k ≤ s.left.length
 ·have hg:=refget_ok ao s.left.length c s.left (k:Int) k w hB rfl hheld hs
  have hZ:numZ k s = (getN (s.left.take k),⟨s.left.drop k,s.bad⟩):=by unfold numZ;rw [if_neg (by omega)]
  have hBr:=hB.rest hs
  replace hg:Hid _:=hg
  replace hZ:Hid _:=hZ
  replace hheld:Hid _:=hheld
  go_enter Tryz.func56,Tryz.ntmps56
  go_wp2_with fail
  refine Calls.mono hg.out ?_
  rintro e w1 ⟨rfl,hq⟩
  clear hg
  have hcell1:=(hp.later hq).cell 0
  have hz1:=(hp.later hq).free 0
  have hfin:=rd_set (s:=⟨s.left.drop k,s.bad⟩) hp hq (hB.later hq |>.rest hs) (fun ad had=>by obtain ⟨d,e1,e2⟩:=xgv had;rw [← e2];exact h3 d e1) (by show (s.left.drop k).length ≤ _;rw [List.length_drop];omega) rfl
  rw [show (s.left.drop k).length = s.left.length - k from List.length_drop] at hfin
  replace hfin:Hid _:=hfin
  clear hBr hB hp hcell h3
  go_wp2
  go_ret
  rw [hZ.out]
  exact ⟨rfl,hfin.out.1,hfin.out.2⟩
 ·have hg:=refget_short ao s.left.length c (k:Int) k w (by omega) hheld (by omega)
  have hZ:numZ k s = (0,⟨s.left,true⟩):=by unfold numZ;rw [if_pos (by omega)]
  replace hg:Hid _:=hg
  replace hZ:Hid _:=hZ
  replace hheld:Hid _:=hheld
  go_enter Tryz.func56,Tryz.ntmps56
  go_wp2_with fail
  refine Calls.mono hg.out ?_
  rintro e w1 ⟨rfl,rfl⟩
  clear hg
  have hc1:=hp.cell 1
  have hz1:=hp.free 1
  have hp2:Has (w1.setCell ⟨p,1,none⟩ (.bool true)) p 113 #[.slice ao s.left.length c,.bool true]:=hp.set 1 (.bool true)
  have hc0:=hp2.cell 0
  have hz0:=hp2.free 0
  have hB2:=hB.kept (p:=⟨p,1,none⟩) (fun ad had _=>by have:=h3 ad had;show ad.block ≠ p;omega) (.bool true)
  have hfin:=rd_set (s:=⟨s.left,true⟩) hp2 (Below.refl _ _) hB2 h3 h4 rfl
  have hoff:OffP p w1 (w1.setCell ⟨p,1,none⟩ (.bool true)):=OffF.but (xaq _ _ _)
  have hall:Hid (RdI p ((w1.setCell ⟨p,1,none⟩ (.bool true)).setCell ⟨p,0,none⟩ (.slice ao s.left.length c)) ⟨s.left,true⟩ ∧ OffP p w1 ((w1.setCell ⟨p,1,none⟩ (.bool true)).setCell ⟨p,0,none⟩ (.slice ao s.left.length c))):=⟨hfin.1,hoff.trans hfin.2⟩
  clear hfin hoff hB hB2 hp hp2 h3 hcell
  go_wp2
  go_ret
  rw [hZ.out]
  exact ⟨rfl,hall.out.1,hall.out.2⟩
set_option maxHeartbeats 2000000 in
theorem xgm (p m:Nat) (w:World) (s:RS) (h:RdI p w s) (hm:m ≤ 80):Calls Tryz.prog 96 #[.pointer (some ⟨p,0,none⟩),.int .i64 (m:Nat)] w (Reads p w (txtZ m s) strV):=by
 obtain ⟨ao,c,hp,hB,h3,h4⟩:=h
 have hle:=hB.le
 have hcap:=hB.cap
 have hcell:=hp.cell 0
 rcases text_cases s.left m with he | ⟨x,he,hx⟩
 ·have hg:=refgettext_at ao s.left.length c s.left (m:Int) w hB rfl (by omega) (by omega) he
  have hZ:txtZ m s = ((s.left.drop 2).take (lenN s.left),⟨s.left.drop (2 + lenN s.left),s.bad⟩):=by unfold txtZ;rw [if_pos he]
  obtain ⟨hr1,hr2⟩:=text_room he
  have hT:(.string (txtOf s.left):Value) = strV ((s.left.drop 2).take (lenN s.left)):=rfl
  replace hg:Hid _:=hg
  replace hZ:Hid _:=hZ
  replace hT:Hid _:=hT
  replace he:Hid _:=he
  go_enter Tryz.func96,Tryz.ntmps96
  go_wp2_with fail
  refine Calls.mono hg.out ?_
  rintro e w1 ⟨A,c',rfl,hB1,hq,hA⟩
  clear hg
  rw [List.drop_drop] at hB1
  have hcell1:=(hp.later hq).cell 0
  have hz1:=(hp.later hq).free 0
  have hfin:=rd_set (s:=⟨s.left.drop (2 + lenN s.left),s.bad⟩) hp hq hB1 (fun ad had=>by obtain ⟨d,e1,e2⟩:=hA ad had;rw [← e2];exact h3 d e1) (by show (s.left.drop (2 + lenN s.left)).length ≤ _;rw [List.length_drop];omega) rfl
  rw [show (s.left.drop (2 + lenN s.left)).length = s.left.length - 2 - lenN s.left by rw [List.length_drop];omega] at hfin
  replace hfin:Hid _:=hfin
  clear hB hB1 hp hcell h3 hA
  go_wp2
  go_ret
  rw [hZ.out]
  exact ⟨rfl,hfin.out.1,hfin.out.2⟩
 ·have hg:=refgettext_err ao s.left.length c s.left (m:Int) w hB rfl (by omega) (by omega) (by omega) (by rw [he];omega)
  rw [he] at hg
  have hZ:txtZ m s = ([],⟨s.left,true⟩):=by unfold txtZ;rw [if_neg (by rw [he];omega)]
  have hxI:¬ (x:Int) = 0:=by omega
  have hxB:((x:Int) != 0) = true:=by simp;omega
  replace hg:Hid _:=hg
  replace hZ:Hid _:=hZ
  replace he:Hid _:=he
  go_enter Tryz.func96,Tryz.ntmps96
  go_wp2_with fail
  refine Calls.mono hg.out ?_
  rintro e w1 ⟨rfl,hq⟩
  clear hg
  have hp1:=hp.later hq
  have hc1:=hp1.cell 1
  have hz1:=hp1.free 1
  have hp2:Has (w1.setCell ⟨p,1,none⟩ (.bool true)) p 113 #[.slice ao s.left.length c,.bool true]:=hp1.set 1 (.bool true)
  have hc0:=hp2.cell 0
  have hz0:=hp2.free 0
  have hB2:=(hB.later hq).kept (p:=⟨p,1,none⟩) (fun ad had _=>by have:=h3 ad had;show ad.block ≠ p;omega) (.bool true)
  have hfin:=rd_set (s:=⟨s.left,true⟩) hp2 (Below.refl _ _) hB2 h3 h4 rfl
  have hoff:OffP p w (w1.setCell ⟨p,1,none⟩ (.bool true)):=(OffF.of hq).trans (OffF.but (xaq _ _ _))
  have hall:Hid (RdI p ((w1.setCell ⟨p,1,none⟩ (.bool true)).setCell ⟨p,0,none⟩ (.slice ao s.left.length c)) ⟨s.left,true⟩ ∧ OffP p w ((w1.setCell ⟨p,1,none⟩ (.bool true)).setCell ⟨p,0,none⟩ (.slice ao s.left.length c))):=⟨hfin.1,hoff.trans hfin.2⟩
  clear hfin hoff hB hB2 hp hp1 hp2 h3 hcell
  go_wp2
  go_ret
  rw [hZ.out]
  exact ⟨rfl,hall.out.1,hall.out.2⟩

theorem modn1 (n:Nat):((n:Int) % 256) = ((n % 256:Nat):Int):=(Int.natCast_emod n 256).symm
theorem modn4 (n:Nat):((n:Int) % 4294967296) = ((n % 4294967296:Nat):Int):=(Int.natCast_emod n 4294967296).symm
theorem rop_zero:(Tryz.prog.info? 39).map (·.zero) = some (some (.agg (opC op0))):=by kernel_rfl
theorem op_built_c (y:Nat):Tryz.prog.built 39 [(0,.int .u8 (y:Int))] = some (opC ⟨y,0,0,0,0,[]⟩):=by kernel_rfl
theorem op_built1 (n:Nat):Tryz.prog.built 39 [(0,.int .u8 ((n:Int) % 256))] = some (opC ⟨n % 256,0,0,0,0,[]⟩):=by rw [modn1];exact op_built_c _
theorem ent_built_c (y:Nat):Tryz.prog.built 41 [(0,.int .u32 (y:Int))] = some (entC ⟨y,0,op0⟩):=by kernel_rfl
theorem ent_built1 (n:Nat):Tryz.prog.built 41 [(0,.int .u32 ((n:Int) % 4294967296))] = some (entC ⟨n % 4294967296,0,op0⟩):=by rw [modn4];exact ent_built_c _
theorem Has.ent_put {w:World} {g a b:Nat} (h:Has w g 41 (entC ⟨a,b,op0⟩)) (o:OpV):Has (w.setCells g 2 (opC o).toList) g 41 (entC ⟨a,b,o⟩) :=
 ((((((h.set 2 (.int .u8 (o.client:Nat))).set 3 (.int .u32 (o.seq:Nat))).set 4 (.int .u8 (o.kind:Nat))).set 5 (.int .u8 (o.obj:Nat))).set 6 (.int .u8 (o.pos:Nat))).set 7 (strV o.data))
theorem Has.there6 {w:World} {g:Nat} {e:EntV} (h:Has w g 41 (entC e)):w.there g 2 6:=by
 intro j hj
 refine ⟨?_,h.free _⟩
 rw [h.cell]
 match j,hj with
 | 0,_=>rfl
 | 1,_=>rfl
 | 2,_=>rfl
 | 3,_=>rfl
 | 4,_=>rfl
 | 5,_=>rfl
set_option maxHeartbeats 4000000 in
theorem rdop_any (p:Nat) (w:World) (s:RS) (h:RdI p w s):Calls Tryz.prog 95 #[.pointer (some ⟨p,0,none⟩)] w (Reads p w (opZ s) fun o=>.agg (opC o)):=by
 have hp:=h.lt
 obtain ⟨w1,hw1,hR,hb⟩:=xbr w 39 (opC op0)
 have h1:=h.later hb
 have o1:Hid (OffP p w w1):=OffF.of hb
 obtain ⟨n1,s1,e1⟩:∃ n s',numZ 1 s = (n,s'):=⟨_,_,rfl⟩
 obtain ⟨n2,s2,e2⟩:∃ n s',numZ 4 s1 = (n,s'):=⟨_,_,rfl⟩
 obtain ⟨n3,s3,e3⟩:∃ n s',numZ 1 s2 = (n,s'):=⟨_,_,rfl⟩
 obtain ⟨n4,s4,e4⟩:∃ n s',numZ 1 s3 = (n,s'):=⟨_,_,rfl⟩
 obtain ⟨n5,s5,e5⟩:∃ n s',numZ 1 s4 = (n,s'):=⟨_,_,rfl⟩
 obtain ⟨t6,s6,e6⟩:∃ n s',txtZ 16 s5 = (n,s'):=⟨_,_,rfl⟩
 have hZ:Hid (opZ s = (⟨n1 % 256,n2 % 4294967296,n3 % 256,n4 % 256,n5 % 256,t6⟩,s6)):=by
  show _ = _
  simp only [opZ,oneZ,fourZ,Rd.bind,Rd.ret,e1,e2,e3,e4,e5,e6]
 have hc:=xbu p 1 w1 s h1 (by decide) (by decide)
 rw [e1] at hc
 replace hc:Hid _:=hc
 clear h h1 hb
 go_enter Tryz.func95,Tryz.ntmps95
 go_wp2_with (first
  | (refine xac (by rfl) 39 rfl (opC op0) rop_zero ?_;rw [hw1];clear hw1)
  | fail)
 refine Calls.mono hc.out ?_
 rintro en w2 ⟨he,h2,o2⟩
 replace he:en = .returned (.int .u64 (n1:Nat)):=he
 subst he
 clear hc
 replace hR:=o2.has hR (show ¬ w.heap.size = p by omega)
 have hRl:=hR.lt
 obtain ⟨w3,hw3,hX,hq⟩:=xcm w2 39 (opC op0) (opC ⟨n1 % 256,0,0,0,0,[]⟩)
 replace hR:=hR.later hq
 replace h2:=h2.later hq
 replace o1:Hid (OffP p w w3):=(o1.out.trans o2).trans (OffF.of hq)
 clear o2 hq
 have hc:=xbu p 4 w3 s1 h2 (by decide) (by decide)
 rw [e2] at hc
 replace hc:Hid _:=hc
 have hbt:Hid _:=op_built1 n1
 clear h2
 go_wp2_with (first
  | (refine xcu (by rfl) 39 0 _ rfl (.int .u8 ((n1:Int) % 256)) rfl (opC ⟨n1 % 256,0,0,0,0,[]⟩) hbt.out ?_)
  | (refine xac (by rfl) 39 rfl (opC op0) rop_zero ?_)
  | (refine xai (by rfl) 39 _ _ rfl w2.heap.size rfl (opC ⟨n1 % 256,0,0,0,0,[]⟩) rfl 39 (opC op0) (xca _) rfl (op_one _) ?hg w3 ?hW ?_;(case hg=>exact Has.new _ _ _);(case hW=>exact hw3);clear hw3)
  | fail)
 have hgp:w2.heap.size ≠ p:=by omega
 have hgR:w.heap.size ≠ w2.heap.size:=by omega
 have hRp:w.heap.size ≠ p:=by omega
 clear hbt
 refine Calls.mono hc.out ?_
 rintro en w4 ⟨he,h2,o2⟩
 replace he:en = .returned (.int .u64 (n2:Nat)):=he
 subst he
 clear hc
 replace hR:=o2.has hR hRp
 replace hX:=o2.has hX hgp
 replace o1:Hid (OffP p w w4):=o1.out.trans o2
 have hcell:w4.cell? ⟨w2.heap.size,1,none⟩ = some (.int .u32 0):=hX.cell 1
 have hfree:=hX.free 1
 obtain ⟨x4,hx4⟩:∃ W,w4.setCell ⟨w2.heap.size,1,none⟩ (.int .u32 ((n2:Int) % 4294967296)) = W:=⟨_,rfl⟩
 have hX':Has x4 w2.heap.size 39 (opC ⟨n1 % 256,n2 % 4294967296,0,0,0,[]⟩):=by
  rw [← hx4]
  have z:=hX.set 1 (.int .u32 ((n2:Int) % 4294967296))
  rw [modn4] at z
  exact z
 have hR':Has x4 w.heap.size 39 (opC op0):=by rw [← hx4];exact hR.set_other hgR _
 have h3:RdI p x4 s2:=by rw [← hx4];exact h2.other (xaq _ _ _) (by show p < w2.heap.size;omega)
 have o3:Hid (OffP p w x4):=by rw [← hx4];exact o1.out.fresh (xaq _ _ _) (by show w.heap.size ≤ w2.heap.size;omega)
 clear h2 o2 hX hR o1
 have hc:=xbu p 1 x4 s2 h3 (by decide) (by decide)
 rw [e3] at hc
 replace hc:Hid _:=hc
 clear h3
 go_wp2_with fail
 try rw [hx4]
 clear hx4 hcell hfree
 have hX:=hX'
 have hR:=hR'
 have o1:=o3
 clear hX' hR' o3
 refine Calls.mono hc.out ?_
 rintro en w5 ⟨he,h2,o2⟩
 replace he:en = .returned (.int .u64 (n3:Nat)):=he
 subst he
 clear hc
 replace hR:=o2.has hR hRp
 replace hX:=o2.has hX hgp
 replace o1:Hid (OffP p w w5):=o1.out.trans o2
 have hcell:w5.cell? ⟨w2.heap.size,2,none⟩ = some (.int .u8 0):=hX.cell 2
 have hfree:=hX.free 2
 obtain ⟨x5,hx5⟩:∃ W,w5.setCell ⟨w2.heap.size,2,none⟩ (.int .u8 ((n3:Int) % 256)) = W:=⟨_,rfl⟩
 have hX':Has x5 w2.heap.size 39 (opC ⟨n1 % 256,n2 % 4294967296,n3 % 256,0,0,[]⟩):=by
  rw [← hx5]
  have z:=hX.set 2 (.int .u8 ((n3:Int) % 256))
  rw [modn1] at z
  exact z
 have hR':Has x5 w.heap.size 39 (opC op0):=by rw [← hx5];exact hR.set_other hgR _
 have h3:RdI p x5 s3:=by rw [← hx5];exact h2.other (xaq _ _ _) (by show p < w2.heap.size;omega)
 have o3:Hid (OffP p w x5):=by rw [← hx5];exact o1.out.fresh (xaq _ _ _) (by show w.heap.size ≤ w2.heap.size;omega)
 clear h2 o2 hX hR o1
 have hc:=xbu p 1 x5 s3 h3 (by decide) (by decide)
 rw [e4] at hc
 replace hc:Hid _:=hc
 clear h3
 go_wp2_with fail
 try rw [hx5]
 clear hx5 hcell hfree
 have hX:=hX'
 have hR:=hR'
 have o1:=o3
 clear hX' hR' o3
 refine Calls.mono hc.out ?_
 rintro en w6 ⟨he,h2,o2⟩
 replace he:en = .returned (.int .u64 (n4:Nat)):=he
 subst he
 clear hc
 replace hR:=o2.has hR hRp
 replace hX:=o2.has hX hgp
 replace o1:Hid (OffP p w w6):=o1.out.trans o2
 have hcell:w6.cell? ⟨w2.heap.size,3,none⟩ = some (.int .u8 0):=hX.cell 3
 have hfree:=hX.free 3
 obtain ⟨x6,hx6⟩:∃ W,w6.setCell ⟨w2.heap.size,3,none⟩ (.int .u8 ((n4:Int) % 256)) = W:=⟨_,rfl⟩
 have hX':Has x6 w2.heap.size 39 (opC ⟨n1 % 256,n2 % 4294967296,n3 % 256,n4 % 256,0,[]⟩):=by
  rw [← hx6]
  have z:=hX.set 3 (.int .u8 ((n4:Int) % 256))
  rw [modn1] at z
  exact z
 have hR':Has x6 w.heap.size 39 (opC op0):=by rw [← hx6];exact hR.set_other hgR _
 have h3:RdI p x6 s4:=by rw [← hx6];exact h2.other (xaq _ _ _) (by show p < w2.heap.size;omega)
 have o3:Hid (OffP p w x6):=by rw [← hx6];exact o1.out.fresh (xaq _ _ _) (by show w.heap.size ≤ w2.heap.size;omega)
 clear h2 o2 hX hR o1
 have hc:=xbu p 1 x6 s4 h3 (by decide) (by decide)
 rw [e5] at hc
 replace hc:Hid _:=hc
 clear h3
 go_wp2_with fail
 try rw [hx6]
 clear hx6 hcell hfree
 have hX:=hX'
 have hR:=hR'
 have o1:=o3
 clear hX' hR' o3
 refine Calls.mono hc.out ?_
 rintro en w7 ⟨he,h2,o2⟩
 replace he:en = .returned (.int .u64 (n5:Nat)):=he
 subst he
 clear hc
 replace hR:=o2.has hR hRp
 replace hX:=o2.has hX hgp
 replace o1:Hid (OffP p w w7):=o1.out.trans o2
 have hcell:w7.cell? ⟨w2.heap.size,4,none⟩ = some (.int .u8 0):=hX.cell 4
 have hfree:=hX.free 4
 obtain ⟨x7,hx7⟩:∃ W,w7.setCell ⟨w2.heap.size,4,none⟩ (.int .u8 ((n5:Int) % 256)) = W:=⟨_,rfl⟩
 have hX':Has x7 w2.heap.size 39 (opC ⟨n1 % 256,n2 % 4294967296,n3 % 256,n4 % 256,n5 % 256,[]⟩):=by
  rw [← hx7]
  have z:=hX.set 4 (.int .u8 ((n5:Int) % 256))
  rw [modn1] at z
  exact z
 have hR':Has x7 w.heap.size 39 (opC op0):=by rw [← hx7];exact hR.set_other hgR _
 have h3:RdI p x7 s5:=by rw [← hx7];exact h2.other (xaq _ _ _) (by show p < w2.heap.size;omega)
 have o3:Hid (OffP p w x7):=by rw [← hx7];exact o1.out.fresh (xaq _ _ _) (by show w.heap.size ≤ w2.heap.size;omega)
 clear h2 o2 hX hR o1
 have hc:=xgm p 16 x7 s5 h3 (by decide)
 rw [e6] at hc
 replace hc:Hid _:=hc
 clear h3
 go_wp2_with fail
 try rw [hx7]
 clear hx7 hcell hfree
 have hX:=hX'
 have hR:=hR'
 have o1:=o3
 clear hX' hR' o3
 refine Calls.mono hc.out ?_
 rintro en w8 ⟨he,h2,o2⟩
 replace he:en = .returned (.string (mkS t6)):=he
 subst he
 clear hc
 replace hR:=o2.has hR hRp
 replace hX:=o2.has hX hgp
 replace o1:Hid (OffP p w w8):=o1.out.trans o2
 have hcell:w8.cell? ⟨w2.heap.size,5,none⟩ = some (.string (mkS [])):=hX.cell 5
 have hfree:=hX.free 5
 obtain ⟨x8,hx8⟩:∃ W,w8.setCell ⟨w2.heap.size,5,none⟩ (.string (mkS t6)) = W:=⟨_,rfl⟩
 have hX':Has x8 w2.heap.size 39 (opC ⟨n1 % 256,n2 % 4294967296,n3 % 256,n4 % 256,n5 % 256,t6⟩):=by
  rw [← hx8]
  have z:=hX.set 5 (.string (mkS t6))
  exact z
 have hR':Has x8 w.heap.size 39 (opC op0):=by rw [← hx8];exact hR.set_other hgR _
 have h3:RdI p x8 s6:=by rw [← hx8];exact h2.other (xaq _ _ _) (by show p < w2.heap.size;omega)
 have o3:Hid (OffP p w x8):=by rw [← hx8];exact o1.out.fresh (xaq _ _ _) (by show w.heap.size ≤ w2.heap.size;omega)
 clear h2 o2 hX hR o1
 have hE:Hid (Reads p w (opZ s) (fun o=>.agg (opC o)) (.returned (.agg (opC ⟨n1 % 256,n2 % 4294967296,n3 % 256,n4 % 256,n5 % 256,t6⟩))) (x8.setRow w.heap.size (opC ⟨n1 % 256,n2 % 4294967296,n3 % 256,n4 % 256,n5 % 256,t6⟩))):=by
  refine ⟨by rw [hZ.out],?_,?_⟩
  ·rw [hZ.out]
   exact h3.other (xbb _ _) hp
  ·exact o3.out.fresh (xbb _ _) (Nat.le_refl _)
 have hRf:=hR'.row (opC ⟨n1 % 256,n2 % 4294967296,n3 % 256,n4 % 256,n5 % 256,t6⟩)
 clear h3 o3 hZ
 go_wp2_with (first
  | (refine xab (by rfl) 39 _ rfl w2.heap.size rfl 39 (opC ⟨n1 % 256,n2 % 4294967296,n3 % 256,n4 % 256,n5 % 256,t6⟩) _ Tryz.underlying39 rfl (xca _) ?hg ?_;(case hg=>(try rw [hx8]);exact hX'))
  | (refine xai (by rfl) 39 _ _ rfl w.heap.size rfl (opC ⟨n1 % 256,n2 % 4294967296,n3 % 256,n4 % 256,n5 % 256,t6⟩) rfl 39 (opC op0) (xca _) rfl (op_one _) ?hg _ rfl ?_;(case hg=>(try rw [hx8]);exact hR');(try rw [hx8]))
  | fail)
 exact xba rfl w.heap.size rfl 39 (opC ⟨n1 % 256,n2 % 4294967296,n3 % 256,n4 % 256,n5 % 256,t6⟩) _ Tryz.underlying39 rfl (xca _) hRf rfl hE.out
set_option maxHeartbeats 4000000 in
theorem rdent_any (p:Nat) (w:World) (s:RS) (h:RdI p w s):Calls Tryz.prog 124 #[.pointer (some ⟨p,0,none⟩)] w (Reads p w (entZ s) fun o=>.agg (entC o)):=by
 have hp:=h.lt
 obtain ⟨w1,hw1,hR,hb⟩:=xbr w 41 (entC ent0)
 have h1:=h.later hb
 have o1:Hid (OffP p w w1):=OffF.of hb
 obtain ⟨n1,s1,e1⟩:∃ n s',numZ 4 s = (n,s'):=⟨_,_,rfl⟩
 obtain ⟨n2,s2,e2⟩:∃ n s',numZ 4 s1 = (n,s'):=⟨_,_,rfl⟩
 obtain ⟨y3,s3,e3⟩:∃ n s',opZ s2 = (n,s'):=⟨_,_,rfl⟩
 have hZ:Hid (entZ s = (⟨n1 % 4294967296,n2 % 4294967296,y3⟩,s3)):=by
  show _ = _
  simp only [entZ,fourZ,Rd.bind,Rd.ret,e1,e2,e3]
 have hc:=xbu p 4 w1 s h1 (by decide) (by decide)
 rw [e1] at hc
 replace hc:Hid _:=hc
 clear h h1 hb
 go_enter Tryz.func124,Tryz.ntmps124
 go_wp2_with (first
  | (refine xac (by rfl) 41 rfl (entC ent0) xff ?_;rw [hw1];clear hw1)
  | fail)
 refine Calls.mono hc.out ?_
 rintro en w2 ⟨he,h2,o2⟩
 replace he:en = .returned (.int .u64 (n1:Nat)):=he
 subst he
 clear hc
 replace hR:=o2.has hR (show ¬ w.heap.size = p by omega)
 have hRl:=hR.lt
 obtain ⟨w3,hw3,hX,hq⟩:=xcm w2 41 (entC ent0) (entC ⟨n1 % 4294967296,0,op0⟩)
 replace hR:=hR.later hq
 replace h2:=h2.later hq
 replace o1:Hid (OffP p w w3):=(o1.out.trans o2).trans (OffF.of hq)
 clear o2 hq
 have hc:=xbu p 4 w3 s1 h2 (by decide) (by decide)
 rw [e2] at hc
 replace hc:Hid _:=hc
 have hbt:Hid _:=ent_built1 n1
 clear h2
 go_wp2_with (first
  | (refine xcu (by rfl) 41 0 _ rfl (.int .u32 ((n1:Int) % 4294967296)) rfl (entC ⟨n1 % 4294967296,0,op0⟩) hbt.out ?_)
  | (refine xac (by rfl) 41 rfl (entC ent0) xff ?_)
  | (refine xai (by rfl) 41 _ _ rfl w2.heap.size rfl (entC ⟨n1 % 4294967296,0,op0⟩) rfl 41 (entC ent0) (xax _) rfl (xet _) ?hg w3 ?hW ?_;(case hg=>exact Has.new _ _ _);(case hW=>exact hw3);clear hw3)
  | fail)
 have hgp:w2.heap.size ≠ p:=by omega
 have hgR:w.heap.size ≠ w2.heap.size:=by omega
 have hRp:w.heap.size ≠ p:=by omega
 clear hbt
 refine Calls.mono hc.out ?_
 rintro en w4 ⟨he,h2,o2⟩
 replace he:en = .returned (.int .u64 (n2:Nat)):=he
 subst he
 clear hc
 replace hR:=o2.has hR hRp
 replace hX:=o2.has hX hgp
 replace o1:Hid (OffP p w w4):=o1.out.trans o2
 have hcell:w4.cell? ⟨w2.heap.size,1,none⟩ = some (.int .u32 0):=hX.cell 1
 have hfree:=hX.free 1
 obtain ⟨x4,hx4⟩:∃ W,w4.setCell ⟨w2.heap.size,1,none⟩ (.int .u32 ((n2:Int) % 4294967296)) = W:=⟨_,rfl⟩
 have hX':Has x4 w2.heap.size 41 (entC ⟨n1 % 4294967296,n2 % 4294967296,op0⟩):=by
  rw [← hx4]
  have z:=hX.set 1 (.int .u32 ((n2:Int) % 4294967296))
  rw [modn4] at z
  exact z
 have hR':Has x4 w.heap.size 41 (entC ent0):=by rw [← hx4];exact hR.set_other hgR _
 have h3:RdI p x4 s2:=by rw [← hx4];exact h2.other (xaq _ _ _) (by show p < w2.heap.size;omega)
 have o3:Hid (OffP p w x4):=by rw [← hx4];exact o1.out.fresh (xaq _ _ _) (by show w.heap.size ≤ w2.heap.size;omega)
 clear h2 o2 hX hR o1
 have hc:=rdop_any p x4 s2 h3
 rw [e3] at hc
 replace hc:Hid _:=hc
 clear h3
 go_wp2_with fail
 try rw [hx4]
 clear hx4 hcell hfree
 have hX:=hX'
 have hR:=hR'
 have o1:=o3
 clear hX' hR' o3
 refine Calls.mono hc.out ?_
 rintro en w5 ⟨he,h2,o2⟩
 replace he:en = .returned (.agg (opC y3)):=he
 subst he
 clear hc
 replace hR:=o2.has hR hRp
 replace hX:=o2.has hX hgp
 replace o1:Hid (OffP p w w5):=o1.out.trans o2
 have ht:Hid (w5.there w2.heap.size 2 6):=hX.there6
 obtain ⟨x5,hx5⟩:∃ W,w5.setCells w2.heap.size 2 (opC y3).toList = W:=⟨_,rfl⟩
 have hX':Has x5 w2.heap.size 41 (entC ⟨n1 % 4294967296,n2 % 4294967296,y3⟩):=by rw [← hx5];exact hX.ent_put y3
 have hR':Has x5 w.heap.size 41 (entC ent0):=by rw [← hx5];exact hR.cells_other hgR _ _
 have h3:RdI p x5 s3:=by rw [← hx5];exact h2.other (xap _ _) (by omega)
 have o3:Hid (OffP p w x5):=by rw [← hx5];exact o1.out.fresh (xap _ _) (by omega)
 clear h2 o2 hX hR o1
 have hE:Hid (Reads p w (entZ s) (fun o=>.agg (entC o)) (.returned (.agg (entC ⟨n1 % 4294967296,n2 % 4294967296,y3⟩))) (x5.setRow w.heap.size (entC ⟨n1 % 4294967296,n2 % 4294967296,y3⟩))):=by
  refine ⟨by rw [hZ.out],?_,?_⟩
  ·rw [hZ.out]
   exact h3.other (xbb _ _) hp
  ·exact o3.out.fresh (xbb _ _) (Nat.le_refl _)
 have hRf:=hR'.row (entC ⟨n1 % 4294967296,n2 % 4294967296,y3⟩)
 clear h3 o3 hZ
 go_wp2_with (first
  | (refine xak (by rfl) 39 _ _ rfl w2.heap.size 2 (opC y3) rfl rfl ?ht (xca _) (op_one _) ?_;(case ht=>exact ht.out))
  | (refine xab (by rfl) 41 _ rfl w2.heap.size rfl 41 (entC ⟨n1 % 4294967296,n2 % 4294967296,y3⟩) _ Tryz.underlying41 rfl (xax _) ?hg ?_;(case hg=>(try rw [hx5]);exact hX'))
  | (refine xai (by rfl) 41 _ _ rfl w.heap.size rfl (entC ⟨n1 % 4294967296,n2 % 4294967296,y3⟩) rfl 41 (entC ent0) (xax _) rfl (xet _) ?hg _ rfl ?_;(case hg=>(try rw [hx5]);exact hR');(try rw [hx5]))
  | fail)
 exact xba rfl w.heap.size rfl 41 (entC ⟨n1 % 4294967296,n2 % 4294967296,y3⟩) _ Tryz.underlying41 rfl (xax _) hRf rfl hE.out

section
variable {P:Program} {ops:Array Oper} {rest:List Oper} {o:Oper} {a:Act} {w:World} {Q:Exit → Act → World → Prop}
theorem wpList_slice_w (hw:Region.wanted o (yielded ops a.tmps) = true) (t:TypeId) (n:Nat) (parts:Array (Nat × Operand)) (ho:o.op = .buildSlice t n parts) (vs:Array (Nat × Value)) (hp:(parts.map fun (i,x)=>(i,a.eval x)) = vs) (v:Value) (W:World) (hr:(Instr.buildSlice t n vs).run P w = .ok v W)
  (h:wpList P ops Q rest (a.put o.dst v) W):wpList P ops Q (o :: rest) a w:=by
 refine BigFrame.wpList_want hw fun K hK=>?_
 have e:(execOp a.eval o).run P w = .ok (.value v) W:=by
  unfold execOp
  simp only [ho]
  simp only [hp,Sem.run_bind,hr,Result.andThen_ok,Sem.run_pure]
 unfold Oper.wp
 rw [e]
 exact hK _ _ h
theorem wpList_slice_w1 (hw:Region.wanted o (yielded ops a.tmps) = true) (t:TypeId) (x:Operand) (ho:o.op = .buildSlice t 1 #[(0,x)]) (p:Value) (hx:a.eval x = p) (v:Value) (W:World) (hr:(Instr.buildSlice t 1 #[(0,p)]).run P w = .ok v W)
  (h:wpList P ops Q rest (a.put o.dst v) W):wpList P ops Q (o :: rest) a w :=
 wpList_slice_w hw t 1 _ ho #[(0,p)] (by simp [hx]) v W hr h
end
theorem slice_ent_w (e:EntV) (w:World):(Instr.buildSlice 42 1 #[(0,.agg (entC e))]).run Tryz.prog w = .ok (.slice (some ⟨w.heap.size,0,none⟩) 1 1) (w.alloc (.cells (entC e) 41)):=by
 have h:(Instr.buildSlice 42 1 #[(0,.agg (entC e))]).run Tryz.prog w = ((newRow 41 (entC e)).run Tryz.prog w).andThen (fun a w=>.ok (.slice (some a) 1 1) w):=by kernel_rfl
 rw [h]
 simp [newRow,run_newObj_alloc,Sem.run_bind,Sem.run_pure,Result.andThen]
theorem ent_w1 (w:World) (e:EntV):∃ W,w.alloc (.cells (entC e) 41) = W ∧ Sl W (some ⟨w.heap.size,0,none⟩) 1 8 (entR [e]) ∧ Below w.heap.size w W:=by
 refine ⟨_,rfl,?_,(Below.refl _ _).alloc (Nat.le_refl _) _⟩
 have h:Has (w.alloc (.cells (entC e) 41)) w.heap.size 41 (entF [e]).toArray:=by
  have:=Has.new w 41 (entC e)
  have e2:entF [e] = entL e:=by unfold entF entR;simp
  rw [e2]
  exact this
 exact h.ents (by simp)
theorem ent_infoW:∃ i,Tryz.prog.info? 41 = some i ∧ i.zero = some (.agg (entC ent0)) ∧ i.size = 8 ∧ i.bytes = 40:=by
 have h:(Tryz.prog.info? 41).map (fun i=>(i.zero,i.size,i.bytes)) = some (some (.agg (entC ent0)),8,40):=by kernel_rfl
 cases hi:Tryz.prog.info? 41 with
 | none=>rw [hi] at h;cases h
 | some i =>
  rw [hi] at h
  simp only [Option.map_some,Option.some.injEq,Prod.mk.injEq] at h
  exact ⟨i,rfl,h.1,h.2.1,h.2.2⟩
theorem run_appendW (w:World) (ty:TypeId) (base:Nat) (v:Value) (m l:List EntV) (hown:w.ownsRow base 41 8 v m.length (entF m)) (ao:Option Addr) (c:Nat) (h:Sl w ao c 8 (entR l)) (hl:m.length + l.length ≤ 1000) (hbase:base ≤ w.heap.size) :
  ∃ v' w',(Builtin.append_ #[42,42] ty #[v,.slice ao l.length c]).run Tryz.prog w = .ok v' w' ∧ w'.ownsRow base 41 8 v' (m ++ l).length (entF (m ++ l)) ∧ w.grownBy w' v.ownBlock:=by
 obtain ⟨i0,hi,hz0,hz1,hz2⟩:=ent_infoW
 cases ao with
 | none =>
  have h0:l = []:=by have:=h.nil rfl;have:=h.ent_le;exact List.eq_nil_of_length_eq_zero (by omega)
  have hc:=h.nil rfl
  subst h0 hc
  exact ⟨v,w,run_append_owned_none (P:=Tryz.prog) (w:=w) base 42 ty 41 i0 8 Tryz.underlying42 hi v m.length (entF m) hown,by rw [List.append_nil];exact hown,World.grownBy.refl _ _⟩
 | some ad =>
  obtain ⟨v',w',hr,h2,h3,h4,h5⟩:=run_append_own_at (P:=Tryz.prog) w base 42 ty 41 i0 (.agg (entC ent0)) 8 40 Tryz.underlying42 hi hz0 hz1 hz2 rfl (by decide) v m.length (entF m) hown ad l.length c (entF l) (xeq l) h.cells (entF_one l) (by unfold maxLen;omega) (by omega) hbase
  refine ⟨v',w',hr,?_,h3⟩
  rw [List.length_append,entF_app]
  exact h2
theorem own_nilW (w:World) (base:Nat):w.ownsRow base 41 8 (.slice none 0 0) ([]:List EntV).length (entF []):=World.ownsRow_nil _ _ _ _
theorem ents_ownW {w:World} {base n:Nat} {v:Value} {l:List EntV} (h:w.ownsRow base 41 8 v n (entF l)):∃ ao c,v = .slice ao l.length c ∧ Sl w ao c 8 (entR l) ∧ (∀ d,ao = some d → base ≤ d.block ∧ d.block < w.heap.size):=by
 have hl:n = l.length:=by have:=h.1;rw [xeq] at this;omega
 subst hl
 rcases h.2 with ⟨hv,h0⟩ | ⟨g,cap,cur,hv,hg,hc,hle,hm,hcur⟩
 ·have:l = []:=List.eq_nil_of_length_eq_zero (by omega)
  subst this
  exact ⟨none,0,by rw [hv];rfl,Sl.nothing _ _,fun d hd=>by cases hd⟩
 ·refine ⟨some ⟨g,0,none⟩,cap,hv,⟨by rw [xgr];omega,Nat.le_trans hm (by unfold maxLen;omega),(fun h=>by cases h),entR_each l,fun ad had i hi j hj=>?_⟩,fun d hd=>by obtain rfl:=Option.some.inj hd;exact ⟨hg,(Array.getElem?_eq_some_iff.1 hc).1⟩⟩
  obtain rfl:=Option.some.inj had
  have hf:=flatten_at (entR l) (entR_each l) i hi j hj
  have hl3:=entR_each l _ (List.getElem_mem hi)
  rw [List.getElem?_eq_getElem (show j < ((entR l)[i]).length by omega)] at hf ⊢
  exact h.cells (g:=g) (by rw [hv];rfl) _ _ hf
theorem run_append_opW {o:Oper} {ev:Operand → Value} (s x:Operand) (t u:TypeId) (hop:o.op = .call { callee:=.builtin .append,args:=#[s,x],argTypes:=#[t,u] }) (v xv:Value) (hs:ev s = v) (hx:ev x = xv) (v':Value) (w W:World) (hr:(Builtin.append_ #[t,u] o.type #[v,xv]).run Tryz.prog w = .ok v' W):(execOp ev o).run Tryz.prog w = .ok (.value v') W:=by
 unfold execOp
 simp only [hop,resolve,invoke,builtin,Sem.run_bind,Sem.run_pure,Result.andThen_ok,List.map_toArray,List.map_cons,List.map_nil,hs,hx,hr]
theorem wpList_appendW {ops:Array Oper} {rest:List Oper} {o:Oper} {a:Act} {w:World} {Q:Exit → Act → World → Prop} (hw:Region.wanted o (yielded ops a.tmps) = true) (s x:Operand) (t u:TypeId) (hop:o.op = .call { callee:=.builtin .append,args:=#[s,x],argTypes:=#[t,u] }) (v xv:Value) (hs:a.eval s = v) (hx:a.eval x = xv) (v':Value) (W:World) (hr:(Builtin.append_ #[t,u] o.type #[v,xv]).run Tryz.prog w = .ok v' W)
  (h:wpList Tryz.prog ops Q rest (a.put o.dst v') W):wpList Tryz.prog ops Q (o :: rest) a w:=by
 refine BigFrame.wpList_want hw fun K hK=>?_
 unfold Oper.wp
 rw [run_append_opW s x t u hop v xv hs hx v' w W hr]
 exact hK _ _ h

theorem RdI.at {p:Nat} {w w':World} {s:RS} (h:RdI p w s) (hk:∀ i,i ≤ p → w'.heap[i]? = w.heap[i]?):RdI p w' s:=by
 obtain ⟨ao,c,h1,h2,h3,h4⟩:=h
 refine ⟨ao,c,?_,h2.at (fun ad had _=>hk _ (by have:=h3 ad had;omega)),h3,h4⟩
 unfold Has at *
 rw [hk p (Nat.le_refl _)]
 exact h1
theorem RdI.under {p B:Nat} {w w':World} {s:RS} (h:RdI p w s) (hb:Below B w w') (hp:p < B):RdI p w' s:=h.at fun i hi=>hb.block i (by omega)
theorem OffF.under {F:Nat → Prop} {w w' w'':World} {B:Nat} (h:OffF F w w') (k:Below B w' w'') (hB:w.heap.size ≤ B):OffF F w w'' :=
 ⟨k.os.trans h.os,k.tape.trans h.tape,k.output.trans h.output,Nat.le_trans h.size k.size,fun i hi hn=>(k.block i (Nat.lt_of_lt_of_le hi hB)).trans (h.block i hi hn)⟩
theorem own_off {w w':World} {base p:Nat} {v:Value} {n:Nat} {xs:List Value} {t:TypeId} {z:Nat} (h:w.ownsRow base t z v n xs) (ho:OffP p w w') (hp:p < base):w'.ownsRow base t z v n xs:=by
 refine ⟨h.1,?_⟩
 rcases h.2 with h2 | ⟨g,cap,cur,hv,hg,hc,hr⟩
 ·exact .inl h2
 ·exact .inr ⟨g,cap,cur,hv,hg,(ho.block g (Array.getElem?_eq_some_iff.1 hc).1 (show ¬ g = p by omega)).trans hc,hr⟩
theorem rd_bad {p:Nat} {w:World} {s:RS} (h:RdI p w s):RdI p (w.setCell ⟨p,1,none⟩ (.bool true)) ⟨s.left,true⟩ ∧ OffP p w (w.setCell ⟨p,1,none⟩ (.bool true)):=by
 obtain ⟨ao,c,h1,h2,h3,h4⟩:=h
 exact ⟨⟨ao,c,h1.set 1 (.bool true),h2.kept (p:=⟨p,1,none⟩) (fun ad had _=>by have:=h3 ad had;show ad.block ≠ p;omega) (.bool true),h3,h4⟩,OffF.but (xaq _ _ _)⟩
theorem RdI.bad {p:Nat} {w:World} {s:RS} (h:RdI p w s):w.cell? ⟨p,1,none⟩ = some (.bool s.bad) ∧ w.frozen? ⟨p,1,none⟩ = false:=by
 obtain ⟨ao,c,h1,_⟩:=h
 exact ⟨h1.cell 1,h1.free 1⟩
theorem num1_lt (s:RS):(numZ 1 s).1 < 256:=by
 unfold numZ
 split
 ·show 0 < _;decide
 ·rename_i h
  exact getN_bd (s.left.take 1) 1 (by rw [List.length_take];omega) (by decide)
theorem logTo_stop {n f i:Nat} {l:List EntV} {s:RS} (h:¬ (i < n ∧ i ≤ 6 ∧ s.bad = false)):logTo n f i l s = (l,s):=by
 cases f with
 | zero=>rfl
 | succ f=>exact if_neg h
theorem logTo_go {n f i:Nat} {l:List EntV} {s:RS} (h:i < n ∧ i ≤ 6 ∧ s.bad = false):logTo n (f + 1) i l s = logTo n f (i + 1) (l ++ [(entZ s).1]) (entZ s).2:=if_pos h
def LogR (p:Nat) (w:World) (r:List EntV × RS) (e:Ending) (w':World):Prop:=∃ ao c,e = .returned (.slice ao r.1.length c) ∧ Sl w' ao c 8 (entR r.1) ∧ (∀ d,ao = some d → w.heap.size ≤ d.block ∧ d.block < w'.heap.size) ∧ RdI p w' r.2 ∧ OffP p w w'
theorem LogR.of {p:Nat} {w w':World} {v:Value} {r:List EntV × RS} {l:List EntV} {s:RS} (hr:r = (l,s)) (ho:w'.ownsRow w.heap.size 41 8 v l.length (entF l)) (h:RdI p w' s) (o:OffP p w w'):LogR p w r (.returned v) w':=by
 subst hr
 obtain ⟨ao,c,rfl,hS,hn⟩:=ents_ownW ho
 exact ⟨ao,c,rfl,hS,hn,h,o⟩
set_option maxHeartbeats 4000000 in
theorem rdlog_any (p:Nat) (w:World) (s:RS) (h:RdI p w s):Calls Tryz.prog 104 #[.pointer (some ⟨p,0,none⟩)] w (LogR p w (logZ s)):=by
 have hp:=h.lt
 have hc:=xbu p 1 w s h (by decide) (by decide)
 have hn:=num1_lt s
 obtain ⟨n,s1,e1⟩:∃ n s',numZ 1 s = (n,s'):=⟨_,_,rfl⟩
 rw [e1] at hc hn
 replace hn:n < 256:=hn
 have hZ:Hid (∀ l s2,logTo n 7 0 [] s1 = (l,s2) → logZ s = (l,⟨s2.left,s2.bad || decide (6 < n)⟩)):=fun l s2 e2=>by
  have em:n % 256 = n:=Nat.mod_eq_of_lt hn
  simp only [logZ,oneZ,badZ,Rd.bind,Rd.ret,e1,em,e2]
 have hnw:((n:Nat):Int) % 18446744073709551616 = (n:Int):=by omega
 replace hc:Hid _:=hc
 clear h
 go_enter Tryz.func104,Tryz.ntmps104
 go_wp2_with fail
 refine Calls.mono hc.out ?_
 rintro en w1 ⟨he,h1,o1⟩
 replace he:en = .returned (.int .u64 (n:Nat)):=he
 subst he
 clear hc
 have hb0:=o1.size
 go_wp2
 go_loopw [4,5] (fun uu i wr=>∃ u k l s2,u = uu ∧ k ≤ 7 ∧ l.length = k ∧ i = .int .i64 (k:Nat) ∧ wr.ownsRow w.heap.size 41 8 u l.length (entF l) ∧ RdI p wr s2 ∧ OffP p w wr ∧ logTo n (7 - k) k l s2 = logTo n 7 0 [] s1) (fun _ i _=>7 - (intOf i).toNat)
 case atStart=>exact ⟨_,0,[],s1,rfl,by decide,rfl,rfl,own_nilW _ _,h1,o1,rfl⟩
 case round =>
  clear h1 o1
  obtain ⟨u,k,l,s2,rfl,hk,hl,rfl,hown,h2,o2,hT⟩:=hrel
  obtain ⟨hcell,hfree⟩:=h2.bad
  by_cases hgo:k < n ∧ k ≤ 6 ∧ s2.bad = false
  ·obtain ⟨g1,g2,g3⟩:=hgo
   rw [g3] at hcell
   have g1I:(k:Int) < (n:Int):=by omega
   have g2I:(k:Int) ≤ 6:=by omega
   have hc:=rdent_any p wr s2 h2
   obtain ⟨x,s3,e3⟩:∃ x s',entZ s2 = (x,s'):=⟨_,_,rfl⟩
   have hT2:Hid (logTo n (7 - (k + 1)) (k + 1) (l ++ [x]) s3 = logTo n 7 0 [] s1):=by
    show _ = _
    rw [← hT,show 7 - k = (7 - (k + 1)) + 1 by omega,logTo_go ⟨g1,g2,g3⟩,e3]
   rw [e3] at hc
   replace hc:Hid _:=hc
   replace o2:Hid _:=o2
   replace hown:Hid _:=hown
   clear hT h2 e3
   go_wp2_with fail
   refine Calls.mono hc.out ?_
   rintro en w3 ⟨he,h3,o3⟩
   replace he:en = .returned (.agg (entC x)):=he
   subst he
   clear hc
   obtain ⟨w4,hw4,hS4,hq4⟩:=ent_w1 w3 x
   have hs3:w.heap.size ≤ w3.heap.size:=Nat.le_trans o2.out.size o3.size
   have hown4:w4.ownsRow w.heap.size 41 8 u l.length (entF l):=by rw [← hw4];exact (own_off hown.out o3 hp).alloc _
   obtain ⟨v5,w5,hr5,hown5,hg5⟩:=run_appendW w4 42 w.heap.size u l [x] hown4 (some ⟨w3.heap.size,0,none⟩) 1 hS4 (by show _ + 1 ≤ _;omega) (Nat.le_trans hs3 hq4.size)
   have hb5:Below w.heap.size w4 w5:=(Below.refl _ _).grown hg5 (Nat.le_trans hs3 hq4.size) (fun k hk=>(hown4.lt k hk).1)
   have h5:Hid (RdI p w5 s3):=(h3.later hq4).under hb5 hp
   have o5:Hid (OffP p w w5):=((o2.out.trans o3).next hq4).under hb5 (Nat.le_refl _)
   replace hown5:Hid _:=hown5
   have hlx:Hid ((l ++ [x]).length = k + 1):=by show _ = _;rw [List.length_append,hl];rfl
   clear o2 hown o3 h3 hS4 hown4 hb5 hg5 hs3
   go_wp2_with (first
    | (refine wpList_slice_w1 (by rfl) 42 _ rfl (.agg (entC x)) rfl (.slice (some ⟨w3.heap.size,0,none⟩) 1 1) w4 ?hr ?_;(case hr=>exact hw4 ▸ slice_ent_w x _))
    | (at_builtin;refine wpList_appendW (by rfl) _ _ 42 42 rfl u (.slice (some ⟨w3.heap.size,0,none⟩) 1 1) rfl rfl v5 w5 ?hr ?_;(case hr=>exact hr5))
    | fail)
   go_roundw
   case rel=>exact ⟨_,k + 1,l ++ [x],s3,rfl,by omega,hlx.out,by go_num,hown5.out,h5.out,o5.out,hT2.out⟩
   case measure=>simp [intOf];omega
  ·have hdone:Hid _:=hZ.out l s2 (by rw [← hT];exact logTo_stop hgo)
   clear hT
   have hfin:Hid (LogR p w (l,s2) (.returned u) wr):=LogR.of rfl hown h2 o2
   obtain ⟨hB1,hB2⟩:=rd_bad h2
   have hown2:=own_off hown hB2 hp
   have hfin2:Hid (LogR p w (l,⟨s2.left,true⟩) (.returned u) (wr.setCell ⟨p,1,none⟩ (.bool true))):=LogR.of rfl hown2 hB1 (o2.trans hB2)
   clear hB1 hB2 hown2 hown h2 o2
   have hstop:Hid (¬ (k < n ∧ k ≤ 6 ∧ s2.bad = false)):=hgo
   clear hgo
   obtain ⟨bd,hbd⟩:∃ b,b = s2.bad:=⟨_,rfl⟩
   rw [← hbd] at hcell
   have key:∀ {G:Prop},((¬ (k:Int) < (n:Int)) → G) → ((k:Int) < (n:Int) → ¬ (k:Int) ≤ 6 → G) → ((k:Int) < (n:Int) → (k:Int) ≤ 6 → bd = true → G) → G:=fun a b c=>by
    by_cases q1:k < n
    ·by_cases q2:k ≤ 6
     ·exact c (by omega) (by omega) (by rw [hbd];cases hb:s2.bad with
       | true=>rfl
       | false=>exact absurd ⟨q1,q2,hb⟩ hstop.out)
     ·exact b (by omega) (by omega)
    ·exact a (by omega)
   have hend:Hid (if 6 < n then LogR p w (logZ s) (.returned u) (wr.setCell ⟨p,1,none⟩ (.bool true)) else LogR p w (logZ s) (.returned u) wr):=by
    show if _ then _ else _
    rw [hdone.out]
    by_cases h6:6 < n
    ·rw [if_pos h6,decide_eq_true h6,Bool.or_true];exact hfin2.out
    ·rw [if_neg h6,decide_eq_false h6,Bool.or_false];exact hfin.out
   replace hbd:Hid _:=hbd
   clear hdone hfin hfin2 hstop
   by_cases h6:6 < n
   ·have h6I:(6:Int) < (n:Int):=by omega
    rw [if_pos h6] at hend
    refine key (fun a=>?_) (fun a b=>?_) (fun a b c=>?_)
    ·clear key;go_wp2;go_ret;exact hend.out
    ·clear key;go_wp2;go_ret;exact hend.out
    ·clear key;rw [c] at hcell;go_wp2;go_ret;exact hend.out
   ·have h6I:¬ (6:Int) < (n:Int):=by omega
    rw [if_neg h6] at hend
    refine key (fun a=>?_) (fun a b=>?_) (fun a b c=>?_)
    ·clear key;go_wp2;go_ret;exact hend.out
    ·clear key;go_wp2;go_ret;exact hend.out
    ·clear key;rw [c] at hcell;go_wp2;go_ret;exact hend.out

theorem setO_same {b:BaseV} {n:Nat} (hn:n < 6) (h:b.obj ⟨n,hn⟩ = obj0):setO b n obj0 = b:=by
 unfold setO
 cases b with
 | mk f g =>
  have h:f ⟨n,hn⟩ = obj0:=h
  have e:(fun j:Fin 6=>if j.val = n then obj0 else f j) = f:=by
   funext j
   split
   ·rename_i hj
    rw [← h]
    congr 1
    exact Fin.ext hj.symm
   ·rfl
  show (⟨fun j=>if j.val = n then obj0 else f j,g⟩:BaseV) = _
  rw [e]
theorem setL_same {b:BaseV} {n:Nat} (hn:n < 3) (h:b.last ⟨n,hn⟩ = last0):setL b n last0 = b:=by
 unfold setL
 cases b with
 | mk f g =>
  have h:g ⟨n,hn⟩ = last0:=h
  have e:(fun j:Fin 3=>if j.val = n then last0 else g j) = g:=by
   funext j
   split
   ·rename_i hj
    rw [← h]
    congr 1
    exact Fin.ext hj.symm
   ·rfl
  show (⟨f,fun j=>if j.val = n then last0 else g j⟩:BaseV) = _
  rw [e]
theorem objs_next (n:Nat) (b:BaseV) (s:RS):objsZ (n + 1) b s = (setO (objsZ n b s).1 n (obZ (objsZ n b s).2).1,(obZ (objsZ n b s).2).2):=rfl
theorem lasts_next (n:Nat) (b:BaseV) (s:RS):lastsZ (n + 1) b s = (setL (lastsZ n b s).1 n (lastZ (lastsZ n b s).2).1,(lastZ (lastsZ n b s).2).2):=rfl
theorem atrs_next (n:Nat) (y:ObjV) (s:RS):atrsZ (n + 1) y s = (setA (atrsZ n y s).1 n (txtZ 16 (atrsZ n y s).2).1,(txtZ 16 (atrsZ n y s).2).2):=rfl
theorem objs_rest:∀ (n:Nat) (s:RS),(∀ j:Fin 6,n ≤ j.val → (objsZ n base0 s).1.obj j = obj0) ∧ ∀ j,(objsZ n base0 s).1.last j = last0
 | 0,_=>⟨fun _ _=>rfl,fun _=>rfl⟩
 | n + 1,s=>by
  obtain ⟨h1,h2⟩:=objs_rest n s
  rw [objs_next]
  refine ⟨fun j hj=>?_,fun j=>h2 j⟩
  show (if j.val = n then _ else _) = _
  rw [if_neg (by omega)]
  exact h1 j (by omega)
theorem lasts_rest (b:BaseV):∀ (n:Nat) (s:RS) (j:Fin 3),n ≤ j.val → (lastsZ n b s).1.last j = b.last j
 | 0,_,_,_=>rfl
 | n + 1,s,j,hj=>by
  rw [lasts_next]
  show (if j.val = n then _ else _) = _
  rw [if_neg (by omega)]
  exact lasts_rest b n s j (by omega)
section
variable {w:World} {g a n:Nat} {b:BaseV} {t:EntV} {l:List EntV} {ao:Option Addr} {c:Nat}
theorem Has.put_there {y:ObjV} (h:Has w g 44 (stC ⟨a,setO b n y,t,l⟩ ao c)) (hn:n < 6) (v:Bool):Has (w.setCell ⟨g,1 + n * 5,none⟩ (.bool v)) g 44 (stC ⟨a,setO b n ⟨v,y.data,y.a0,y.a1,y.a2⟩,t,l⟩ ao c):=by
 match n,hn with
 | 0,_=>exact h.set _ _
 | 1,_=>exact h.set _ _
 | 2,_=>exact h.set _ _
 | 3,_=>exact h.set _ _
 | 4,_=>exact h.set _ _
 | 5,_=>exact h.set _ _
theorem Has.put_data {y:ObjV} (h:Has w g 44 (stC ⟨a,setO b n y,t,l⟩ ao c)) (hn:n < 6) (d:List UInt8):Has (w.setCell ⟨g,1 + n * 5 + 1,none⟩ (.string (mkS d))) g 44 (stC ⟨a,setO b n ⟨y.there,d,y.a0,y.a1,y.a2⟩,t,l⟩ ao c):=by
 match n,hn with
 | 0,_=>exact h.set _ _
 | 1,_=>exact h.set _ _
 | 2,_=>exact h.set _ _
 | 3,_=>exact h.set _ _
 | 4,_=>exact h.set _ _
 | 5,_=>exact h.set _ _
theorem Has.put_a0 {y:ObjV} (h:Has w g 44 (stC ⟨a,setO b n y,t,l⟩ ao c)) (hn:n < 6) (d:List UInt8):Has (w.setCell ⟨g,1 + n * 5 + 2,none⟩ (.string (mkS d))) g 44 (stC ⟨a,setO b n (setA y 0 d),t,l⟩ ao c):=by
 match n,hn with
 | 0,_=>exact h.set _ _
 | 1,_=>exact h.set _ _
 | 2,_=>exact h.set _ _
 | 3,_=>exact h.set _ _
 | 4,_=>exact h.set _ _
 | 5,_=>exact h.set _ _
theorem Has.put_a1 {y:ObjV} (h:Has w g 44 (stC ⟨a,setO b n y,t,l⟩ ao c)) (hn:n < 6) (d:List UInt8):Has (w.setCell ⟨g,1 + n * 5 + 2 + 1,none⟩ (.string (mkS d))) g 44 (stC ⟨a,setO b n (setA y 1 d),t,l⟩ ao c):=by
 match n,hn with
 | 0,_=>exact h.set _ _
 | 1,_=>exact h.set _ _
 | 2,_=>exact h.set _ _
 | 3,_=>exact h.set _ _
 | 4,_=>exact h.set _ _
 | 5,_=>exact h.set _ _
theorem Has.put_a2 {y:ObjV} (h:Has w g 44 (stC ⟨a,setO b n y,t,l⟩ ao c)) (hn:n < 6) (d:List UInt8):Has (w.setCell ⟨g,1 + n * 5 + 2 + 2,none⟩ (.string (mkS d))) g 44 (stC ⟨a,setO b n (setA y 2 d),t,l⟩ ao c):=by
 match n,hn with
 | 0,_=>exact h.set _ _
 | 1,_=>exact h.set _ _
 | 2,_=>exact h.set _ _
 | 3,_=>exact h.set _ _
 | 4,_=>exact h.set _ _
 | 5,_=>exact h.set _ _
theorem Has.put_atr {y:ObjV} (h:Has w g 44 (stC ⟨a,setO b n y,t,l⟩ ao c)) (hn:n < 6) (k:Nat) (hk:k < 3) (d:List UInt8):Has (w.setCell ⟨g,1 + n * 5 + 2 + k,none⟩ (.string (mkS d))) g 44 (stC ⟨a,setO b n (setA y k d),t,l⟩ ao c):=by
 match k,hk with
 | 0,_=>exact h.put_a0 hn d
 | 1,_=>exact h.put_a1 hn d
 | 2,_=>exact h.put_a2 hn d
theorem Has.put_seq {y:LastV} (h:Has w g 44 (stC ⟨a,setL b n y,t,l⟩ ao c)) (hn:n < 3) (q:Nat):Has (w.setCell ⟨g,31 + n * 3,none⟩ (.int .u32 (q:Nat))) g 44 (stC ⟨a,setL b n ⟨q,y.r⟩,t,l⟩ ao c):=by
 match n,hn with
 | 0,_=>exact h.set _ _
 | 1,_=>exact h.set _ _
 | 2,_=>exact h.set _ _
theorem Has.put_code {y:LastV} (h:Has w g 44 (stC ⟨a,setL b n y,t,l⟩ ao c)) (hn:n < 3) (q:Nat):Has (w.setCell ⟨g,31 + n * 3 + 1,none⟩ (.int .u8 (q:Nat))) g 44 (stC ⟨a,setL b n ⟨y.seq,⟨q,y.r.data⟩⟩,t,l⟩ ao c):=by
 match n,hn with
 | 0,_=>exact h.set _ _
 | 1,_=>exact h.set _ _
 | 2,_=>exact h.set _ _
theorem Has.put_log {b1:BaseV} {go:Option Addr} {gc:Nat} (h:Has w g 44 (stC ⟨a,b1,t,[]⟩ none 0)) (m:List EntV):Has (w.setCell ⟨g,48,none⟩ (.slice go m.length gc)) g 44 (stC ⟨a,b1,t,m⟩ go gc):=h.set 48 (.slice go m.length gc)
theorem Has.put_since {b1:BaseV} {o:OpV} {m q:Nat} (h:Has w g 44 (stC ⟨a,b1,⟨m,q,o⟩,l⟩ ao c)) (k:Nat):Has (w.setCell ⟨g,40,none⟩ (.int .u32 (k:Nat))) g 44 (stC ⟨a,b1,⟨k,q,o⟩,l⟩ ao c):=h.set 40 (.int .u32 (k:Nat))
theorem Has.put_n {b1:BaseV} {o:OpV} {m q:Nat} (h:Has w g 44 (stC ⟨a,b1,⟨m,q,o⟩,l⟩ ao c)) (k:Nat):Has (w.setCell ⟨g,41,none⟩ (.int .u32 (k:Nat))) g 44 (stC ⟨a,b1,⟨m,k,o⟩,l⟩ ao c):=h.set 41 (.int .u32 (k:Nat))
end
theorem st_built_c (y:Nat):Tryz.prog.built 44 [(0,.int .u32 (y:Int))] = some (stC ⟨y,base0,ent0,[]⟩ none 0):=by kernel_rfl
theorem st_built1 (n:Nat):Tryz.prog.built 44 [(0,.int .u32 ((n:Int) % 4294967296))] = some (stC ⟨n % 4294967296,base0,ent0,[]⟩ none 0):=by rw [modn4];exact st_built_c _
def StR (p:Nat) (w:World) (r:StV × RS) (e:Ending) (w':World):Prop:=∃ ao c,e = .returned (.agg (stC r.1 ao c)) ∧ Sl w' ao c 8 (entR r.1.log) ∧ (∀ d,ao = some d → w.heap.size ≤ d.block ∧ d.block < w'.heap.size) ∧ RdI p w' r.2 ∧ OffP p w w'
theorem stZ_is {s s1 s2 s3 s4 s5 s6:RS} {n1 n2 n3:Nat} {b c:BaseV} {l:List EntV} (e1:numZ 4 s = (n1,s1)) (e2:numZ 4 s1 = (n2,s2)) (e3:numZ 4 s2 = (n3,s3)) (e4:objsZ 6 base0 s3 = (b,s4)) (e5:lastsZ 3 b s4 = (c,s5)) (e6:logZ s5 = (l,s6)) :
  stZ s = (⟨n1 % 4294967296,c,⟨n2 % 4294967296,n3 % 4294967296,op0⟩,l⟩,s6):=by simp only [stZ,fourZ,Rd.bind,Rd.ret,e1,e2,e3,e4,e5,e6]
theorem obZ_is {s s1 s2 s3:RS} {m:Nat} {d:List UInt8} {y:ObjV} (hm:m < 256) (e1:numZ 1 s = (m,s1)) (e2:txtZ 16 ⟨s1.left,s1.bad || decide (1 < m)⟩ = (d,s2)) (e3:atrsZ 3 ⟨decide (m = 1),d,[],[],[]⟩ s2 = (y,s3)):obZ s = (y,s3):=by
 have em:m % 256 = m:=Nat.mod_eq_of_lt hm
 simp only [obZ,thereZ,oneZ,badZ,Rd.bind,Rd.ret,e1,em,e2,e3]
theorem lastZ_is {s s1 s2:RS} {m k:Nat} (e1:numZ 4 s = (m,s1)) (e2:numZ 1 s1 = (k,s2)):lastZ s = (⟨m % 4294967296,⟨k % 256,[]⟩⟩,s2):=by simp only [lastZ,fourZ,oneZ,Rd.bind,Rd.ret,e1,e2]
theorem Has.obj_cell {w:World} {g a n:Nat} {b:BaseV} {t:EntV} {l:List EntV} {ao:Option Addr} {c:Nat} {y:ObjV} (h:Has w g 44 (stC ⟨a,setO b n y,t,l⟩ ao c)) (j:Nat) (hn:n < 6) (hj:j < 5):w.cell? ⟨g,1 + n * 5 + j,none⟩ = (objL y)[j]?:=by
 rw [h.cell]
 match n,hn,j,hj with
 | 0,_,0,_=>rfl
 | 0,_,1,_=>rfl
 | 0,_,2,_=>rfl
 | 0,_,3,_=>rfl
 | 0,_,4,_=>rfl
 | 1,_,0,_=>rfl
 | 1,_,1,_=>rfl
 | 1,_,2,_=>rfl
 | 1,_,3,_=>rfl
 | 1,_,4,_=>rfl
 | 2,_,0,_=>rfl
 | 2,_,1,_=>rfl
 | 2,_,2,_=>rfl
 | 2,_,3,_=>rfl
 | 2,_,4,_=>rfl
 | 3,_,0,_=>rfl
 | 3,_,1,_=>rfl
 | 3,_,2,_=>rfl
 | 3,_,3,_=>rfl
 | 3,_,4,_=>rfl
 | 4,_,0,_=>rfl
 | 4,_,1,_=>rfl
 | 4,_,2,_=>rfl
 | 4,_,3,_=>rfl
 | 4,_,4,_=>rfl
 | 5,_,0,_=>rfl
 | 5,_,1,_=>rfl
 | 5,_,2,_=>rfl
 | 5,_,3,_=>rfl
 | 5,_,4,_=>rfl
theorem Has.obj_atr {w:World} {g a n k:Nat} {b:BaseV} {t:EntV} {l:List EntV} {ao:Option Addr} {c:Nat} {y:ObjV} (h:Has w g 44 (stC ⟨a,setO b n y,t,l⟩ ao c)) (hn:n < 6) (hk:k < 3):w.cell? ⟨g,1 + n * 5 + 2 + k,none⟩ = some (.string (mkS (atrV y k))):=by
 have:=h.obj_cell (2 + k) hn (by omega)
 rw [← Nat.add_assoc] at this
 rw [this]
 match k,hk with
 | 0,_=>rfl
 | 1,_=>rfl
 | 2,_=>rfl
theorem Has.last_cell {w:World} {g a n:Nat} {b:BaseV} {t:EntV} {l:List EntV} {ao:Option Addr} {c:Nat} {y:LastV} (h:Has w g 44 (stC ⟨a,setL b n y,t,l⟩ ao c)) (j:Nat) (hn:n < 3) (hj:j < 3):w.cell? ⟨g,31 + n * 3 + j,none⟩ = (lastL y)[j]?:=by
 rw [h.cell]
 match n,hn,j,hj with
 | 0,_,0,_=>rfl
 | 0,_,1,_=>rfl
 | 0,_,2,_=>rfl
 | 1,_,0,_=>rfl
 | 1,_,1,_=>rfl
 | 1,_,2,_=>rfl
 | 2,_,0,_=>rfl
 | 2,_,1,_=>rfl
 | 2,_,2,_=>rfl
set_option maxHeartbeats 8000000 in
theorem rdst_any (p:Nat) (w:World) (s:RS) (h:RdI p w s):Calls Tryz.prog 64 #[.pointer (some ⟨p,0,none⟩)] w (StR p w (stZ s)):=by
 have hp:=h.lt
 obtain ⟨w1,hw1,hR,hb⟩:=xbr w 44 (stC st0 none 0)
 have h1:=h.later hb
 have o1:Hid (OffP p w w1):=OffF.of hb
 obtain ⟨n1,s1,e1⟩:∃ n s',numZ 4 s = (n,s'):=⟨_,_,rfl⟩
 obtain ⟨n2,s2,e2⟩:∃ n s',numZ 4 s1 = (n,s'):=⟨_,_,rfl⟩
 obtain ⟨n3,s3,e3⟩:∃ n s',numZ 4 s2 = (n,s'):=⟨_,_,rfl⟩
 have hZ:Hid (∀ b s4 c s5 l s6,objsZ 6 base0 s3 = (b,s4) → lastsZ 3 b s4 = (c,s5) → logZ s5 = (l,s6) → stZ s = (⟨n1 % 4294967296,c,⟨n2 % 4294967296,n3 % 4294967296,op0⟩,l⟩,s6)):=fun b s4 c s5 l s6 a1 a2 a3=>stZ_is e1 e2 e3 a1 a2 a3
 have hc:=xbu p 4 w1 s h1 (by decide) (by decide)
 rw [e1] at hc
 replace hc:Hid _:=hc
 clear h h1 hb
 go_enter Tryz.func64,Tryz.ntmps64
 go_wp2_with (first
  | (refine xac (by rfl) 44 rfl (stC st0 none 0) st_zero ?_;rw [hw1];clear hw1)
  | fail)
 refine Calls.mono hc.out ?_
 rintro en w2 ⟨he,h2,o2⟩
 replace he:en = .returned (.int .u64 (n1:Nat)):=he
 subst he
 clear hc
 replace hR:=o2.has hR (show ¬ w.heap.size = p by omega)
 have hRl:=hR.lt
 obtain ⟨w3,hw3,hX,hq⟩:=xcm w2 44 (stC st0 none 0) (stC ⟨n1 % 4294967296,base0,ent0,[]⟩ none 0)
 replace hR:=hR.later hq
 replace h2:=h2.later hq
 replace o1:Hid (OffP p w w3):=(o1.out.trans o2).trans (OffF.of hq)
 clear o2 hq
 have hc:=xbu p 4 w3 s1 h2 (by decide) (by decide)
 rw [e2] at hc
 replace hc:Hid _:=hc
 have hbt:Hid _:=st_built1 n1
 clear h2
 go_wp2_with (first
  | (refine xcu (by rfl) 44 0 _ rfl (.int .u32 ((n1:Int) % 4294967296)) rfl (stC ⟨n1 % 4294967296,base0,ent0,[]⟩ none 0) hbt.out ?_)
  | (refine xac (by rfl) 44 rfl (stC st0 none 0) st_zero ?_)
  | (refine xai (by rfl) 44 _ _ rfl w2.heap.size rfl (stC ⟨n1 % 4294967296,base0,ent0,[]⟩ none 0) rfl 44 (stC st0 none 0) (xcg _ _ _) rfl (st_one _ _ _) ?hg w3 ?hW ?_;(case hg=>exact Has.new _ _ _);(case hW=>exact hw3);clear hw3)
  | fail)
 have hgp:w2.heap.size ≠ p:=by omega
 have hgR:w.heap.size ≠ w2.heap.size:=by omega
 have hRp:w.heap.size ≠ p:=by omega
 clear hbt
 obtain ⟨A,hA⟩:∃ A,A = n1 % 4294967296:=⟨_,rfl⟩
 rw [← hA] at hX hZ
 refine Calls.mono hc.out ?_
 rintro en w4 ⟨he,h2,o2⟩
 replace he:en = .returned (.int .u64 (n2:Nat)):=he
 subst he
 clear hc
 replace hR:=o2.has hR hRp
 replace hX:=o2.has hX hgp
 replace o1:Hid (OffP p w w4):=o1.out.trans o2
 have hcell:w4.cell? ⟨w2.heap.size,40,none⟩ = some (.int .u32 0):=hX.cell 40
 have hfree:=hX.free (40)
 obtain ⟨x4,hwx4⟩:∃ W,w4.setCell ⟨w2.heap.size,40,none⟩ (.int .u32 ((n2:Int) % 4294967296)) = W:=⟨_,rfl⟩
 have hX':Has x4 w2.heap.size 44 (stC ⟨A,base0,⟨n2 % 4294967296,0,op0⟩,[]⟩ none 0):=by rw [← hwx4];exact (modn4 n2).symm ▸ hX.put_since (n2 % 4294967296)
 have hR':Has x4 w.heap.size 44 (stC st0 none 0):=by rw [← hwx4];exact hR.set_other hgR _
 have h3:RdI p x4 s2:=by rw [← hwx4];exact h2.other (xaq _ _ _) (by show p < w2.heap.size;omega)
 have o3:Hid (OffP p w x4):=by rw [← hwx4];exact o1.out.fresh (xaq _ _ _) (by show w.heap.size ≤ w2.heap.size;omega)
 clear h2 o2 hX hR o1
 have hc:=xbu p 4 x4 s2 h3 (by decide) (by decide)
 rw [e3] at hc
 replace hc:Hid _:=hc
 clear h3
 go_wp2_with fail
 clear hwx4 hcell hfree
 have hX:=hX'
 have hR:=hR'
 have o1:=o3
 clear hX' hR' o3
 refine Calls.mono hc.out ?_
 rintro en w5 ⟨he,h2,o2⟩
 replace he:en = .returned (.int .u64 (n3:Nat)):=he
 subst he
 clear hc
 replace hR:=o2.has hR hRp
 replace hX:=o2.has hX hgp
 replace o1:Hid (OffP p w w5):=o1.out.trans o2
 have hcell:w5.cell? ⟨w2.heap.size,41,none⟩ = some (.int .u32 0):=hX.cell 41
 have hfree:=hX.free (41)
 obtain ⟨x5,hwx5⟩:∃ W,w5.setCell ⟨w2.heap.size,41,none⟩ (.int .u32 ((n3:Int) % 4294967296)) = W:=⟨_,rfl⟩
 have hX':Has x5 w2.heap.size 44 (stC ⟨A,base0,⟨n2 % 4294967296,n3 % 4294967296,op0⟩,[]⟩ none 0):=by rw [← hwx5];exact (modn4 n3).symm ▸ hX.put_n (n3 % 4294967296)
 have hR':Has x5 w.heap.size 44 (stC st0 none 0):=by rw [← hwx5];exact hR.set_other hgR _
 have h3:RdI p x5 s3:=by rw [← hwx5];exact h2.other (xaq _ _ _) (by show p < w2.heap.size;omega)
 have o3:Hid (OffP p w x5):=by rw [← hwx5];exact o1.out.fresh (xaq _ _ _) (by show w.heap.size ≤ w2.heap.size;omega)
 clear h2 o2 hX hR o1
 have hX:=hX'
 have hR:=hR'
 have o1:=o3
 clear hX' hR' o3
 obtain ⟨T,hT⟩:∃ T:EntV,T = ⟨n2 % 4294967296,n3 % 4294967296,op0⟩:=⟨_,rfl⟩
 rw [← hT] at hX hZ
 go_wp2
 clear hwx5 hcell hfree
 go_loopw [4] (fun i wr=>∃ n b s4,n ≤ 6 ∧ i = .int .i64 (n:Nat) ∧ objsZ n base0 s3 = (b,s4) ∧ RdI p wr s4 ∧ OffP p w wr ∧ Has wr w2.heap.size 44 (stC ⟨A,b,T,[]⟩ none 0) ∧ Has wr w.heap.size 44 (stC st0 none 0)) (fun i _=>6 - (intOf i).toNat)
 case atStart=>exact ⟨0,base0,s3,by decide,rfl,rfl,h3,o1.out,hX,hR⟩
 case round =>
  clear h3 o1 hX hR
  obtain ⟨n,b,s4,hn,rfl,hO,h2,o1,hX,hR⟩:=hrel
  by_cases hlt:n < 6
  ·have hltI:(n:Int) < 6:=by omega
   have hb0:setO b n obj0 = b:=setO_same hlt (by have:=(objs_rest n s3).1 ⟨n,hlt⟩ (Nat.le_refl _);rw [hO] at this;exact this)
   rw [← hb0] at hX
   have hstep:Hid (∀ y s7,obZ s4 = (y,s7) → objsZ (n + 1) base0 s3 = (setO b n y,s7)):=fun y s7 e=>by rw [objs_next,hO,e]
   have hm:=num1_lt s4
   obtain ⟨m,s5,e5⟩:∃ n s',numZ 1 s4 = (n,s'):=⟨_,_,rfl⟩
   have hc:=xbu p 1 wr s4 h2 (by decide) (by decide)
   rw [e5] at hc hm
   replace hm:m < 256:=hm
   replace hc:Hid _:=hc
   replace o1:Hid _:=o1
   clear h2 hb0 hO
   go_wp2_with fail
   refine Calls.mono hc.out ?_
   rintro en w6 ⟨he,h2,o2⟩
   replace he:en = .returned (.int .u64 (m:Nat)):=he
   subst he
   clear hc
   replace hR:=o2.has hR hRp
   replace hX:=o2.has hX hgp
   replace o1:Hid (OffP p w w6):=o1.out.trans o2
   clear o2
   obtain ⟨hbad,hbfr⟩:=h2.bad
   by_cases m0:m = 0
   ·subst m0
    have hobz:Hid (∀ d s7 y s8,txtZ 16 s5 = (d,s7) → atrsZ 3 ⟨false,d,[],[],[]⟩ s7 = (y,s8) → obZ s4 = (y,s8)):=fun d s7 y s8 a1 a2=>obZ_is (by decide) e5 (by show txtZ 16 ⟨s5.left,s5.bad || false⟩ = _;rw [Bool.or_false];exact a1) a2
    obtain ⟨s6,hs6⟩:∃ q,q = s5:=⟨_,rfl⟩
    rw [← hs6] at h2 hobz
    have hcell:w6.cell? ⟨w2.heap.size,1 + n * 5,none⟩ = some (.bool false):=hX.obj_cell 0 hlt (by decide)
    have hfree:=hX.free (1 + n * 5)
    obtain ⟨x6,hwx6⟩:∃ W,w6.setCell ⟨w2.heap.size,1 + n * 5,none⟩ (.bool false) = W:=⟨_,rfl⟩
    have hX':Has x6 w2.heap.size 44 (stC ⟨A,setO b n ⟨false,[],[],[],[]⟩,T,[]⟩ none 0):=by rw [← hwx6];exact hX.put_there hlt false
    have hR':Has x6 w.heap.size 44 (stC st0 none 0):=by rw [← hwx6];exact hR.set_other hgR _
    have h3:RdI p x6 s6:=by rw [← hwx6];exact h2.other (xaq _ _ _) (by show p < w2.heap.size;omega)
    have o3:Hid (OffP p w x6):=by rw [← hwx6];exact o1.out.fresh (xaq _ _ _) (by show w.heap.size ≤ w2.heap.size;omega)
    clear h2 hX hR o1
    obtain ⟨d,s7,e7⟩:∃ n s',txtZ 16 s6 = (n,s'):=⟨_,_,rfl⟩
    have hc:=xgm p 16 x6 s6 h3 (by decide)
    rw [e7] at hc
    replace hc:Hid _:=hc
    have hob:Hid (∀ y s8,atrsZ 3 ⟨false,d,[],[],[]⟩ s7 = (y,s8) → objsZ (n + 1) base0 s3 = (setO b n y,s8)):=fun y s8 e=>hstep.out y s8 (hobz.out d s7 y s8 e7 e)
    clear h3 hstep hobz
    go_wp2_with fail
    clear hwx6 hcell hfree
    have hX:=hX'
    have hR:=hR'
    have o1:=o3
    clear hX' hR' o3
    refine Calls.mono hc.out ?_
    rintro en w7 ⟨he,h2,o2⟩
    replace he:en = .returned (.string (mkS d)):=he
    subst he
    clear hc
    replace hR:=o2.has hR hRp
    replace hX:=o2.has hX hgp
    replace o1:Hid (OffP p w w7):=o1.out.trans o2
    clear o2
    have hcell:w7.cell? ⟨w2.heap.size,1 + n * 5 + 1,none⟩ = some (.string (mkS [])):=hX.obj_cell 1 hlt (by decide)
    have hfree:=hX.free (1 + n * 5 + 1)
    obtain ⟨x7,hwx7⟩:∃ W,w7.setCell ⟨w2.heap.size,1 + n * 5 + 1,none⟩ (.string (mkS d)) = W:=⟨_,rfl⟩
    have hX':Has x7 w2.heap.size 44 (stC ⟨A,setO b n ⟨false,d,[],[],[]⟩,T,[]⟩ none 0):=by rw [← hwx7];exact hX.put_data hlt d
    have hR':Has x7 w.heap.size 44 (stC st0 none 0):=by rw [← hwx7];exact hR.set_other hgR _
    have h3:RdI p x7 s7:=by rw [← hwx7];exact h2.other (xaq _ _ _) (by show p < w2.heap.size;omega)
    have o3:Hid (OffP p w x7):=by rw [← hwx7];exact o1.out.fresh (xaq _ _ _) (by show w.heap.size ≤ w2.heap.size;omega)
    clear h2 hX hR o1
    have hX:=hX'
    have hR:=hR'
    have o1:=o3
    clear hX' hR' o3
    go_wp2
    clear hwx7 hcell hfree
    obtain ⟨W2,hW2⟩:∃ W2,W2 = wr:=⟨_,rfl⟩
    go_loopw [6] (fun i wq=>∃ k y s8,k ≤ 3 ∧ i = .int .i64 (k:Nat) ∧ atrsZ k ⟨false,d,[],[],[]⟩ s7 = (y,s8) ∧ RdI p wq s8 ∧ OffP p w wq ∧ Has wq w2.heap.size 44 (stC ⟨A,setO b n y,T,[]⟩ none 0) ∧ Has wq w.heap.size 44 (stC st0 none 0)) (fun i _=>3 - (intOf i).toNat)
    case atStart=>exact ⟨0,_,s7,by decide,rfl,rfl,h3,o1.out,hX,hR⟩
    case round =>
     clear h3 o1 hX hR
     obtain ⟨k,y,s8,hk,rfl,hY,h2,o1,hX,hR⟩:=hrel
     by_cases hkl:k < 3
     ·have hkI:(k:Int) < 3:=by omega
      obtain ⟨d9,s9,e9⟩:∃ n s',txtZ 16 s8 = (n,s'):=⟨_,_,rfl⟩
      have hc:=xgm p 16 wr.drew s8 (h2.later (Below.refl _ _).drew) (by decide)
      rw [e9] at hc
      replace hc:Hid _:=hc
      have hnx:Hid (atrsZ (k + 1) ⟨false,d,[],[],[]⟩ s7 = (setA y k d9,s9)):=by show _ = _;rw [atrs_next,hY,e9]
      replace o1:Hid (OffP p w wr.drew):=o1.trans (OffF.of (Below.refl _ _).drew)
      clear h2 hY
      replace hX:=hX.drew
      replace hR:=hR.drew
      go_wp2_with fail
      refine xas (fun W=>True) (Plan.of [(0,true),(1,true),(2,true),(4,true),(5,true),(6,true),(7,true),(3,false),(8,true),(9,false)] .done) (by kernel_rfl) (by kernel_rfl) (by kernel_rfl) (by kernel_rfl) trivial ?_
      generalize wr.drew = w8 at *
      iterate 7
       first
        | (refine xad _ rfl (by rfl) ?_)
        | (refine xaa _ _ rfl (.inl ⟨by rfl,fun W hS=>by clear hS;go_simp;try with_reducible rfl⟩) ?_)
       try simp only [qp,qa,qb,qc]
      refine xam _ rfl (fun K hK=>?_)
      go_simp
      refine Calls.mono hc.out ?_
      rintro en w9 ⟨he,h2,o2⟩
      replace he:en = .returned (.string (mkS d9)):=he
      subst he
      refine hK.out _ _ trivial ?_
      clear hK K hc
      try simp only [qp,qa,qb,qc]
      iterate 1
       first
        | (refine xad _ rfl (by rfl) ?_)
        | (refine xaa _ _ rfl (.inl ⟨by rfl,fun W hS=>by clear hS;go_simp;try with_reducible rfl⟩) ?_)
       try simp only [qp,qa,qb,qc]
      replace hR:=o2.has hR hRp
      replace hX:=o2.has hX hgp
      replace o1:Hid (OffP p w w9):=o1.out.trans o2
      clear o2
      have hcell:w9.cell? ⟨w2.heap.size,1 + n * 5 + 2 + k,none⟩ = some (.string (mkS (atrV y k))):=hX.obj_atr hlt hkl
      have hfree:=hX.free (1 + n * 5 + 2 + k)
      obtain ⟨x9,hwx9⟩:∃ W,w9.setCell ⟨w2.heap.size,1 + n * 5 + 2 + k,none⟩ (.string (mkS d9)) = W:=⟨_,rfl⟩
      have hX':Has x9 w2.heap.size 44 (stC ⟨A,setO b n (setA y k d9),T,[]⟩ none 0):=by rw [← hwx9];exact hX.put_atr hlt k hkl d9
      have hR':Has x9 w.heap.size 44 (stC st0 none 0):=by rw [← hwx9];exact hR.set_other hgR _
      have h3:RdI p x9 s9:=by rw [← hwx9];exact h2.other (xaq _ _ _) (by show p < w2.heap.size;omega)
      have o3:Hid (OffP p w x9):=by rw [← hwx9];exact o1.out.fresh (xaq _ _ _) (by show w.heap.size ≤ w2.heap.size;omega)
      clear h2 hX hR o1
      refine xam _ rfl (fun K hK=>?_)
      go_simp
      refine hK.out _ _ trivial ?_
      clear hK K
      try simp only [qp,qa,qb,qc]
      refine xbf ?_
      clear hwx9 hcell hfree
      go_wp2
      go_roundw
      case rel=>exact ⟨k + 1,_,s9,by omega,by go_num,hnx.out,h3,o3.out,hX',hR'⟩
      case measure=>simp [intOf];omega
     ·have e3:k = 3:=by omega
      subst e3
      have hdone:Hid _:=hob.out y s8 hY
      replace o1:Hid _:=o1
      clear hob hY
      go_wp2
      go_roundw
      case rel=>exact ⟨n + 1,_,s8,by omega,by go_num,hdone.out,h2,o1.out,hX,hR⟩
      case measure=>simp [intOf];omega
   ·by_cases m1:m = 1
    ·subst m1
     have hobz:Hid (∀ d s7 y s8,txtZ 16 s5 = (d,s7) → atrsZ 3 ⟨true,d,[],[],[]⟩ s7 = (y,s8) → obZ s4 = (y,s8)):=fun d s7 y s8 a1 a2=>obZ_is (by decide) e5 (by show txtZ 16 ⟨s5.left,s5.bad || false⟩ = _;rw [Bool.or_false];exact a1) a2
     obtain ⟨s6,hs6⟩:∃ q,q = s5:=⟨_,rfl⟩
     rw [← hs6] at h2 hobz
     have hcell:w6.cell? ⟨w2.heap.size,1 + n * 5,none⟩ = some (.bool false):=hX.obj_cell 0 hlt (by decide)
     have hfree:=hX.free (1 + n * 5)
     obtain ⟨x6,hwx6⟩:∃ W,w6.setCell ⟨w2.heap.size,1 + n * 5,none⟩ (.bool true) = W:=⟨_,rfl⟩
     have hX':Has x6 w2.heap.size 44 (stC ⟨A,setO b n ⟨true,[],[],[],[]⟩,T,[]⟩ none 0):=by rw [← hwx6];exact hX.put_there hlt true
     have hR':Has x6 w.heap.size 44 (stC st0 none 0):=by rw [← hwx6];exact hR.set_other hgR _
     have h3:RdI p x6 s6:=by rw [← hwx6];exact h2.other (xaq _ _ _) (by show p < w2.heap.size;omega)
     have o3:Hid (OffP p w x6):=by rw [← hwx6];exact o1.out.fresh (xaq _ _ _) (by show w.heap.size ≤ w2.heap.size;omega)
     clear h2 hX hR o1
     obtain ⟨d,s7,e7⟩:∃ n s',txtZ 16 s6 = (n,s'):=⟨_,_,rfl⟩
     have hc:=xgm p 16 x6 s6 h3 (by decide)
     rw [e7] at hc
     replace hc:Hid _:=hc
     have hob:Hid (∀ y s8,atrsZ 3 ⟨true,d,[],[],[]⟩ s7 = (y,s8) → objsZ (n + 1) base0 s3 = (setO b n y,s8)):=fun y s8 e=>hstep.out y s8 (hobz.out d s7 y s8 e7 e)
     clear h3 hstep hobz
     go_wp2_with fail
     clear hwx6 hcell hfree
     have hX:=hX'
     have hR:=hR'
     have o1:=o3
     clear hX' hR' o3
     refine Calls.mono hc.out ?_
     rintro en w7 ⟨he,h2,o2⟩
     replace he:en = .returned (.string (mkS d)):=he
     subst he
     clear hc
     replace hR:=o2.has hR hRp
     replace hX:=o2.has hX hgp
     replace o1:Hid (OffP p w w7):=o1.out.trans o2
     clear o2
     have hcell:w7.cell? ⟨w2.heap.size,1 + n * 5 + 1,none⟩ = some (.string (mkS [])):=hX.obj_cell 1 hlt (by decide)
     have hfree:=hX.free (1 + n * 5 + 1)
     obtain ⟨x7,hwx7⟩:∃ W,w7.setCell ⟨w2.heap.size,1 + n * 5 + 1,none⟩ (.string (mkS d)) = W:=⟨_,rfl⟩
     have hX':Has x7 w2.heap.size 44 (stC ⟨A,setO b n ⟨true,d,[],[],[]⟩,T,[]⟩ none 0):=by rw [← hwx7];exact hX.put_data hlt d
     have hR':Has x7 w.heap.size 44 (stC st0 none 0):=by rw [← hwx7];exact hR.set_other hgR _
     have h3:RdI p x7 s7:=by rw [← hwx7];exact h2.other (xaq _ _ _) (by show p < w2.heap.size;omega)
     have o3:Hid (OffP p w x7):=by rw [← hwx7];exact o1.out.fresh (xaq _ _ _) (by show w.heap.size ≤ w2.heap.size;omega)
     clear h2 hX hR o1
     have hX:=hX'
     have hR:=hR'
     have o1:=o3
     clear hX' hR' o3
     go_wp2
     clear hwx7 hcell hfree
     obtain ⟨W2,hW2⟩:∃ W2,W2 = wr:=⟨_,rfl⟩
     go_loopw [6] (fun i wq=>∃ k y s8,k ≤ 3 ∧ i = .int .i64 (k:Nat) ∧ atrsZ k ⟨true,d,[],[],[]⟩ s7 = (y,s8) ∧ RdI p wq s8 ∧ OffP p w wq ∧ Has wq w2.heap.size 44 (stC ⟨A,setO b n y,T,[]⟩ none 0) ∧ Has wq w.heap.size 44 (stC st0 none 0)) (fun i _=>3 - (intOf i).toNat)
     case atStart=>exact ⟨0,_,s7,by decide,rfl,rfl,h3,o1.out,hX,hR⟩
     case round =>
      clear h3 o1 hX hR
      obtain ⟨k,y,s8,hk,rfl,hY,h2,o1,hX,hR⟩:=hrel
      by_cases hkl:k < 3
      ·have hkI:(k:Int) < 3:=by omega
       obtain ⟨d9,s9,e9⟩:∃ n s',txtZ 16 s8 = (n,s'):=⟨_,_,rfl⟩
       have hc:=xgm p 16 wr.drew s8 (h2.later (Below.refl _ _).drew) (by decide)
       rw [e9] at hc
       replace hc:Hid _:=hc
       have hnx:Hid (atrsZ (k + 1) ⟨true,d,[],[],[]⟩ s7 = (setA y k d9,s9)):=by show _ = _;rw [atrs_next,hY,e9]
       replace o1:Hid (OffP p w wr.drew):=o1.trans (OffF.of (Below.refl _ _).drew)
       clear h2 hY
       replace hX:=hX.drew
       replace hR:=hR.drew
       go_wp2_with fail
       refine xas (fun W=>True) (Plan.of [(0,true),(1,true),(2,true),(4,true),(5,true),(6,true),(7,true),(3,false),(8,true),(9,false)] .done) (by kernel_rfl) (by kernel_rfl) (by kernel_rfl) (by kernel_rfl) trivial ?_
       generalize wr.drew = w8 at *
       iterate 7
        first
         | (refine xad _ rfl (by rfl) ?_)
         | (refine xaa _ _ rfl (.inl ⟨by rfl,fun W hS=>by clear hS;go_simp;try with_reducible rfl⟩) ?_)
        try simp only [qp,qa,qb,qc]
       refine xam _ rfl (fun K hK=>?_)
       go_simp
       refine Calls.mono hc.out ?_
       rintro en w9 ⟨he,h2,o2⟩
       replace he:en = .returned (.string (mkS d9)):=he
       subst he
       refine hK.out _ _ trivial ?_
       clear hK K hc
       try simp only [qp,qa,qb,qc]
       iterate 1
        first
         | (refine xad _ rfl (by rfl) ?_)
         | (refine xaa _ _ rfl (.inl ⟨by rfl,fun W hS=>by clear hS;go_simp;try with_reducible rfl⟩) ?_)
        try simp only [qp,qa,qb,qc]
       replace hR:=o2.has hR hRp
       replace hX:=o2.has hX hgp
       replace o1:Hid (OffP p w w9):=o1.out.trans o2
       clear o2
       have hcell:w9.cell? ⟨w2.heap.size,1 + n * 5 + 2 + k,none⟩ = some (.string (mkS (atrV y k))):=hX.obj_atr hlt hkl
       have hfree:=hX.free (1 + n * 5 + 2 + k)
       obtain ⟨x9,hwx9⟩:∃ W,w9.setCell ⟨w2.heap.size,1 + n * 5 + 2 + k,none⟩ (.string (mkS d9)) = W:=⟨_,rfl⟩
       have hX':Has x9 w2.heap.size 44 (stC ⟨A,setO b n (setA y k d9),T,[]⟩ none 0):=by rw [← hwx9];exact hX.put_atr hlt k hkl d9
       have hR':Has x9 w.heap.size 44 (stC st0 none 0):=by rw [← hwx9];exact hR.set_other hgR _
       have h3:RdI p x9 s9:=by rw [← hwx9];exact h2.other (xaq _ _ _) (by show p < w2.heap.size;omega)
       have o3:Hid (OffP p w x9):=by rw [← hwx9];exact o1.out.fresh (xaq _ _ _) (by show w.heap.size ≤ w2.heap.size;omega)
       clear h2 hX hR o1
       refine xam _ rfl (fun K hK=>?_)
       go_simp
       refine hK.out _ _ trivial ?_
       clear hK K
       try simp only [qp,qa,qb,qc]
       refine xbf ?_
       clear hwx9 hcell hfree
       go_wp2
       go_roundw
       case rel=>exact ⟨k + 1,_,s9,by omega,by go_num,hnx.out,h3,o3.out,hX',hR'⟩
       case measure=>simp [intOf];omega
      ·have e3:k = 3:=by omega
       subst e3
       have hdone:Hid _:=hob.out y s8 hY
       replace o1:Hid _:=o1
       clear hob hY
       go_wp2
       go_roundw
       case rel=>exact ⟨n + 1,_,s8,by omega,by go_num,hdone.out,h2,o1.out,hX,hR⟩
       case measure=>simp [intOf];omega
    ·have m2I:(1:Int) < (m:Int):=by omega
     have m1I:¬ (m:Int) = 1:=by omega
     have m1B:((m:Int) == 1) = false:=by rw [beq_eq_false_iff_ne];exact m1I
     have hobz:Hid (∀ d s7 y s8,txtZ 16 ⟨s5.left,true⟩ = (d,s7) → atrsZ 3 ⟨false,d,[],[],[]⟩ s7 = (y,s8) → obZ s4 = (y,s8)):=fun d s7 y s8 a1 a2=>obZ_is (d:=d) (s2:=s7) hm e5 (by rw [decide_eq_true (show 1 < m by omega),Bool.or_true];exact a1) (by rw [decide_eq_false m1];exact a2)
     obtain ⟨h9,o9⟩:=rd_bad h2
     obtain ⟨W6,hW6⟩:∃ W,w6.setCell ⟨p,1,none⟩ (.bool true) = W:=⟨_,rfl⟩
     rw [hW6] at h9 o9
     replace hX:=o9.has hX hgp
     replace hR:=o9.has hR hRp
     replace o1:Hid (OffP p w W6):=o1.out.trans o9
     replace h2:=h9
     clear h9 o9
     obtain ⟨s6,hs6⟩:∃ q:RS,q = ⟨s5.left,true⟩:=⟨_,rfl⟩
     rw [← hs6] at h2 hobz
     have hcell:W6.cell? ⟨w2.heap.size,1 + n * 5,none⟩ = some (.bool false):=hX.obj_cell 0 hlt (by decide)
     have hfree:=hX.free (1 + n * 5)
     obtain ⟨x6,hwx6⟩:∃ W,W6.setCell ⟨w2.heap.size,1 + n * 5,none⟩ (.bool false) = W:=⟨_,rfl⟩
     have hX':Has x6 w2.heap.size 44 (stC ⟨A,setO b n ⟨false,[],[],[],[]⟩,T,[]⟩ none 0):=by rw [← hwx6];exact hX.put_there hlt false
     have hR':Has x6 w.heap.size 44 (stC st0 none 0):=by rw [← hwx6];exact hR.set_other hgR _
     have h3:RdI p x6 s6:=by rw [← hwx6];exact h2.other (xaq _ _ _) (by show p < w2.heap.size;omega)
     have o3:Hid (OffP p w x6):=by rw [← hwx6];exact o1.out.fresh (xaq _ _ _) (by show w.heap.size ≤ w2.heap.size;omega)
     clear h2 hX hR o1
     obtain ⟨d,s7,e7⟩:∃ n s',txtZ 16 s6 = (n,s'):=⟨_,_,rfl⟩
     have hc:=xgm p 16 x6 s6 h3 (by decide)
     rw [e7] at hc
     replace hc:Hid _:=hc
     have hob:Hid (∀ y s8,atrsZ 3 ⟨false,d,[],[],[]⟩ s7 = (y,s8) → objsZ (n + 1) base0 s3 = (setO b n y,s8)):=fun y s8 e=>hstep.out y s8 (hobz.out d s7 y s8 e7 e)
     clear h3 hstep hobz
     go_wp2_with fail
     clear hwx6 hcell hfree
     have hX:=hX'
     have hR:=hR'
     have o1:=o3
     clear hX' hR' o3
     refine Calls.mono hc.out ?_
     rintro en w7 ⟨he,h2,o2⟩
     replace he:en = .returned (.string (mkS d)):=he
     subst he
     clear hc
     replace hR:=o2.has hR hRp
     replace hX:=o2.has hX hgp
     replace o1:Hid (OffP p w w7):=o1.out.trans o2
     clear o2
     have hcell:w7.cell? ⟨w2.heap.size,1 + n * 5 + 1,none⟩ = some (.string (mkS [])):=hX.obj_cell 1 hlt (by decide)
     have hfree:=hX.free (1 + n * 5 + 1)
     obtain ⟨x7,hwx7⟩:∃ W,w7.setCell ⟨w2.heap.size,1 + n * 5 + 1,none⟩ (.string (mkS d)) = W:=⟨_,rfl⟩
     have hX':Has x7 w2.heap.size 44 (stC ⟨A,setO b n ⟨false,d,[],[],[]⟩,T,[]⟩ none 0):=by rw [← hwx7];exact hX.put_data hlt d
     have hR':Has x7 w.heap.size 44 (stC st0 none 0):=by rw [← hwx7];exact hR.set_other hgR _
     have h3:RdI p x7 s7:=by rw [← hwx7];exact h2.other (xaq _ _ _) (by show p < w2.heap.size;omega)
     have o3:Hid (OffP p w x7):=by rw [← hwx7];exact o1.out.fresh (xaq _ _ _) (by show w.heap.size ≤ w2.heap.size;omega)
     clear h2 hX hR o1
     have hX:=hX'
     have hR:=hR'
     have o1:=o3
     clear hX' hR' o3
     go_wp2
     clear hwx7 hcell hfree
     obtain ⟨W2,hW2⟩:∃ W2,W2 = wr:=⟨_,rfl⟩
     go_loopw [6] (fun i wq=>∃ k y s8,k ≤ 3 ∧ i = .int .i64 (k:Nat) ∧ atrsZ k ⟨false,d,[],[],[]⟩ s7 = (y,s8) ∧ RdI p wq s8 ∧ OffP p w wq ∧ Has wq w2.heap.size 44 (stC ⟨A,setO b n y,T,[]⟩ none 0) ∧ Has wq w.heap.size 44 (stC st0 none 0)) (fun i _=>3 - (intOf i).toNat)
     case atStart=>exact ⟨0,_,s7,by decide,rfl,rfl,h3,o1.out,hX,hR⟩
     case round =>
      clear h3 o1 hX hR
      obtain ⟨k,y,s8,hk,rfl,hY,h2,o1,hX,hR⟩:=hrel
      by_cases hkl:k < 3
      ·have hkI:(k:Int) < 3:=by omega
       obtain ⟨d9,s9,e9⟩:∃ n s',txtZ 16 s8 = (n,s'):=⟨_,_,rfl⟩
       have hc:=xgm p 16 wr.drew s8 (h2.later (Below.refl _ _).drew) (by decide)
       rw [e9] at hc
       replace hc:Hid _:=hc
       have hnx:Hid (atrsZ (k + 1) ⟨false,d,[],[],[]⟩ s7 = (setA y k d9,s9)):=by show _ = _;rw [atrs_next,hY,e9]
       replace o1:Hid (OffP p w wr.drew):=o1.trans (OffF.of (Below.refl _ _).drew)
       clear h2 hY
       replace hX:=hX.drew
       replace hR:=hR.drew
       go_wp2_with fail
       refine xas (fun W=>True) (Plan.of [(0,true),(1,true),(2,true),(4,true),(5,true),(6,true),(7,true),(3,false),(8,true),(9,false)] .done) (by kernel_rfl) (by kernel_rfl) (by kernel_rfl) (by kernel_rfl) trivial ?_
       generalize wr.drew = w8 at *
       iterate 7
        first
         | (refine xad _ rfl (by rfl) ?_)
         | (refine xaa _ _ rfl (.inl ⟨by rfl,fun W hS=>by clear hS;go_simp;try with_reducible rfl⟩) ?_)
        try simp only [qp,qa,qb,qc]
       refine xam _ rfl (fun K hK=>?_)
       go_simp
       refine Calls.mono hc.out ?_
       rintro en w9 ⟨he,h2,o2⟩
       replace he:en = .returned (.string (mkS d9)):=he
       subst he
       refine hK.out _ _ trivial ?_
       clear hK K hc
       try simp only [qp,qa,qb,qc]
       iterate 1
        first
         | (refine xad _ rfl (by rfl) ?_)
         | (refine xaa _ _ rfl (.inl ⟨by rfl,fun W hS=>by clear hS;go_simp;try with_reducible rfl⟩) ?_)
        try simp only [qp,qa,qb,qc]
       replace hR:=o2.has hR hRp
       replace hX:=o2.has hX hgp
       replace o1:Hid (OffP p w w9):=o1.out.trans o2
       clear o2
       have hcell:w9.cell? ⟨w2.heap.size,1 + n * 5 + 2 + k,none⟩ = some (.string (mkS (atrV y k))):=hX.obj_atr hlt hkl
       have hfree:=hX.free (1 + n * 5 + 2 + k)
       obtain ⟨x9,hwx9⟩:∃ W,w9.setCell ⟨w2.heap.size,1 + n * 5 + 2 + k,none⟩ (.string (mkS d9)) = W:=⟨_,rfl⟩
       have hX':Has x9 w2.heap.size 44 (stC ⟨A,setO b n (setA y k d9),T,[]⟩ none 0):=by rw [← hwx9];exact hX.put_atr hlt k hkl d9
       have hR':Has x9 w.heap.size 44 (stC st0 none 0):=by rw [← hwx9];exact hR.set_other hgR _
       have h3:RdI p x9 s9:=by rw [← hwx9];exact h2.other (xaq _ _ _) (by show p < w2.heap.size;omega)
       have o3:Hid (OffP p w x9):=by rw [← hwx9];exact o1.out.fresh (xaq _ _ _) (by show w.heap.size ≤ w2.heap.size;omega)
       clear h2 hX hR o1
       refine xam _ rfl (fun K hK=>?_)
       go_simp
       refine hK.out _ _ trivial ?_
       clear hK K
       try simp only [qp,qa,qb,qc]
       refine xbf ?_
       clear hwx9 hcell hfree
       go_wp2
       go_roundw
       case rel=>exact ⟨k + 1,_,s9,by omega,by go_num,hnx.out,h3,o3.out,hX',hR'⟩
       case measure=>simp [intOf];omega
      ·have e3:k = 3:=by omega
       subst e3
       have hdone:Hid _:=hob.out y s8 hY
       replace o1:Hid _:=o1
       clear hob hY
       go_wp2
       go_roundw
       case rel=>exact ⟨n + 1,_,s8,by omega,by go_num,hdone.out,h2,o1.out,hX,hR⟩
       case measure=>simp [intOf];omega
  ·have hgeI:¬ (n:Int) < 6:=by omega
   have hgeD:decide ((n:Int) < 6) = false:=decide_eq_false hgeI
   have e6:n = 6:=by omega
   have hO6:Hid (objsZ 6 base0 s3 = (b,s4)):=by rw [e6] at hO;exact hO
   have hl0:Hid (∀ j,b.last j = last0):=fun j=>by have:=(objs_rest n s3).2 j;rw [hO] at this;exact this
   clear e6 hn hO
   obtain ⟨n5,hn5⟩:∃ k,k = n:=⟨_,rfl⟩
   rw [← hn5] at hgeI hgeD ⊢
   clear hlt hn5
   replace o1:Hid _:=o1
   obtain ⟨W2,hW2⟩:∃ W2,W2 = wr:=⟨_,rfl⟩
   go_wp2
   go_loopw [7] (fun i wq=>∃ n c s5,n ≤ 3 ∧ i = .int .i64 (n:Nat) ∧ lastsZ n b s4 = (c,s5) ∧ RdI p wq s5 ∧ OffP p w wq ∧ Has wq w2.heap.size 44 (stC ⟨A,c,T,[]⟩ none 0) ∧ Has wq w.heap.size 44 (stC st0 none 0)) (fun i _=>3 - (intOf i).toNat)
   case atStart=>exact ⟨0,b,s4,by decide,rfl,rfl,h2,o1.out,hX,hR⟩
   case round =>
    clear h2 o1 hX hR
    obtain ⟨n,c,s5,hn,rfl,hO,h2,o1,hX,hR⟩:=hrel
    by_cases hlt:n < 3
    ·have hltI:(n:Int) < 3:=by omega
     have hb0:setL c n last0 = c:=setL_same hlt (by have:=lasts_rest b n s4 ⟨n,hlt⟩ (Nat.le_refl _);rw [hO,hl0.out] at this;exact this)
     rw [← hb0] at hX
     obtain ⟨m,s6,e6⟩:∃ n s',numZ 4 s5 = (n,s'):=⟨_,_,rfl⟩
     obtain ⟨q,s7,e7⟩:∃ n s',numZ 1 s6 = (n,s'):=⟨_,_,rfl⟩
     have hstep:Hid (lastsZ (n + 1) b s4 = (setL c n ⟨m % 4294967296,⟨q % 256,[]⟩⟩,s7)):=by show _ = _;rw [lasts_next,hO,lastZ_is e6 e7]
     have hc:=xbu p 4 wr s5 h2 (by decide) (by decide)
     rw [e6] at hc
     replace hc:Hid _:=hc
     replace o1:Hid _:=o1
     clear h2 hb0 hO
     go_wp2_with fail
     refine Calls.mono hc.out ?_
     rintro en w6 ⟨he,h2,o2⟩
     replace he:en = .returned (.int .u64 (m:Nat)):=he
     subst he
     clear hc
     replace hR:=o2.has hR hRp
     replace hX:=o2.has hX hgp
     replace o1:Hid (OffP p w w6):=o1.out.trans o2
     clear o2
     have hcell:w6.cell? ⟨w2.heap.size,31 + n * 3,none⟩ = some (.int .u32 0):=hX.last_cell 0 hlt (by decide)
     have hfree:=hX.free (31 + n * 3)
     obtain ⟨x6,hwx6⟩:∃ W,w6.setCell ⟨w2.heap.size,31 + n * 3,none⟩ (.int .u32 ((m:Int) % 4294967296)) = W:=⟨_,rfl⟩
     have hX':Has x6 w2.heap.size 44 (stC ⟨A,setL c n ⟨m % 4294967296,res0⟩,T,[]⟩ none 0):=by rw [← hwx6];exact (modn4 m).symm ▸ hX.put_seq hlt (m % 4294967296)
     have hR':Has x6 w.heap.size 44 (stC st0 none 0):=by rw [← hwx6];exact hR.set_other hgR _
     have h3:RdI p x6 s6:=by rw [← hwx6];exact h2.other (xaq _ _ _) (by show p < w2.heap.size;omega)
     have o3:Hid (OffP p w x6):=by rw [← hwx6];exact o1.out.fresh (xaq _ _ _) (by show w.heap.size ≤ w2.heap.size;omega)
     clear h2 hX hR o1
     have hc:=xbu p 1 x6 s6 h3 (by decide) (by decide)
     rw [e7] at hc
     replace hc:Hid _:=hc
     clear h3
     go_wp2_with fail
     clear hwx6 hcell hfree
     have hX:=hX'
     have hR:=hR'
     have o1:=o3
     clear hX' hR' o3
     refine Calls.mono hc.out ?_
     rintro en w7 ⟨he,h2,o2⟩
     replace he:en = .returned (.int .u64 (q:Nat)):=he
     subst he
     clear hc
     replace hR:=o2.has hR hRp
     replace hX:=o2.has hX hgp
     replace o1:Hid (OffP p w w7):=o1.out.trans o2
     clear o2
     have hcell:w7.cell? ⟨w2.heap.size,31 + n * 3 + 1,none⟩ = some (.int .u8 0):=hX.last_cell 1 hlt (by decide)
     have hfree:=hX.free (31 + n * 3 + 1)
     obtain ⟨x7,hwx7⟩:∃ W,w7.setCell ⟨w2.heap.size,31 + n * 3 + 1,none⟩ (.int .u8 ((q:Int) % 256)) = W:=⟨_,rfl⟩
     have hX':Has x7 w2.heap.size 44 (stC ⟨A,setL c n ⟨m % 4294967296,⟨q % 256,[]⟩⟩,T,[]⟩ none 0):=by rw [← hwx7];exact (modn1 q).symm ▸ hX.put_code hlt (q % 256)
     have hR':Has x7 w.heap.size 44 (stC st0 none 0):=by rw [← hwx7];exact hR.set_other hgR _
     have h3:RdI p x7 s7:=by rw [← hwx7];exact h2.other (xaq _ _ _) (by show p < w2.heap.size;omega)
     have o3:Hid (OffP p w x7):=by rw [← hwx7];exact o1.out.fresh (xaq _ _ _) (by show w.heap.size ≤ w2.heap.size;omega)
     clear h2 hX hR o1
     go_wp2
     clear hwx7 hcell hfree
     go_roundw
     case rel=>exact ⟨n + 1,_,s7,by omega,by go_num,hstep.out,h3,o3.out,hX',hR'⟩
     case measure=>simp [intOf];omega
    ·have e3:n = 3:=by omega
     subst e3
     have hc:=rdlog_any p wr s5 h2
     obtain ⟨l,s6,e6⟩:∃ n s',logZ s5 = (n,s'):=⟨_,_,rfl⟩
     have hall:Hid _:=hZ.out b s4 c s5 l s6 hO6.out hO e6
     rw [e6] at hc
     replace hc:Hid _:=hc
     replace o1:Hid _:=o1
     have hsz:=hX.lt
     clear h2 hO
     go_wp2_with fail
     refine Calls.mono hc.out ?_
     rintro en w6 ⟨go,gc,he,hS,hfar,h2,o2⟩
     replace he:en = .returned (.slice go l.length gc):=he
     subst he
     clear hc
     replace hR:=o2.has hR hRp
     replace hX:=o2.has hX hgp
     replace o1:Hid (OffP p w w6):=o1.out.trans o2
     clear o2
     have hcell:w6.cell? ⟨w2.heap.size,48,none⟩ = some (.slice none 0 0):=hX.cell 48
     have hfree:=hX.free (48)
     obtain ⟨x6,hwx6⟩:∃ W,w6.setCell ⟨w2.heap.size,48,none⟩ (.slice go l.length gc) = W:=⟨_,rfl⟩
     have hX':Has x6 w2.heap.size 44 (stC ⟨A,c,T,l⟩ go gc):=by rw [← hwx6];exact hX.put_log l
     have hR':Has x6 w.heap.size 44 (stC st0 none 0):=by rw [← hwx6];exact hR.set_other hgR _
     have h3:RdI p x6 s6:=by rw [← hwx6];exact h2.other (xaq _ _ _) (by show p < w2.heap.size;omega)
     have o3:Hid (OffP p w x6):=by rw [← hwx6];exact o1.out.fresh (xaq _ _ _) (by show w.heap.size ≤ w2.heap.size;omega)
     clear h2 hX hR o1
     have hS6:Sl x6 go gc 8 (entR l):=by rw [← hwx6];exact hS.cells_other (k:=w2.heap.size) (fun d hd=>by have:=hfar d hd;omega) [.slice go l.length gc] 48
     have hszx:x6.heap.size = w6.heap.size:=by rw [← hwx6];simp
     have hE:Hid (StR p w (stZ s) (.returned (.agg (stC ⟨A,c,T,l⟩ go gc))) (x6.setRow w.heap.size (stC ⟨A,c,T,l⟩ go gc))):=by
      refine ⟨go,gc,by rw [hall.out],?_,?_,?_,?_⟩
      ·rw [hall.out];exact hS6.row_other (k:=w.heap.size) (fun d hd=>by have:=hfar d hd;omega) _
      ·intro d hd
       have:=hfar d hd
       exact ⟨by omega,Nat.lt_of_lt_of_le (by omega:d.block < x6.heap.size) (show But w.heap.size x6 (x6.setRow w.heap.size (stC ⟨A,c,T,l⟩ go gc)) from xbb _ _).size⟩
      ·rw [hall.out];exact h3.other (xbb _ _) hp
      ·exact o3.out.fresh (xbb _ _) (Nat.le_refl _)
     have hRf:=hR'.row (stC ⟨A,c,T,l⟩ go gc)
     clear h3 o3 hall hS6 hS hfar hszx
     go_wp2_with (first
      | (refine xab (by rfl) 44 _ rfl w2.heap.size rfl 44 (stC ⟨A,c,T,l⟩ go gc) _ Tryz.underlying44 rfl (xcg _ _ _) ?hg ?_;(case hg=>(try rw [hwx6]);exact hX'))
      | (refine xai (by rfl) 44 _ _ rfl w.heap.size rfl (stC ⟨A,c,T,l⟩ go gc) rfl 44 (stC st0 none 0) (xcg _ _ _) rfl (st_one _ _ _) ?hg _ rfl ?_;(case hg=>(try rw [hwx6]);exact hR');(try rw [hwx6]))
      | fail)
     exact xba rfl w.heap.size rfl 44 (stC ⟨A,c,T,l⟩ go gc) _ Tryz.underlying44 rfl (xcg _ _ _) hRf rfl hE.out

theorem reader_built (ao:Option Addr) (n c:Nat):Tryz.prog.built 113 [(0,.slice ao n c)] = some #[.slice ao n c,.bool false]:=by kernel_rfl
end Go.Proofs.YtecilienolabfaaGreatDoor
