/- What is a message is in its form; how long its bytes are; they are read back, and nothing else is. Nothing of the program is in it. -/
import Derived.Test.YtecilienolabfaaGreatDoorIsFacts
namespace Go.Proofs.YtecilienolabfaaGreatDoor
set_option linter.unusedSimpArgs false
set_option linter.unusedVariables false
set_option maxRecDepth 100000
open Go.RowKit
theorem inc_G {x:IncV} (h:isInc x = true):IncG x:=by
 unfold isInc at h
 rw [decide_eq_true_iff] at h
 refine ⟨by omega,by omega,x.n.toNat,by omega,by omega⟩
theorem inc0_G:IncG inc0:=⟨by decide,by decide,0,rfl,by decide⟩
theorem IncG.ok {x:IncV} (h:IncG x):IncOk x:=by
 obtain ⟨k,hk,hl⟩:=h.n
 exact ⟨h.kind,h.osd,by omega,by omega⟩
theorem dif_G {d:DiffV} (h:xcq d = true) (ho:DiffOk d):DifG d:=by
 have hw:=dif_W h ho
 obtain ⟨h1,h2⟩:=dif_parts h
 refine ⟨?_,ho.fr,hw.log.len,hw.log.each,isSt_G h2 ho.whole⟩
 unfold xcq at h
 split at h
 ·rename_i e
  exact ⟨0,e,by decide⟩
 ·split at h
  ·rename_i e
   exact ⟨1,e,by decide⟩
  ·split at h
   ·rename_i e
    exact ⟨2,e,by decide⟩
   ·cases h
theorem xch {m:MsgV}:isMsg m = true ↔ goesM (shapeM m.kind) m = true ∧ fitsM (shapeM m.kind) m = true ∧ onlyM m = m:=by
 unfold isMsg
 rw [Bool.and_eq_true,Bool.and_eq_true,sameMsg_is]
 constructor
 ·rintro ⟨a,b,c⟩;exact ⟨a,b,c.symm⟩
 ·rintro ⟨a,b,c⟩;exact ⟨a,b,c.symm⟩
theorem xhi {m:MsgV} (ho:MsgOk m) (h:isMsg m = true):MsgG m:=by
 obtain ⟨h1,h2,h3⟩:=xch.1 h
 obtain ⟨p1,p2,p3,p4,p5,p6⟩:=xhl _ _ h2
 have hp:=parts_W ho h2
 refine ⟨ho.kind,ho.src,ho.dst,ho.epoch,ho.b,ho.acc,fun q=>?_,ho.group,fun q=>isSt_G (p1 q) ho.st,fun q=>dif_G (p2 q) ho.diff,hp.ent,ho.n,fun q=>hp.op (of_decide_eq_true q),fun q=>⟨ho.r.code,p6⟩,h3⟩
 have hv:xcj (shapeM m.kind) m = true:=by
  unfold fitsM at h2
  simp only [Bool.and_eq_true] at h2
  exact h2.2.2.1
 unfold xcj at hv
 rw [if_neg (by rw [q];decide)] at hv
 split at hv
 ·exact inc_G hv
 ·split at hv
  ·rw [Bool.and_eq_true] at hv
   exact inc_G hv.2
  ·rw [Bool.and_eq_true,xcc] at hv
   rw [hv.2]
   exact inc0_G
theorem MsgG.ok {m:MsgV} (h:MsgG m):MsgOk m:=by
 have e:=h.only
 have q8:ifN (shapeM m.kind).inc inc0 m.inc = m.inc:=congrArg MsgV.inc e
 have q10:ifN (shapeM m.kind).st st0 m.st = m.st:=ifN_in (congrArg MsgV.st e) fun t=>stG_self (h.st t)
 have q11:ifN (shapeM m.kind).dif diff0 m.diff = m.diff:=ifN_in (congrArg MsgV.diff e) fun t=>difG_self (h.diff t)
 have q12:ifN (shapeM m.kind).ent ent0 m.ent = m.ent:=congrArg MsgV.ent e
 have q14:ifN (decide ((shapeM m.kind).op ≠ 0)) op0 m.op = m.op:=congrArg MsgV.op e
 have q15:ifN (shapeM m.kind).res res0 m.r = m.r:=congrArg MsgV.r e
 refine ⟨h.kind,h.src,h.dst,h.epoch,h.b,h.acc,ifN_of q8 (fun t=>(h.inc t).ok) inc0_ok,h.group,ifN_of q10 (fun t=>(h.st t).ok) st0_fit,ifN_of q11 (fun t=>(h.diff t).ok) diff0_fit,ifN_of q12 (fun t=>(h.ent t).ok) ent0_G.ok,h.n,ifN_of q14 (fun t=>(h.op t).ok) op0_ok,ifN_of q15 (fun t=>⟨(h.r t).code,Nat.le_trans (h.r t).len (by decide)⟩) ⟨by decide,by decide⟩⟩
/-! ## Lengths -/
theorem xdc (x:BalV):(balB x).length = 5:=by simp [balB,xal]
theorem incB_length (x:IncV):(incB x).length = 3:=by simp [incB,xal]
theorem opB_length (o:OpV):(opB o).length = 10 + o.data.length:=by
 simp only [opB,List.length_append,xal,xdg]
 omega
theorem resB_length (x:ResV):(resB x).length = 3 + x.data.length:=by
 simp only [resB,List.length_append,xal,xdg]
 omega
theorem entB_length (e:EntV):(entB e).length = 18 + e.op.data.length:=by
 simp only [entB,List.length_append,xal,opB_length]
 omega
theorem entsB_length:∀ (l:List EntV),(∀ e ∈ l,EntG e) → (entsB l).length ≤ 34 * l.length
 | [],_=>Nat.le_refl _
 | e :: l,h=>by
  have h1:=entsB_length l (fun e he=>h e (by simp [he]))
  have h2:=(h e (by simp)).op.len
  show (entB e ++ entsB l).length ≤ _
  rw [List.length_append,entB_length,List.length_cons]
  omega
theorem logB_length {l:List EntV} (h:∀ e ∈ l,EntG e) (hl:l.length ≤ 6):(logB l).length ≤ 205:=by
 have:=entsB_length l h
 simp only [logB,List.length_append,xal]
 omega
theorem xfo (x:Bool):(flagB x).length = 1:=by simp [flagB,xal]
theorem xfh {x:ObjV} (h:ObG x):(obB x).length ≤ 73:=by
 have h1:=h.data
 have h2:=h.a0
 have h3:=h.a1
 have h4:=h.a2
 simp only [obB,List.length_append,xfo,xdg]
 omega
theorem lstB_length (l:LastV):(lstB l).length = 5:=by simp [lstB,xal]
theorem bsB_length {b:BaseV} (h:BsG b):(bsB b).length ≤ 453:=by
 have h0:=xfh (h.obj 0)
 have h1:=xfh (h.obj 1)
 have h2:=xfh (h.obj 2)
 have h3:=xfh (h.obj 3)
 have h4:=xfh (h.obj 4)
 have h5:=xfh (h.obj 5)
 simp only [bsB,List.length_append,lstB_length]
 omega
theorem statB_length {s:StV} (h:StG s):(statB s).length ≤ 670:=by
 have h1:=bsB_length h.base
 have h2:=logB_length h.log h.len
 simp only [statB,tlB,List.length_append,xal]
 omega
theorem difB_length {d:DiffV} (h:DifG d):(difB d).length ≤ 880:=by
 have h1:=statB_length h.whole
 have h2:=logB_length h.log h.len
 simp only [difB,List.length_append,xal]
 omega
theorem ifB_le {t:Bool} {l:List UInt8} {n:Nat} (h:t = true → l.length ≤ n):(ifB t l).length ≤ n:=by
 unfold ifB
 split
 ·rename_i q;exact h q
 ·exact Nat.zero_le _
theorem xdp {m:MsgV} (h:MsgG m):(msgB m).length ≤ 1900 ∧ 7 ≤ (msgB m).length:=by
 have a1:=ifB_le (t:=decide ((shapeM m.kind).bal ≠ 0)) (l:=balB m.b) (n:=5) (fun _=>Nat.le_of_eq (xdc _))
 have a2:=ifB_le (t:=(shapeM m.kind).pro) (l:=balB m.acc) (n:=5) (fun _=>Nat.le_of_eq (xdc _))
 have a3:=ifB_le (t:=(shapeM m.kind).pro) (l:=flagB m.has) (n:=1) (fun _=>Nat.le_of_eq (xfo _))
 have a4:=ifB_le (t:=(shapeM m.kind).inc) (l:=incB m.inc) (n:=3) (fun _=>Nat.le_of_eq (incB_length _))
 have a5:=ifB_le (t:=(shapeM m.kind).grp) (l:=putB m.group 1) (n:=1) (fun _=>Nat.le_of_eq (xal _ _))
 have a6:=ifB_le (t:=(shapeM m.kind).st) (l:=statB m.st) (n:=670) (fun q=>statB_length (h.st q))
 have a7:=ifB_le (t:=(shapeM m.kind).dif) (l:=difB m.diff) (n:=880) (fun q=>difB_length (h.diff q))
 have a8:=ifB_le (t:=(shapeM m.kind).ent) (l:=entB m.ent) (n:=34) (fun q=>by rw [entB_length];have:=(h.ent q).op.len;omega)
 have a9:=ifB_le (t:=decide (0 < (shapeM m.kind).mostN)) (l:=putB m.n 4) (n:=4) (fun _=>Nat.le_of_eq (xal _ _))
 have a10:=ifB_le (t:=decide ((shapeM m.kind).op ≠ 0)) (l:=opB m.op) (n:=26) (fun q=>by rw [opB_length];have:=(h.op q).len;omega)
 have a11:=ifB_le (t:=(shapeM m.kind).res) (l:=resB m.r) (n:=83) (fun q=>by rw [resB_length];have:=(h.r q).len;omega)
 unfold msgB
 simp only [List.length_append,xal]
 omega
theorem xbz (b:List UInt8):(sumB b).length = b.length + 8:=by simp [sumB,xal]
/-! ## Read back -/
theorem open_sum {b:List UInt8} (hl:b.length ≤ 1992):openM (sumB b) = .ok b:=by
 have h8:(sumB b).length - 8 = b.length:=by rw [xbz];omega
 unfold openM
 rw [if_neg (by rw [xbz];omega),if_neg (by rw [xbz];omega),h8]
 have e1:(sumB b).take b.length = b:=by simp [sumB]
 have e2:(sumB b).drop b.length = putB (sumN b) 8:=by simp [sumB]
 rw [e1,e2,get_put 8 _ (Nat.le_refl _),if_pos (Nat.mod_eq_of_lt (by have:=xdi b;simpa using this))]
theorem open_was {b c:List UInt8} (h:openM b = .ok c):b = sumB c ∧ c.length ≤ 1992:=by
 unfold openM at h
 split at h
 ·cases h
 ·split at h
  ·cases h
  ·split at h
   ·rename_i h1 h2 h3
    injection h with h
    subst h
    refine ⟨?_,by rw [List.length_take];omega⟩
    unfold sumB
    rw [← h3,put_get _ 8 (by rw [List.length_drop];omega) (Nat.le_refl _),List.take_append_drop]
   ·cases h
theorem dec_back {m:MsgV} (ho:MsgOk m) (h:isMsg m = true):decM (sumB (msgB m)) = (m,0):=by
 have hG:=xhi ho h
 have hl:=(xdp hG).1
 have e:msgM GetC msg0 (msgB m) = .ok (m,[]):=by
  have:=msg_get msg0 hG []
  rwa [List.append_nil] at this
 have:rdMsgM (sumB (msgB m)) = .ok m:=by
  unfold rdMsgM
  rw [open_sum (by omega)]
  simp only [e]
  rw [if_pos ⟨rfl,h⟩]
 unfold decM
 rw [this]
theorem rd_was {b:List UInt8} {m:MsgV} (h:rdMsgM b = .ok m):MsgG m ∧ isMsg m = true ∧ b = sumB (msgB m):=by
 unfold rdMsgM at h
 split at h
 ·cases h
 ·rename_i c hc
  obtain ⟨rfl,_⟩:=open_was hc
  split at h
  ·cases h
  ·rename_i x r hx
   split at h
   ·rename_i q
    injection h with h
    subst h
    obtain ⟨hG,e⟩:=msg_was hx
    have:r = []:=List.eq_nil_of_length_eq_zero q.1
    subst this
    rw [List.append_nil] at e
    exact ⟨hG,q.2,by rw [e]⟩
   ·cases h
def Nz {α:Type} (m:Wk α):Prop:=∀ s n,m s = .error n → n ≠ 0
theorem xbm {α β:Type} {m:Wk α} {f:α → Wk β} (h:Nz m) (hf:∀ x,Nz (f x)):Nz (m.bind f):=fun s n e=>by
 cases hm:m s with
 | error k =>
  rw [xau hm] at e
  injection e with e
  subst e
  exact h s _ hm
 | ok p =>
  obtain ⟨x,t⟩:=p
  rw [xag hm] at e
  exact hf x t n e
theorem nz_ret {α:Type} (x:α):Nz (.ret x):=fun s n e=>by cases e
theorem nz_err {α:Type} {n:Nat} (h:n ≠ 0):Nz (.err n:Wk α):=fun s k e=>by
 injection e with e
 subst e
 exact h
theorem nz_ite {α:Type} {c:Prop} [Decidable c] {m n:Wk α} (h:Nz m) (k:Nz n):Nz (if c then m else n):=by
 split
 ·exact h
 ·exact k
theorem nz_num (n k:Nat):Nz (GetC.num n k):=fun s x e=>by
 have e:(if s.length < k then (.error 11:Except Nat (Nat × List UInt8)) else .ok (getN (s.take k),s.drop k)) = .error x:=e
 split at e
 ·injection e with e;omega
 ·cases e
theorem nz_txt (t:List UInt8) (k:Nat):Nz (GetC.txt t k):=fun s x e=>by
 have e:(if xbt s (k:Int) = 0 then (.ok ((s.drop 2).take (lenN s),s.drop (2 + lenN s)):Except Nat (List UInt8 × List UInt8)) else .error (xbt s (k:Int)).toNat) = .error x:=e
 split at e
 ·cases e
 ·rename_i h
  injection e with e
  have:xbt s (k:Int) = 0 ∨ xbt s (k:Int) = 11 ∨ xbt s (k:Int) = 13:=by
   unfold xbt
   split
   ·exact .inr (.inl rfl)
   ·split
    ·exact .inr (.inr rfl)
    ·split
     ·exact .inr (.inl rfl)
     ·exact .inl rfl
  omega
theorem nz_one (n:Nat):Nz (oneM GetC n):=xbm (nz_num _ _) fun _=>nz_ret _
theorem xgh (n:Nat):Nz (fourM GetC n):=xbm (nz_num _ _) fun _=>nz_ret _
theorem nz_small (n:Int):Nz (smallM GetC n):=xbm (nz_num _ _) fun _=>nz_ret _
theorem nz_data (x:List UInt8):Nz (dataM GetC x):=nz_txt _ _
theorem nz_flag (x:Bool):Nz (flagM GetC x):=xbm (nz_one _) fun _=>nz_ite (nz_ret _) (nz_ite (nz_ret _) (nz_err (by decide)))
theorem nz_bal (x:BalV):Nz (balM GetC x):=xbm (xgh _) fun _=>xbm (nz_one _) fun _=>nz_ret _
theorem nz_inc (x:IncV):Nz (incM GetC x):=xbm (nz_one _) fun _=>xbm (nz_one _) fun _=>xbm (nz_small _) fun _=>nz_ret _
theorem nz_op (x:OpV):Nz (opM GetC x):=xbm (nz_one _) fun _=>xbm (xgh _) fun _=>xbm (nz_one _) fun _=>xbm (nz_one _) fun _=>xbm (nz_one _) fun _=>xbm (nz_data _) fun _=>nz_ret _
theorem nz_res (x:ResV):Nz (resM GetC x):=xbm (nz_one _) fun _=>xbm (nz_txt _ _) fun _=>nz_ret _
theorem nz_ent (x:EntV):Nz (entM GetC x):=xbm (xgh _) fun _=>xbm (xgh _) fun _=>xbm (nz_op _) fun _=>nz_ret _
theorem nz_ents:∀ l:List EntV,Nz (entsM GetC l)
 | []=>nz_ret _
 | e :: l=>xbm (nz_ent e) fun _=>xbm (nz_ents l) fun _=>nz_ret _
theorem nz_log (l:List EntV):Nz (logM GetC l):=xbm (nz_small _) fun _=>nz_ite (nz_err (by decide)) (nz_ents _)
theorem nz_tl (x:EntV):Nz (tlM GetC x):=xbm (xgh _) fun _=>xbm (xgh _) fun _=>nz_ret _
theorem nz_lst (x:LastV):Nz (lstM GetC x):=xbm (xgh _) fun _=>xbm (nz_one _) fun _=>nz_ret _
theorem nz_ob (x:ObjV):Nz (obM GetC x):=xbm (nz_flag _) fun _=>xbm (nz_data _) fun _=>xbm (nz_data _) fun _=>xbm (nz_data _) fun _=>xbm (nz_data _) fun _=>nz_ret _
theorem nz_bs (x:BaseV):Nz (bsM GetC x):=xbm (nz_ob _) fun _=>xbm (nz_ob _) fun _=>xbm (nz_ob _) fun _=>xbm (nz_ob _) fun _=>xbm (nz_ob _) fun _=>xbm (nz_ob _) fun _=>xbm (nz_lst _) fun _=>xbm (nz_lst _) fun _=>xbm (nz_lst _) fun _=>nz_ret _
theorem nz_stat (x:StV):Nz (statM GetC x):=xbm (xgh _) fun _=>xbm (nz_tl _) fun _=>xbm (nz_bs _) fun _=>xbm (nz_log _) fun _=>nz_ret _
theorem nz_dif (x:DiffV):Nz (difM GetC x):=xbm (nz_small _) fun _=>xbm (xgh _) fun _=>xbm (nz_log _) fun _=>xbm (nz_stat _) fun _=>nz_ret _
theorem xgg {α:Type} (t:Bool) (z:α) {m:Wk α} (h:Nz m):Nz (onlyIf t z m):=nz_ite h (nz_ret _)
theorem nz_msg (m:MsgV):Nz (msgM GetC m) :=
 xbm (nz_one _) fun _=>xbm (nz_one _) fun _=>xbm (nz_one _) fun _=>xbm (xgh _) fun _=>xbm (xgg _ _ (nz_bal _)) fun _=>xbm (xgg _ _ (nz_bal _)) fun _=>xbm (xgg _ _ (nz_flag _)) fun _ =>
 xbm (xgg _ _ (nz_inc _)) fun _=>xbm (xgg _ _ (nz_one _)) fun _=>xbm (xgg _ _ (nz_stat _)) fun _=>xbm (xgg _ _ (nz_dif _)) fun _=>xbm (xgg _ _ (nz_ent _)) fun _ =>
 xbm (xgg _ _ (xgh _)) fun _=>xbm (xgg _ _ (nz_op _)) fun _=>xbm (xgg _ _ (nz_res _)) fun _=>nz_ret _
theorem rd_nz {b:List UInt8} {n:Nat} (h:rdMsgM b = .error n):n ≠ 0:=by
 unfold rdMsgM at h
 split at h
 ·rename_i k hk
  injection h with h
  subst h
  unfold openM at hk
  split at hk
  ·injection hk with hk;omega
  ·split at hk
   ·injection hk with hk;omega
   ·split at hk
    ·cases hk
    ·injection hk with hk;omega
 ·split at h
  ·rename_i k hk
   injection h with h
   subst h
   exact nz_msg _ _ _ hk
  ·split at h
   ·cases h
   ·injection h with h;omega
theorem dec_was {b:List UInt8} {m:MsgV} (h:decM b = (m,0)):MsgG m ∧ isMsg m = true ∧ b = sumB (msgB m):=by
 cases hr:rdMsgM b with
 | ok x =>
  have:decM b = (x,0):=by unfold decM;rw [hr]
  rw [this] at h
  injection h with h1 h2
  subst h1
  exact rd_was hr
 | error n =>
  have:decM b = (msg0,n):=by unfold decM;rw [hr]
  rw [this] at h
  injection h with h1 h2
  exact absurd h2 (rd_nz hr)
theorem dec_or (b:List UInt8):(∃ m,decM b = (m,0)) ∨ ∃ n,decM b = (msg0,n) ∧ n ≠ 0:=by
 cases hr:rdMsgM b with
 | ok x=>exact .inl ⟨x,by unfold decM;rw [hr]⟩
 | error n=>exact .inr ⟨n,by unfold decM;rw [hr],rd_nz hr⟩
end Go.Proofs.YtecilienolabfaaGreatDoor
