/- Messages as mathematics: what is put is read back, what is read was put; a message's bytes begin with no other's. Nothing of the program is in it. -/
import Derived.Test.YtecilienolabfaaGreatDoorWireMath
import Derived.Test.YtecilienolabfaaGreatDoorDiffMem
namespace Go.Proofs.YtecilienolabfaaGreatDoor
set_option linter.unusedSimpArgs false
set_option linter.unusedVariables false
set_option maxRecDepth 100000
open Go.RowKit
structure ResIn (r:ResV):Prop where
 code:r.code < 256
 data:r.data.length ≤ 9223372036854775807
structure MsgOk (m:MsgV):Prop where
 kind:m.kind < 256
 src:m.src < 256
 dst:m.dst < 256
 epoch:m.epoch < 4294967296
 b:BalOk m.b
 acc:BalOk m.acc
 inc:IncOk m.inc
 group:m.group < 256
 st:StOk m.st
 diff:DiffOk m.diff
 ent:EntOk m.ent
 n:m.n < 4294967296
 op:OpOk m.op
 r:ResIn m.r
/-! ## What is put -/
theorem put_num (n k:Nat) (s:List UInt8):PutC.num n k s = .ok (n,s ++ putB n k):=rfl
theorem put_txt (t:List UInt8) (k:Nat) (s:List UInt8):PutC.txt t k s = .ok (t,s ++ textB t):=rfl
theorem xel {n:Nat} (h:n < 256) (s:List UInt8):oneM PutC n s = .ok (n,s ++ putB n 1):=by
 unfold oneM
 rw [xag (put_num n 1 s),Nat.mod_eq_of_lt h]
 rfl
theorem xep {n:Nat} (h:n < 4294967296) (s:List UInt8):fourM PutC n s = .ok (n,s ++ putB n 4):=by
 unfold fourM
 rw [xag (put_num n 4 s),Nat.mod_eq_of_lt h]
 rfl
theorem small_put {n:Int} (h0:-9223372036854775808 ≤ n) (h1:n ≤ 9223372036854775807) (s:List UInt8):smallM PutC n s = .ok (n,s ++ putB (n % 18446744073709551616).toNat 1):=by
 unfold smallM
 rw [xag (put_num _ 1 s),sgn_of n h0 h1]
 rfl
theorem data_put (t:List UInt8) (s:List UInt8):dataM PutC t s = .ok (t,s ++ textB t):=rfl
theorem flag_put (x:Bool) (s:List UInt8):flagM PutC x s = .ok (x,s ++ flagB x):=by
 unfold flagM
 rw [xag (xel (n:=if x = true then 1 else 0) (by split <;> decide) s)]
 cases x <;> rfl
theorem bal_put {x:BalV} (h:BalOk x) (s:List UInt8):balM PutC x s = .ok (x,s ++ balB x):=by
 unfold balM
 rw [xag (xep h.n s),xag (xel h.who _),List.append_assoc]
 rfl
theorem inc_put {x:IncV} (h:IncOk x) (s:List UInt8):incM PutC x s = .ok (x,s ++ incB x):=by
 unfold incM
 rw [xag (xel h.kind s),xag (xel h.osd _),xag (small_put h.lo h.hi _)]
 simp only [List.append_assoc]
 rfl
theorem op_put {o:OpV} (h:OpOk o) (s:List UInt8):opM PutC o s = .ok (o,s ++ opB o):=by
 unfold opM
 rw [xag (xel h.client s),xag (xep h.seq _),xag (xel h.kind _),xag (xel h.obj _),xag (xel h.pos _),xag (data_put _ _)]
 simp only [List.append_assoc]
 rfl
theorem res_put {r:ResV} (h:r.code < 256) (s:List UInt8):resM PutC r s = .ok (r,s ++ resB r):=by
 unfold resM
 rw [xag (xel h s),xag (put_txt _ _ _),List.append_assoc]
 rfl
theorem ent_put {e:EntV} (h:EntOk e) (s:List UInt8):entM PutC e s = .ok (e,s ++ entB e):=by
 unfold entM
 rw [xag (xep h.since s),xag (xep h.n _),xag (op_put h.op _)]
 simp only [List.append_assoc]
 rfl
theorem ents_put:∀ (l:List EntV) (_:∀ e ∈ l,EntOk e) (s:List UInt8),entsM PutC l s = .ok (l,s ++ entsB l)
 | [],_,s=>by
  show Except.ok _ = _
  simp [entsB]
 | e :: l,h,s=>by
  show (entM PutC e).bind _ s = _
  rw [xag (ent_put (h e (by simp)) s),xag (ents_put l (fun x hx=>h x (by simp [hx])) _),List.append_assoc]
  rfl
theorem len_mod (l:List EntV) (h:l.length ≤ 6):(((l.length:Nat):Int) % 18446744073709551616).toNat = l.length:=by omega
theorem log_put {l:List EntV} (h:∀ e ∈ l,EntOk e) (hl:l.length ≤ 6) (s:List UInt8):logM PutC l s = .ok (l,s ++ logB l):=by
 unfold logM
 rw [xag (small_put (n:=(l.length:Int)) (by omega) (by omega) s),if_neg (by omega),len_mod l hl,Int.toNat_natCast,pad_self,ents_put l h,List.append_assoc]
 rfl
theorem tl_put {e:EntV} (h:EntOk e) (s:List UInt8):tlM PutC e s = .ok (posE e,s ++ tlB e):=by
 unfold tlM
 rw [xag (xep h.since s),xag (xep h.n _),List.append_assoc]
 rfl
theorem lst_put {l:LastV} (h1:l.seq < 4294967296) (h2:l.r.code < 256) (s:List UInt8):lstM PutC l s = .ok (lstN l,s ++ lstB l):=by
 unfold lstM
 rw [xag (xep h1 s),xag (xel h2 _),List.append_assoc]
 rfl
theorem ob_put (x:ObjV) (s:List UInt8):obM PutC x s = .ok (x,s ++ obB x):=by
 unfold obM
 rw [xag (flag_put _ s),xag (data_put _ _),xag (data_put _ _),xag (data_put _ _),xag (data_put _ _)]
 simp only [List.append_assoc]
 rfl
theorem bs_put {b:BaseV} (h:BaseIn b) (s:List UInt8):bsM PutC b s = .ok (bsN b,s ++ bsB b):=by
 unfold bsM
 rw [xag (ob_put _ s),xag (ob_put _ _),xag (ob_put _ _),xag (ob_put _ _),xag (ob_put _ _),xag (ob_put _ _),
  xag (lst_put (h.seq 0) (h.code 0) _),xag (lst_put (h.seq 1) (h.code 1) _),xag (lst_put (h.seq 2) (h.code 2) _),objs6_self,lasts3_self (fun i=>lstN (b.last i))]
 simp only [List.append_assoc]
 rfl
theorem stat_put {x:StV} (h:StOk x) (hl:x.log.length ≤ 6) (s:List UInt8):statM PutC x s = .ok (statN x,s ++ statB x):=by
 unfold statM
 rw [xag (xep h.started s),xag (tl_put h.tail _),xag (bs_put h.base _),xag (log_put h.log hl _)]
 simp only [List.append_assoc]
 rfl
theorem dif_put {d:DiffV} (h:DiffOk d) (hl:d.log.length ≤ 6) (hw:d.whole.log.length ≤ 6) (s:List UInt8):difM PutC d s = .ok (difN d,s ++ difB d):=by
 unfold difM
 rw [xag (small_put h.kind1 h.kind2 s),xag (xep h.fr _),xag (log_put h.log hl _),xag (stat_put h.whole hw _)]
 simp only [List.append_assoc]
 rfl
theorem if_put {α:Type} {t:Bool} {z x:α} {m:Wk α} {l:List UInt8} {s:List UInt8} (h:t = true → m s = .ok (x,s ++ l)):onlyIf t z m s = .ok (ifN t z x,s ++ ifB t l):=by
 unfold onlyIf ifN ifB
 cases t with
 | true=>simpa using h rfl
 | false=>simp [Wk.ret]
theorem msg_put {m:MsgV} (h:MsgOk m) (h1:(shapeM m.kind).st = true → m.st.log.length ≤ 6) (h2:(shapeM m.kind).dif = true → m.diff.log.length ≤ 6 ∧ m.diff.whole.log.length ≤ 6) (s:List UInt8) :
  msgM PutC m s = .ok (onlyM m,s ++ msgB m):=by
 unfold msgM
 rw [xag (xel h.kind s),xag (xel h.src _),xag (xel h.dst _),xag (xep h.epoch _),
  xag (if_put fun _=>bal_put h.b _),xag (if_put fun _=>bal_put h.acc _),xag (if_put fun _=>flag_put m.has _),xag (if_put fun _=>inc_put h.inc _),xag (if_put fun _=>xel h.group _),
  xag (if_put fun t=>stat_put h.st (h1 t) _),xag (if_put fun t=>dif_put h.diff (h2 t).1 (h2 t).2 _),xag (if_put fun _=>ent_put h.ent _),xag (if_put fun _=>xep h.n _),
  xag (if_put fun _=>op_put h.op _),xag (if_put fun _=>res_put h.r.code _)]
 simp only [List.append_assoc]
 rfl
/-! ## What is read -/
theorem getN_bd (l:List UInt8):∀ k,l.length = k → k ≤ 8 → getN l < 256 ^ k:=by
 induction l using snoc_ind with
 | h0=>intro k hk _;subst hk;simp [getN]
 | h1 l c ih =>
  intro k hk h8
  have hk':k = l.length + 1:=by rw [← hk,List.length_append];rfl
  subst hk'
  have h1:=ih l.length rfl (by omega)
  have hx:c.toNat < 256:=c.toNat_lt
  rw [getN_snoc,Nat.pow_succ]
  have:getN l * 256 % 18446744073709551616 ≤ getN l * 256:=Nat.mod_le _ _
  generalize 256 ^ l.length = z at *
  omega
theorem put_get (l:List UInt8):∀ k,l.length = k → k ≤ 8 → putB (getN l) k = l:=by
 induction l using snoc_ind with
 | h0=>intro k hk _;subst hk;rfl
 | h1 l c ih =>
  intro k hk h8
  have hk':k = l.length + 1:=by rw [← hk,List.length_append];rfl
  subst hk'
  have hb:=getN_bd l l.length rfl (by omega)
  have hx:c.toNat < 256:=c.toNat_lt
  have h7:256 ^ l.length ≤ 256 ^ 7:=Nat.pow_le_pow_right (by decide) (by omega)
  have e7:(256:Nat) ^ 7 = 72057594037927936:=by decide
  have e:getN (l ++ [c]) = getN l * 256 + c.toNat:=by
   rw [getN_snoc,Nat.mod_eq_of_lt (by omega)]
  have d:getN (l ++ [c]) / 256 = getN l:=by omega
  rw [putB_succ,d,ih l.length rfl (by omega),e]
  congr 1
  have:UInt8.ofNat (getN l * 256 + c.toNat) = c:=by
   apply UInt8.toNat_inj.1
   simp
  rw [this]
theorem get_num {s r:List UInt8} {z k n:Nat}:GetC.num z k s = .ok (n,r) ↔ k ≤ s.length ∧ n = getN (s.take k) ∧ r = s.drop k:=by
 show (if s.length < k then Except.error 11 else Except.ok (getN (s.take k),s.drop k)) = _ ↔ _
 by_cases h:s.length < k
 ·rw [if_pos h]
  constructor
  ·intro h;cases h
  ·rintro ⟨h1,_⟩;omega
 ·rw [if_neg h]
  constructor
  ·intro h
   injection h with h
   injection h with h1 h2
   exact ⟨by omega,h1.symm,h2.symm⟩
  ·rintro ⟨_,rfl,rfl⟩
   rfl
theorem num_get {z n k:Nat} (h:n < 256 ^ k) (hk:k ≤ 8) (r:List UInt8):GetC.num z k (putB n k ++ r) = .ok (n,r):=by
 refine get_num.2 ⟨by rw [List.length_append,xal];omega,?_,?_⟩
 ·rw [List.take_left' (xal n k),get_put k n hk,Nat.mod_eq_of_lt h]
 ·rw [List.drop_left' (xal n k)]
theorem num_was {s r:List UInt8} {z k n:Nat} (hk:k ≤ 8) (h:GetC.num z k s = .ok (n,r)):n < 256 ^ k ∧ s = putB n k ++ r:=by
 obtain ⟨h1,rfl,rfl⟩:=get_num.1 h
 have hl:(s.take k).length = k:=by rw [List.length_take];omega
 exact ⟨getN_bd _ k hl hk,by rw [put_get _ k hl hk,List.take_append_drop]⟩
theorem xey {n:Nat} (z:Nat) (h:n < 256) (r:List UInt8):oneM GetC z (putB n 1 ++ r) = .ok (n,r):=by
 unfold oneM
 rw [xag (num_get (k:=1) (by omega) (by decide) r),Nat.mod_eq_of_lt h]
 rfl
theorem xex {s r:List UInt8} {z n:Nat} (h:oneM GetC z s = .ok (n,r)):n < 256 ∧ s = putB n 1 ++ r:=by
 unfold oneM at h
 obtain ⟨x,t,hx,h⟩:=xaw.1 h
 obtain ⟨rfl,rfl⟩:=ret_ok.1 h
 obtain ⟨h1,h2⟩:=num_was (by decide) hx
 have e:x % 256 = x:=Nat.mod_eq_of_lt (by omega)
 rw [e]
 exact ⟨by omega,h2⟩
theorem xfe {n:Nat} (z:Nat) (h:n < 4294967296) (r:List UInt8):fourM GetC z (putB n 4 ++ r) = .ok (n,r):=by
 unfold fourM
 rw [xag (num_get (k:=4) (by omega) (by decide) r),Nat.mod_eq_of_lt h]
 rfl
theorem xfd {s r:List UInt8} {z n:Nat} (h:fourM GetC z s = .ok (n,r)):n < 4294967296 ∧ s = putB n 4 ++ r:=by
 unfold fourM at h
 obtain ⟨x,t,hx,h⟩:=xaw.1 h
 obtain ⟨rfl,rfl⟩:=ret_ok.1 h
 obtain ⟨h1,h2⟩:=num_was (by decide) hx
 have e:x % 4294967296 = x:=Nat.mod_eq_of_lt (by omega)
 rw [e]
 exact ⟨by omega,h2⟩
theorem small_get {n:Nat} (z:Int) (h:n < 256) (r:List UInt8):smallM GetC z (putB n 1 ++ r) = .ok ((n:Int),r):=by
 unfold smallM
 rw [xag (num_get (k:=1) (by omega) (by decide) r),xgu (by omega)]
 rfl
theorem small_was {s r:List UInt8} {z n:Int} (h:smallM GetC z s = .ok (n,r)):∃ k:Nat,n = (k:Int) ∧ k < 256 ∧ s = putB k 1 ++ r:=by
 unfold smallM at h
 obtain ⟨x,t,hx,h⟩:=xaw.1 h
 obtain ⟨rfl,rfl⟩:=ret_ok.1 h
 obtain ⟨h1,h2⟩:=num_was (by decide) hx
 exact ⟨x,xgu (by omega),by omega,h2⟩
theorem lenN_text (t r:List UInt8) (h:t.length < 65536):lenN (textB t ++ r) = t.length:=by
 unfold lenN textB
 rw [List.append_assoc,List.take_left' (xal _ 2),get_put 2 _ (by decide),Nat.mod_eq_of_lt (by omega)]
theorem xdg (t:List UInt8):(textB t).length = t.length + 2:=by
 unfold textB
 rw [List.length_append,xal]
 omega
theorem txt_get {t:List UInt8} {most:Nat} (z:List UInt8) (h:t.length ≤ most) (hm:most < 65536) (r:List UInt8):GetC.txt z most (textB t ++ r) = .ok (t,r):=by
 have hl:=lenN_text t r (by omega)
 have hL:=xdg t
 have he:xbt (textB t ++ r) (most:Int) = 0:=by
  unfold xbt
  rw [hl,List.length_append,hL,if_neg (by omega),if_neg (by omega),if_neg (by omega)]
 show (if xbt (textB t ++ r) (most:Int) = 0 then _ else _) = _
 rw [if_pos he,hl]
 have e1:(textB t ++ r).drop 2 = t ++ r:=by
  unfold textB
  rw [List.append_assoc,List.drop_left' (xal _ 2)]
 rw [← List.drop_drop,e1,List.take_left' rfl,List.drop_left' rfl]
theorem txt_was {s r t z:List UInt8} {most:Nat} (h:GetC.txt z most s = .ok (t,r)):t.length ≤ most ∧ s = textB t ++ r:=by
 have h:(if xbt s (most:Int) = 0 then Except.ok ((s.drop 2).take (lenN s),s.drop (2 + lenN s)) else Except.error (xbt s (most:Int)).toNat) = Except.ok (t,r):=h
 by_cases he:xbt s (most:Int) = 0
 ·rw [if_pos he] at h
  injection h with h
  injection h with h1 h2
  unfold xbt at he
  have a1:¬ s.length < 2:=fun q=>by rw [if_pos q] at he;cases he
  rw [if_neg a1] at he
  have a2:¬ (most:Int) < (lenN s:Int):=fun q=>by rw [if_pos q] at he;cases he
  rw [if_neg a2] at he
  have a3:¬ s.length < lenN s + 2:=fun q=>by rw [if_pos q] at he;cases he
  have hl:t.length = lenN s:=by rw [← h1,List.length_take,List.length_drop];omega
  refine ⟨by omega,?_⟩
  unfold textB
  have e2:(s.take 2).length = 2:=by rw [List.length_take];omega
  rw [hl,← h1,← h2]
  have e3:putB (lenN s) 2 = s.take 2:=put_get _ 2 e2 (by decide)
  rw [e3,List.append_assoc,← List.drop_drop,List.take_append_drop,List.take_append_drop]
 ·rw [if_neg he] at h
  cases h
theorem data_get {t:List UInt8} (z:List UInt8) (h:t.length ≤ 16) (r:List UInt8):dataM GetC z (textB t ++ r) = .ok (t,r):=txt_get z h (by decide) r
theorem data_was {s r t z:List UInt8} (h:dataM GetC z s = .ok (t,r)):t.length ≤ 16 ∧ s = textB t ++ r:=txt_was h
theorem flag_get (x z:Bool) (r:List UInt8):flagM GetC z (flagB x ++ r) = .ok (x,r):=by
 unfold flagM flagB
 rw [xag (xey _ (by split <;> decide) r)]
 cases x <;> rfl
theorem flag_was {s r:List UInt8} {x z:Bool} (h:flagM GetC z s = .ok (x,r)):s = flagB x ++ r:=by
 unfold flagM at h
 obtain ⟨n,t,hx,h⟩:=xaw.1 h
 obtain ⟨h1,h2⟩:=xex hx
 by_cases e0:n = 0
 ·rw [if_pos e0] at h
  obtain ⟨rfl,rfl⟩:=ret_ok.1 h
  rw [h2,e0]
  rfl
 ·rw [if_neg e0] at h
  by_cases e1:n = 1
  ·rw [if_pos e1] at h
   obtain ⟨rfl,rfl⟩:=ret_ok.1 h
   rw [h2,e1]
   rfl
  ·rw [if_neg e1] at h
   cases h
theorem bal_get {x:BalV} (z:BalV) (h:BalOk x) (r:List UInt8):balM GetC z (balB x ++ r) = .ok (x,r):=by
 unfold balM balB
 rw [List.append_assoc,xag (xfe _ h.n _),xag (xey _ h.who _)]
 rfl
theorem bal_was {s r:List UInt8} {x z:BalV} (h:balM GetC z s = .ok (x,r)):BalOk x ∧ s = balB x ++ r:=by
 unfold balM at h
 obtain ⟨n,t,hx,h⟩:=xaw.1 h
 obtain ⟨k,u,hy,h⟩:=xaw.1 h
 obtain ⟨rfl,rfl⟩:=ret_ok.1 h
 obtain ⟨a1,rfl⟩:=xfd hx
 obtain ⟨a2,rfl⟩:=xex hy
 exact ⟨⟨a1,a2⟩,by unfold balB;rw [List.append_assoc]⟩
structure IncG (x:IncV):Prop where
 kind:x.kind < 256
 osd:x.osd < 256
 n:∃ k:Nat,x.n = (k:Int) ∧ k < 256
theorem nat_mod {k:Nat} (h:k < 256):(((k:Nat):Int) % 18446744073709551616).toNat = k:=by omega
theorem inc_get {x:IncV} (z:IncV) (h:IncG x) (r:List UInt8):incM GetC z (incB x ++ r) = .ok (x,r):=by
 obtain ⟨k,hk,hk'⟩:=h.n
 unfold incM incB
 rw [hk,nat_mod hk',List.append_assoc,List.append_assoc,xag (xey _ h.kind _),xag (xey _ h.osd _),xag (small_get _ hk' _),← hk]
 rfl
theorem inc_was {s r:List UInt8} {x z:IncV} (h:incM GetC z s = .ok (x,r)):IncG x ∧ s = incB x ++ r:=by
 unfold incM at h
 obtain ⟨n,t,hx,h⟩:=xaw.1 h
 obtain ⟨k,u,hy,h⟩:=xaw.1 h
 obtain ⟨q,v,hq,h⟩:=xaw.1 h
 obtain ⟨rfl,rfl⟩:=ret_ok.1 h
 obtain ⟨a1,rfl⟩:=xex hx
 obtain ⟨a2,rfl⟩:=xex hy
 obtain ⟨j,rfl,a3,rfl⟩:=small_was hq
 refine ⟨⟨a1,a2,j,rfl,a3⟩,?_⟩
 unfold incB
 show _ = (putB n 1 ++ (putB k 1 ++ putB (((j:Nat):Int) % 18446744073709551616).toNat 1)) ++ v
 rw [nat_mod a3,List.append_assoc,List.append_assoc]
structure OpG (o:OpV):Prop where
 ok:OpOk o
 len:o.data.length ≤ 16
theorem op_get {o:OpV} (z:OpV) (h:OpG o) (r:List UInt8):opM GetC z (opB o ++ r) = .ok (o,r):=by
 unfold opM opB
 simp only [List.append_assoc]
 rw [xag (xey _ h.ok.client _),xag (xfe _ h.ok.seq _),xag (xey _ h.ok.kind _),xag (xey _ h.ok.obj _),xag (xey _ h.ok.pos _),xag (data_get _ h.len _)]
 rfl
theorem op_was {s r:List UInt8} {o z:OpV} (h:opM GetC z s = .ok (o,r)):OpG o ∧ s = opB o ++ r:=by
 unfold opM at h
 obtain ⟨x1,t1,h1,h⟩:=xaw.1 h
 obtain ⟨x2,t2,h2,h⟩:=xaw.1 h
 obtain ⟨x3,t3,h3,h⟩:=xaw.1 h
 obtain ⟨x4,t4,h4,h⟩:=xaw.1 h
 obtain ⟨x5,t5,h5,h⟩:=xaw.1 h
 obtain ⟨x6,t6,h6,h⟩:=xaw.1 h
 obtain ⟨rfl,rfl⟩:=ret_ok.1 h
 obtain ⟨a1,rfl⟩:=xex h1
 obtain ⟨a2,rfl⟩:=xfd h2
 obtain ⟨a3,rfl⟩:=xex h3
 obtain ⟨a4,rfl⟩:=xex h4
 obtain ⟨a5,rfl⟩:=xex h5
 obtain ⟨a6,rfl⟩:=data_was h6
 exact ⟨⟨⟨a1,a2,a3,a4,a5,by show x6.length ≤ _;omega⟩,a6⟩,by unfold opB;simp only [List.append_assoc]⟩
structure ResG (x:ResV):Prop where
 code:x.code < 256
 len:x.data.length ≤ 80
theorem res_get {x:ResV} (z:ResV) (h:ResG x) (r:List UInt8):resM GetC z (resB x ++ r) = .ok (x,r):=by
 unfold resM resB
 rw [List.append_assoc,xag (xey _ h.code _),xag (txt_get _ h.len (by decide) _)]
 rfl
theorem res_was {s r:List UInt8} {x z:ResV} (h:resM GetC z s = .ok (x,r)):ResG x ∧ s = resB x ++ r:=by
 unfold resM at h
 obtain ⟨x1,t1,h1,h⟩:=xaw.1 h
 obtain ⟨x2,t2,h2,h⟩:=xaw.1 h
 obtain ⟨rfl,rfl⟩:=ret_ok.1 h
 obtain ⟨a1,rfl⟩:=xex h1
 obtain ⟨a2,rfl⟩:=txt_was h2
 exact ⟨⟨a1,a2⟩,by unfold resB;simp only [List.append_assoc]⟩
structure EntG (e:EntV):Prop where
 since:e.since < 4294967296
 n:e.n < 4294967296
 op:OpG e.op
theorem EntG.ok {e:EntV} (h:EntG e):EntOk e:=⟨h.since,h.n,h.op.ok⟩
theorem ent_get {e:EntV} (z:EntV) (h:EntG e) (r:List UInt8):entM GetC z (entB e ++ r) = .ok (e,r):=by
 unfold entM entB
 simp only [List.append_assoc]
 rw [xag (xfe _ h.since _),xag (xfe _ h.n _),xag (op_get _ h.op _)]
 rfl
theorem ent_was {s r:List UInt8} {e z:EntV} (h:entM GetC z s = .ok (e,r)):EntG e ∧ s = entB e ++ r:=by
 unfold entM at h
 obtain ⟨x1,t1,h1,h⟩:=xaw.1 h
 obtain ⟨x2,t2,h2,h⟩:=xaw.1 h
 obtain ⟨x3,t3,h3,h⟩:=xaw.1 h
 obtain ⟨rfl,rfl⟩:=ret_ok.1 h
 obtain ⟨a1,rfl⟩:=xfd h1
 obtain ⟨a2,rfl⟩:=xfd h2
 obtain ⟨a3,rfl⟩:=op_was h3
 exact ⟨⟨a1,a2,a3⟩,by unfold entB;simp only [List.append_assoc]⟩
theorem ents_get:∀ (l z:List EntV) (_:∀ e ∈ l,EntG e) (_:z.length = l.length) (r:List UInt8),entsM GetC z (entsB l ++ r) = .ok (l,r)
 | [],[],_,_,r=>rfl
 | e :: l,y :: z,h,hl,r=>by
  show (entM GetC y).bind _ (entB e ++ entsB l ++ r) = _
  rw [List.append_assoc,xag (ent_get _ (h e (by simp)) _),xag (ents_get l z (fun x hx=>h x (by simp [hx])) (by simpa using hl) r)]
  rfl
 | [],_ :: _,_,hl,_=>by cases hl
 | _ :: _,[],_,hl,_=>by cases hl
theorem ents_was:∀ (z l:List EntV) (s r:List UInt8),entsM GetC z s = .ok (l,r) → l.length = z.length ∧ (∀ e ∈ l,EntG e) ∧ s = entsB l ++ r
 | [],l,s,r,h=>by
  obtain ⟨rfl,rfl⟩:=ret_ok.1 h
  exact ⟨rfl,(fun _ h=>by cases h),rfl⟩
 | y :: z,l,s,r,h=>by
  have h:(entM GetC y).bind _ s = _:=h
  obtain ⟨x1,t1,h1,h⟩:=xaw.1 h
  obtain ⟨x2,t2,h2,h⟩:=xaw.1 h
  obtain ⟨rfl,rfl⟩:=ret_ok.1 h
  obtain ⟨a1,rfl⟩:=ent_was h1
  obtain ⟨b1,b2,rfl⟩:=ents_was z x2 _ _ h2
  refine ⟨by simp [b1],fun e he=>?_,by show _ = entB x1 ++ entsB x2 ++ t2;rw [List.append_assoc]⟩
  rcases List.mem_cons.1 he with rfl | he
  ·exact a1
  ·exact b2 e he
theorem pad_length (n:Nat) (l:List EntV):(padE n l).length = n:=by
 unfold padE
 rw [List.length_append,List.length_take,List.length_replicate]
 omega
theorem log_get {l:List EntV} (z:List EntV) (h:∀ e ∈ l,EntG e) (hl:l.length ≤ 6) (r:List UInt8):logM GetC z (logB l ++ r) = .ok (l,r):=by
 unfold logM logB
 rw [List.append_assoc,xag (small_get _ (by omega) _),if_neg (by omega),Int.toNat_natCast,ents_get l _ h (pad_length _ _) r]
theorem log_was {s r:List UInt8} {l z:List EntV} (h:logM GetC z s = .ok (l,r)):l.length ≤ 6 ∧ (∀ e ∈ l,EntG e) ∧ s = logB l ++ r:=by
 unfold logM at h
 obtain ⟨x1,t1,h1,h2⟩:=xaw.1 h
 clear h
 obtain ⟨k,rfl,a1,rfl⟩:=small_was h1
 by_cases hk:6 < ((k:Nat):Int)
 ·rw [if_pos hk] at h2
  cases h2
 ·rw [if_neg hk,Int.toNat_natCast] at h2
  obtain ⟨b1,b2,rfl⟩:=ents_was _ _ _ _ h2
  rw [pad_length] at b1
  subst b1
  exact ⟨by omega,b2,by unfold logB;rw [List.append_assoc]⟩
theorem tl_get {e:EntV} (z:EntV) (h1:e.since < 4294967296) (h2:e.n < 4294967296) (r:List UInt8):tlM GetC z (tlB e ++ r) = .ok (posE e,r):=by
 unfold tlM tlB
 rw [List.append_assoc,xag (xfe _ h1 _),xag (xfe _ h2 _)]
 rfl
theorem tl_was {s r:List UInt8} {e z:EntV} (h:tlM GetC z s = .ok (e,r)):e.since < 4294967296 ∧ e.n < 4294967296 ∧ posE e = e ∧ s = tlB e ++ r:=by
 unfold tlM at h
 obtain ⟨x1,t1,h1,h⟩:=xaw.1 h
 obtain ⟨x2,t2,h2,h⟩:=xaw.1 h
 obtain ⟨rfl,rfl⟩:=ret_ok.1 h
 obtain ⟨a1,rfl⟩:=xfd h1
 obtain ⟨a2,rfl⟩:=xfd h2
 exact ⟨a1,a2,rfl,by unfold tlB;simp only [List.append_assoc]⟩
theorem lst_get {l:LastV} (z:LastV) (h1:l.seq < 4294967296) (h2:l.r.code < 256) (r:List UInt8):lstM GetC z (lstB l ++ r) = .ok (lstN l,r):=by
 unfold lstM lstB
 rw [List.append_assoc,xag (xfe _ h1 _),xag (xey _ h2 _)]
 rfl
theorem lst_was {s r:List UInt8} {l z:LastV} (h:lstM GetC z s = .ok (l,r)):l.seq < 4294967296 ∧ l.r.code < 256 ∧ lstN l = l ∧ s = lstB l ++ r:=by
 unfold lstM at h
 obtain ⟨x1,t1,h1,h⟩:=xaw.1 h
 obtain ⟨x2,t2,h2,h⟩:=xaw.1 h
 obtain ⟨rfl,rfl⟩:=ret_ok.1 h
 obtain ⟨a1,rfl⟩:=xfd h1
 obtain ⟨a2,rfl⟩:=xex h2
 exact ⟨a1,a2,rfl,by unfold lstB;simp only [List.append_assoc]⟩
structure ObG (x:ObjV):Prop where
 data:x.data.length ≤ 16
 a0:x.a0.length ≤ 16
 a1:x.a1.length ≤ 16
 a2:x.a2.length ≤ 16
theorem ob_get {x:ObjV} (z:ObjV) (h:ObG x) (r:List UInt8):obM GetC z (obB x ++ r) = .ok (x,r):=by
 unfold obM obB
 simp only [List.append_assoc]
 rw [xag (flag_get _ _ _),xag (data_get _ h.data _),xag (data_get _ h.a0 _),xag (data_get _ h.a1 _),xag (data_get _ h.a2 _)]
 rfl
theorem ob_was {s r:List UInt8} {x z:ObjV} (h:obM GetC z s = .ok (x,r)):ObG x ∧ s = obB x ++ r:=by
 unfold obM at h
 obtain ⟨x1,t1,h1,h⟩:=xaw.1 h
 obtain ⟨x2,t2,h2,h⟩:=xaw.1 h
 obtain ⟨x3,t3,h3,h⟩:=xaw.1 h
 obtain ⟨x4,t4,h4,h⟩:=xaw.1 h
 obtain ⟨x5,t5,h5,h⟩:=xaw.1 h
 obtain ⟨rfl,rfl⟩:=ret_ok.1 h
 obtain rfl:=flag_was h1
 obtain ⟨a2,rfl⟩:=data_was h2
 obtain ⟨a3,rfl⟩:=data_was h3
 obtain ⟨a4,rfl⟩:=data_was h4
 obtain ⟨a5,rfl⟩:=data_was h5
 exact ⟨⟨a2,a3,a4,a5⟩,by unfold obB;simp only [List.append_assoc]⟩
structure BsG (b:BaseV):Prop where
 obj:∀ i,ObG (b.obj i)
 seq:∀ i,(b.last i).seq < 4294967296
 code:∀ i,(b.last i).r.code < 256
 data:∀ i,lstN (b.last i) = b.last i
theorem bsG_self {b:BaseV} (h:BsG b):bsN b = b:=by
 unfold bsN
 rw [show (fun i=>lstN (b.last i)) = b.last from funext h.data]
theorem bs_get {b:BaseV} (z:BaseV) (h:BsG b) (r:List UInt8):bsM GetC z (bsB b ++ r) = .ok (b,r):=by
 unfold bsM bsB
 simp only [List.append_assoc]
 rw [xag (ob_get _ (h.obj 0) _),xag (ob_get _ (h.obj 1) _),xag (ob_get _ (h.obj 2) _),xag (ob_get _ (h.obj 3) _),xag (ob_get _ (h.obj 4) _),xag (ob_get _ (h.obj 5) _),
  xag (lst_get _ (h.seq 0) (h.code 0) _),xag (lst_get _ (h.seq 1) (h.code 1) _),xag (lst_get _ (h.seq 2) (h.code 2) _),objs6_self,h.data 0,h.data 1,h.data 2,lasts3_self b.last]
 rfl
theorem all6 {p:ObjV → Prop} {a b c d e f:ObjV} (h0:p a) (h1:p b) (h2:p c) (h3:p d) (h4:p e) (h5:p f):∀ i,p (objs6 a b c d e f i)
 | 0=>h0
 | 1=>h1
 | 2=>h2
 | 3=>h3
 | 4=>h4
 | 5=>h5
theorem all3 {p:LastV → Prop} {a b c:LastV} (h0:p a) (h1:p b) (h2:p c):∀ i,p (lasts3 a b c i)
 | 0=>h0
 | 1=>h1
 | 2=>h2
theorem bs_was {s r:List UInt8} {b z:BaseV} (h:bsM GetC z s = .ok (b,r)):BsG b ∧ s = bsB b ++ r:=by
 unfold bsM at h
 obtain ⟨x1,t1,h1,h⟩:=xaw.1 h
 obtain ⟨x2,t2,h2,h⟩:=xaw.1 h
 obtain ⟨x3,t3,h3,h⟩:=xaw.1 h
 obtain ⟨x4,t4,h4,h⟩:=xaw.1 h
 obtain ⟨x5,t5,h5,h⟩:=xaw.1 h
 obtain ⟨x6,t6,h6,h⟩:=xaw.1 h
 obtain ⟨y1,u1,g1,h⟩:=xaw.1 h
 obtain ⟨y2,u2,g2,h⟩:=xaw.1 h
 obtain ⟨y3,u3,g3,h⟩:=xaw.1 h
 obtain ⟨rfl,rfl⟩:=ret_ok.1 h
 obtain ⟨a1,rfl⟩:=ob_was h1
 obtain ⟨a2,rfl⟩:=ob_was h2
 obtain ⟨a3,rfl⟩:=ob_was h3
 obtain ⟨a4,rfl⟩:=ob_was h4
 obtain ⟨a5,rfl⟩:=ob_was h5
 obtain ⟨a6,rfl⟩:=ob_was h6
 obtain ⟨b1,c1,d1,rfl⟩:=lst_was g1
 obtain ⟨b2,c2,d2,rfl⟩:=lst_was g2
 obtain ⟨b3,c3,d3,rfl⟩:=lst_was g3
 refine ⟨⟨all6 a1 a2 a3 a4 a5 a6,all3 (p:=fun l=>l.seq < 4294967296) b1 b2 b3,all3 (p:=fun l=>l.r.code < 256) c1 c2 c3,all3 (p:=fun l=>lstN l = l) d1 d2 d3⟩,?_⟩
 show _ = (obB x1 ++ (obB x2 ++ (obB x3 ++ (obB x4 ++ (obB x5 ++ (obB x6 ++ (lstB y1 ++ (lstB y2 ++ lstB y3)))))))) ++ u3
 simp only [List.append_assoc]
structure StG (s:StV):Prop where
 started:s.started < 4294967296
 since:s.tail.since < 4294967296
 n:s.tail.n < 4294967296
 pos:posE s.tail = s.tail
 base:BsG s.base
 len:s.log.length ≤ 6
 log:∀ e ∈ s.log,EntG e
theorem stG_self {s:StV} (h:StG s):statN s = s:=by
 unfold statN
 rw [bsG_self h.base,h.pos]
theorem BsG.in' {b:BaseV} (h:BsG b):BaseIn b:=by
 have e:∀ i,(b.last i).r.data = []:=fun i=>by rw [← h.data i];rfl
 exact ⟨h.seq,h.code,fun i=>by rw [e i];decide,fun i=>by have:=(h.obj i).data;omega,fun i=>by have:=(h.obj i).a0;omega,fun i=>by have:=(h.obj i).a1;omega,fun i=>by have:=(h.obj i).a2;omega⟩
theorem StG.ok {s:StV} (h:StG s):StOk s:=by
 refine ⟨h.started,h.base.in',⟨h.since,h.n,?_⟩,fun e he=>(h.log e he).ok,by have:=h.len;omega⟩
 have:s.tail.op = op0:=by rw [← h.pos];rfl
 rw [this]
 exact op0_ok
theorem stat_get {x:StV} (z:StV) (h:StG x) (r:List UInt8):statM GetC z (statB x ++ r) = .ok (x,r):=by
 unfold statM statB
 simp only [List.append_assoc]
 rw [xag (xfe _ h.started _),xag (tl_get _ h.since h.n _),xag (bs_get _ h.base _),xag (log_get _ h.log h.len _),h.pos]
 rfl
theorem stat_was {s r:List UInt8} {x z:StV} (h:statM GetC z s = .ok (x,r)):StG x ∧ s = statB x ++ r:=by
 unfold statM at h
 obtain ⟨x1,t1,h1,h⟩:=xaw.1 h
 obtain ⟨x2,t2,h2,h⟩:=xaw.1 h
 obtain ⟨x3,t3,h3,h⟩:=xaw.1 h
 obtain ⟨x4,t4,h4,h⟩:=xaw.1 h
 obtain ⟨rfl,rfl⟩:=ret_ok.1 h
 obtain ⟨a1,rfl⟩:=xfd h1
 obtain ⟨a2,b2,c2,rfl⟩:=tl_was h2
 obtain ⟨a3,rfl⟩:=bs_was h3
 obtain ⟨a4,b4,rfl⟩:=log_was h4
 exact ⟨⟨a1,a2,b2,c2,a3,a4,b4⟩,by unfold statB;simp only [List.append_assoc]⟩
structure DifG (d:DiffV):Prop where
 kind:∃ k:Nat,d.kind = (k:Int) ∧ k < 256
 fr:d.fr < 4294967296
 len:d.log.length ≤ 6
 log:∀ e ∈ d.log,EntG e
 whole:StG d.whole
theorem difG_self {d:DiffV} (h:DifG d):difN d = d:=by
 unfold difN
 rw [stG_self h.whole]
theorem DifG.ok {d:DiffV} (h:DifG d):DiffOk d:=by
 obtain ⟨k,hk,h'⟩:=h.kind
 exact ⟨by rw [hk];omega,by rw [hk];omega,h.fr,fun e he=>(h.log e he).ok,by have:=h.len;omega,h.whole.ok⟩
theorem dif_get {d:DiffV} (z:DiffV) (h:DifG d) (r:List UInt8):difM GetC z (difB d ++ r) = .ok (d,r):=by
 obtain ⟨k,hk,hk'⟩:=h.kind
 unfold difM difB
 simp only [List.append_assoc]
 rw [hk,nat_mod hk',xag (small_get _ hk' _),xag (xfe _ h.fr _),xag (log_get _ h.log h.len _),xag (stat_get _ h.whole _),← hk]
 rfl
theorem dif_was {s r:List UInt8} {d z:DiffV} (h:difM GetC z s = .ok (d,r)):DifG d ∧ s = difB d ++ r:=by
 unfold difM at h
 obtain ⟨x1,t1,h1,h⟩:=xaw.1 h
 obtain ⟨x2,t2,h2,h⟩:=xaw.1 h
 obtain ⟨x3,t3,h3,h⟩:=xaw.1 h
 obtain ⟨x4,t4,h4,h⟩:=xaw.1 h
 obtain ⟨rfl,rfl⟩:=ret_ok.1 h
 obtain ⟨k,rfl,a1,rfl⟩:=small_was h1
 obtain ⟨a2,rfl⟩:=xfd h2
 obtain ⟨a3,b3,rfl⟩:=log_was h3
 obtain ⟨a4,rfl⟩:=stat_was h4
 refine ⟨⟨⟨k,rfl,a1⟩,a2,a3,b3,a4⟩,?_⟩
 show _ = (putB (((k:Nat):Int) % 18446744073709551616).toNat 1 ++ (putB x2 4 ++ (logB x3 ++ statB x4))) ++ t4
 rw [nat_mod a1]
 simp only [List.append_assoc]
theorem if_get {α:Type} {t:Bool} {z x:α} {m:Wk α} {l r:List UInt8} (h:t = true → m (l ++ r) = .ok (x,r)) (hz:ifN t z x = x):onlyIf t z m (ifB t l ++ r) = .ok (x,r):=by
 unfold onlyIf ifB
 unfold ifN at hz
 cases t with
 | true=>simpa using h rfl
 | false =>
  have:z = x:=by simpa using hz
  simp [Wk.ret,this]
theorem if_was {α:Type} {t:Bool} {z x:α} {m:Wk α} {s r:List UInt8} {G:α → Prop} {B:α → List UInt8} (h:onlyIf t z m s = .ok (x,r)) (hm:m s = .ok (x,r) → G x ∧ s = B x ++ r):(t = true → G x) ∧ ifN t z x = x ∧ s = ifB t (B x) ++ r:=by
 unfold onlyIf at h
 unfold ifN ifB
 cases t with
 | true =>
  have:=hm (by simpa using h)
  exact ⟨fun _=>this.1,by simp,by simpa using this.2⟩
 | false =>
  have h:Wk.ret z s = .ok (x,r):=by simpa using h
  obtain ⟨rfl,rfl⟩:=ret_ok.1 h
  exact ⟨(fun h=>by cases h),by simp,by simp⟩
structure MsgG (m:MsgV):Prop where
 kind:m.kind < 256
 src:m.src < 256
 dst:m.dst < 256
 epoch:m.epoch < 4294967296
 b:BalOk m.b
 acc:BalOk m.acc
 inc:(shapeM m.kind).inc = true → IncG m.inc
 group:m.group < 256
 st:(shapeM m.kind).st = true → StG m.st
 diff:(shapeM m.kind).dif = true → DifG m.diff
 ent:(shapeM m.kind).ent = true → EntG m.ent
 n:m.n < 4294967296
 op:decide ((shapeM m.kind).op ≠ 0) = true → OpG m.op
 r:(shapeM m.kind).res = true → ResG m.r
 only:onlyM m = m
theorem ifN_of {α:Type} {t:Bool} {z x:α} {p:α → Prop} (h:ifN t z x = x) (h1:t = true → p x) (h0:p z):p x:=by
 unfold ifN at h
 cases t with
 | true=>exact h1 rfl
 | false =>
  have h:z = x:=by simpa using h
  rw [← h]
  exact h0
theorem ifN_in {α:Type} {t:Bool} {z x y:α} (h:ifN t z y = x) (hy:t = true → y = x):ifN t z x = x:=by
 unfold ifN at *
 cases t with
 | true=>simp
 | false=>simpa using h
theorem msg_get {m:MsgV} (z:MsgV) (h:MsgG m) (r:List UInt8):msgM GetC z (msgB m ++ r) = .ok (m,r):=by
 have e:=h.only
 have q5:ifN (decide ((shapeM m.kind).bal ≠ 0)) bal0 m.b = m.b:=congrArg MsgV.b e
 have q6:ifN (shapeM m.kind).pro bal0 m.acc = m.acc:=congrArg MsgV.acc e
 have q7:ifN (shapeM m.kind).pro false m.has = m.has:=congrArg MsgV.has e
 have q8:ifN (shapeM m.kind).inc inc0 m.inc = m.inc:=congrArg MsgV.inc e
 have q9:ifN (shapeM m.kind).grp 0 m.group = m.group:=congrArg MsgV.group e
 have q10:ifN (shapeM m.kind).st st0 m.st = m.st:=ifN_in (congrArg MsgV.st e) fun t=>stG_self (h.st t)
 have q11:ifN (shapeM m.kind).dif diff0 m.diff = m.diff:=ifN_in (congrArg MsgV.diff e) fun t=>difG_self (h.diff t)
 have q12:ifN (shapeM m.kind).ent ent0 m.ent = m.ent:=congrArg MsgV.ent e
 have q13:ifN (decide (0 < (shapeM m.kind).mostN)) 0 m.n = m.n:=congrArg MsgV.n e
 have q14:ifN (decide ((shapeM m.kind).op ≠ 0)) op0 m.op = m.op:=congrArg MsgV.op e
 have q15:ifN (shapeM m.kind).res res0 m.r = m.r:=congrArg MsgV.r e
 unfold msgM msgB
 simp only [List.append_assoc]
 rw [xag (xey _ h.kind _),xag (xey _ h.src _),xag (xey _ h.dst _),xag (xfe _ h.epoch _),
  xag (if_get (fun _=>bal_get _ h.b _) q5),xag (if_get (fun _=>bal_get _ h.acc _) q6),xag (if_get (fun _=>flag_get _ _ _) q7),xag (if_get (fun t=>inc_get _ (h.inc t) _) q8),
  xag (if_get (fun _=>xey _ h.group _) q9),xag (if_get (fun t=>stat_get _ (h.st t) _) q10),xag (if_get (fun t=>dif_get _ (h.diff t) _) q11),xag (if_get (fun t=>ent_get _ (h.ent t) _) q12),
  xag (if_get (fun _=>xfe _ h.n _) q13),xag (if_get (fun t=>op_get _ (h.op t) _) q14),xag (if_get (fun t=>res_get _ (h.r t) _) q15)]
 rfl
theorem msg_was {s r:List UInt8} {m z:MsgV} (h:msgM GetC z s = .ok (m,r)):MsgG m ∧ s = msgB m ++ r:=by
 unfold msgM at h
 obtain ⟨x1,t1,h1,h⟩:=xaw.1 h
 obtain ⟨x2,t2,h2,h⟩:=xaw.1 h
 obtain ⟨x3,t3,h3,h⟩:=xaw.1 h
 obtain ⟨x4,t4,h4,h⟩:=xaw.1 h
 obtain ⟨x5,t5,h5,h⟩:=xaw.1 h
 obtain ⟨x6,t6,h6,h⟩:=xaw.1 h
 obtain ⟨x7,t7,h7,h⟩:=xaw.1 h
 obtain ⟨x8,t8,h8,h⟩:=xaw.1 h
 obtain ⟨x9,t9,h9,h⟩:=xaw.1 h
 obtain ⟨x10,t10,h10,h⟩:=xaw.1 h
 obtain ⟨x11,t11,h11,h⟩:=xaw.1 h
 obtain ⟨x12,t12,h12,h⟩:=xaw.1 h
 obtain ⟨x13,t13,h13,h⟩:=xaw.1 h
 obtain ⟨x14,t14,h14,h⟩:=xaw.1 h
 obtain ⟨x15,t15,h15,h⟩:=xaw.1 h
 obtain ⟨rfl,rfl⟩:=ret_ok.1 h
 obtain ⟨a1,rfl⟩:=xex h1
 obtain ⟨a2,rfl⟩:=xex h2
 obtain ⟨a3,rfl⟩:=xex h3
 obtain ⟨a4,rfl⟩:=xfd h4
 obtain ⟨a5,q5,rfl⟩:=if_was h5 bal_was
 obtain ⟨a6,q6,rfl⟩:=if_was h6 bal_was
 obtain ⟨a7,q7,rfl⟩:=if_was (G:=fun _=>True) h7 (fun h=>⟨trivial,flag_was h⟩)
 obtain ⟨a8,q8,rfl⟩:=if_was h8 inc_was
 obtain ⟨a9,q9,rfl⟩:=if_was (G:=fun n=>n < 256) (B:=fun n=>putB n 1) h9 xex
 obtain ⟨a10,q10,rfl⟩:=if_was h10 stat_was
 obtain ⟨a11,q11,rfl⟩:=if_was h11 dif_was
 obtain ⟨a12,q12,rfl⟩:=if_was h12 ent_was
 obtain ⟨a13,q13,rfl⟩:=if_was (G:=fun n=>n < 4294967296) (B:=fun n=>putB n 4) h13 xfd
 obtain ⟨a14,q14,rfl⟩:=if_was h14 op_was
 obtain ⟨a15,q15,rfl⟩:=if_was h15 res_was
 refine ⟨⟨a1,a2,a3,a4,ifN_of q5 a5 xhn,ifN_of q6 a6 xhn,a8,ifN_of (p:=fun n=>n < 256) q9 a9 (by decide),a10,a11,a12,ifN_of (p:=fun n=>n < 4294967296) q13 a13 (by decide),a14,a15,?_⟩,?_⟩
 ·have e10:ifN (shapeM x1).st st0 (statN x10) = x10:=by
   cases ht:(shapeM x1).st with
   | true=>rw [ht] at a10;show statN x10 = x10;exact stG_self (a10 rfl)
   | false=>rw [ht] at q10;exact q10
  have e11:ifN (shapeM x1).dif diff0 (difN x11) = x11:=by
   cases ht:(shapeM x1).dif with
   | true=>rw [ht] at a11;show difN x11 = x11;exact difG_self (a11 rfl)
   | false=>rw [ht] at q11;exact q11
  unfold onlyM
  simp only [q5,q6,q7,q8,q9,e10,e11,q12,q13,q14,q15]
 ·unfold msgB
  simp only [List.append_assoc]
end Go.Proofs.YtecilienolabfaaGreatDoor
