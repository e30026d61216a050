/- A message that fits its shape has its parts in form; what is a message is in its form. Nothing of the program is in it. -/
import Derived.Test.YtecilienolabfaaGreatDoorWalkMsg
namespace Go.Proofs.YtecilienolabfaaGreatDoor
set_option linter.unusedSimpArgs false
set_option linter.unusedVariables false
set_option maxRecDepth 100000
open Go.RowKit
theorem fits_put (l:List EntV) (h:l.length ≤ 1000):Fits PutC l:=fun s n t hr=>by
 rw [small_put (by omega) (by omega)] at hr
 injection hr with hr
 injection hr with h1 h2
 omega
theorem isOp_len {o:OpV} (h:isOpM o = true):o.data.length ≤ 16:=((isOp_is o).1 h).2.2.2.2.2.2.1
theorem writes_len {o:OpV} (h:xdz o = true):o.data.length ≤ 16:=isOp_len ((writes_is o).1 h).1
theorem chain_G:∀ (l:List EntV) (p:EntV),chainM p l = true → (∀ e ∈ l,EntOk e) → ∀ e ∈ l,EntG e
 | [],_,_,_=>fun _ h=>by cases h
 | x :: l,p,h,ho=>by
  have h':(xdf p x && chainM (posE x) l) = true:=h
  rw [Bool.and_eq_true] at h'
  intro e he
  rcases List.mem_cons.1 he with rfl | he
  ·have hx:=ho e (by simp)
   exact ⟨hx.since,hx.n,hx.op,writes_len (xhb.1 h'.1).1⟩
  ·exact chain_G l (posE x) h'.2 (fun e he=>ho e (by simp [he])) e he
theorem obj_G {x:ObjV} (h:isObjM x = true):ObG x:=by
 unfold isObjM at h
 rw [decide_eq_true_iff] at h
 exact ⟨h.2.1,h.2.2.1,h.2.2.2.1,h.2.2.2.2⟩
theorem isSt_W {s:StV} (h:isSt s = true) (ho:StOk s):StW PutC s:=by
 obtain ⟨h1,h2,h3,h4,h5⟩:=(is_is s).1 h
 exact ⟨ho.started,ho.tail,⟨fun i=>obj_G (((isBase_is _).1 h3).1 i),ho.base.seq,ho.base.code⟩,⟨chain_G _ _ h5 ho.log,h4,fits_put _ (by omega)⟩⟩
theorem isSt_G {s:StV} (h:isSt s = true) (ho:StOk s):StG s:=by
 obtain ⟨h1,h2,h3,h4,h5⟩:=(is_is s).1 h
 have hl:=((isBase_is _).1 h3).2
 have ht:posE s.tail = s.tail:=by
  unfold xgi xfl at h2
  simp only [Bool.and_eq_true,decide_eq_true_iff] at h2
  obtain ⟨_,a1,a2,a3,a4,a5,a6⟩:=h2
  have:s.tail.op = op0:=by
   cases hq:s.tail.op with
   | mk c d e f g k=>rw [hq] at a1 a2 a3 a4 a5 a6;simp only at a1 a2 a3 a4 a5 a6;subst a1 a2 a3 a4 a5 a6;rfl
  unfold posE
  rw [← this]
 refine ⟨ho.started,ho.tail.since,ho.tail.n,ht,⟨fun i=>obj_G (((isBase_is _).1 h3).1 i),ho.base.seq,ho.base.code,fun i=>?_⟩,h4,chain_G _ _ h5 ho.log⟩
 have:=hl i
 unfold xec at this
 rw [decide_eq_true_iff] at this
 unfold lstN
 cases hq:s.base.last i with
 | mk a b =>
  rw [hq] at this
  cases b with
  | mk c d =>
   have hd:d = []:=this.1
   subst hd
   rfl
theorem lg_W {l:List EntV} (h:isLgM l = true) (ho:∀ e ∈ l,EntOk e):LgW PutC l:=by
 cases l with
 | nil=>exact ⟨(fun _ h=>by cases h),by decide,fits_put _ (by decide)⟩
 | cons e t =>
  have h:isSt ⟨0,base0,⟨0,(e.n + 4294967295) % 4294967296,op0⟩,e :: t⟩ = true:=h
  obtain ⟨h1,h2,h3,h4,h5⟩:=(is_is _).1 h
  exact ⟨chain_G _ _ h5 ho,h4,fits_put _ (by have:(e :: t).length ≤ 6:=h4;omega)⟩
theorem nil_W {l:List EntV} (h:¬ 0 < l.length):LgW PutC l:=by
 have:l = []:=List.eq_nil_of_length_eq_zero (by omega)
 subst this
 exact ⟨(fun _ h=>by cases h),by decide,fits_put _ (by decide)⟩
theorem dif_parts {d:DiffV} (h:xcq d = true):(isLgM d.log = true ∨ ¬ 0 < d.log.length) ∧ isSt d.whole = true:=by
 unfold xcq at h
 have nb:(!bearsM d) = true → ¬ 0 < d.log.length:=fun hb=>by
  unfold bearsM at hb
  simp only [Bool.not_or,Bool.and_eq_true,Bool.not_eq_true',decide_eq_false_iff_not] at hb
  exact hb.2
 have en:xfr d.whole = true → isSt d.whole = true:=fun he=>by
  unfold xfr at he
  rw [Bool.and_eq_true] at he
  exact he.1
 split at h
 ·rw [Bool.and_eq_true] at h
  exact ⟨.inr (nb h.1),en h.2⟩
 ·split at h
  ·rw [Bool.and_eq_true] at h
   exact ⟨.inl h.1,en h.2⟩
  ·split at h
   ·rw [Bool.and_eq_true] at h
    exact ⟨.inr (nb h.1),h.2⟩
   ·cases h
theorem dif_W {d:DiffV} (h:xcq d = true) (ho:DiffOk d):DifW PutC d:=by
 obtain ⟨h1,h2⟩:=dif_parts h
 refine ⟨ho.kind1,ho.kind2,ho.fr,?_,isSt_W h2 ho.whole⟩
 rcases h1 with h1 | h1
 ·exact lg_W h1 ho.log
 ·exact nil_W h1
theorem xhl (s:ShV) (m:MsgV) (h:fitsM s m = true):(s.st = true → isSt m.st = true) ∧ (s.dif = true → xcq m.diff = true) ∧ (s.ent = true → isEntM m.ent = true) ∧ xct s m = true ∧ m.r.code ≤ 3 ∧ m.r.data.length ≤ 80:=by
 unfold fitsM at h
 simp only [Bool.and_eq_true,Bool.or_eq_true,Bool.not_eq_true',decide_eq_true_iff] at h
 obtain ⟨_,_,_,_,h5,h6,h7,_,h9,h10,h11⟩:=h
 refine ⟨fun q=>?_,fun q=>?_,fun q=>?_,h9,h10,h11⟩
 ·rcases h5 with h | h
  ·rw [q] at h;cases h
  ·exact h
 ·rcases h6 with h | h
  ·rw [q] at h;cases h
  ·exact h
 ·rcases h7 with h | h
  ·rw [q] at h;cases h
  ·exact h
theorem op_len {s:ShV} {m:MsgV} (h:xct s m = true) (h0:s.op ≠ 0):m.op.data.length ≤ 16:=by
 unfold xct at h
 rw [if_neg h0] at h
 split at h
 ·rw [Bool.and_eq_true] at h
  exact isOp_len h.1
 ·rw [Bool.and_eq_true] at h
  exact isOp_len h.1
theorem parts_W {m:MsgV} (hm:MsgOk m) {s:ShV} (h:fitsM s m = true):PartsW PutC s m:=by
 obtain ⟨h1,h2,h3,h4,h5,h6⟩:=xhl s m h
 refine ⟨fun q=>isSt_W (h1 q) hm.st,fun q=>dif_W (h2 q) hm.diff,fun q=>?_,fun q=>⟨hm.op,op_len h4 q⟩,fun _=>⟨hm.r.code,h6⟩⟩
 have:=h3 q
 unfold isEntM at this
 rw [Bool.and_eq_true] at this
 exact ⟨hm.ent.since,hm.ent.n,hm.ent.op,writes_len this.1⟩
theorem only_put {m:MsgV} (hm:MsgOk m) (h:fitsM (shapeM m.kind) m = true) (s:List UInt8):msgM PutC m s = .ok (onlyM m,s ++ msgB m):=by
 have hp:=parts_W hm h
 exact msg_put hm (fun t=>(hp.st t).log.len) (fun t=>⟨(hp.dif t).log.len,(hp.dif t).whole.log.len⟩) s
end Go.Proofs.YtecilienolabfaaGreatDoor
