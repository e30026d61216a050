/- Several texts in one, in build order: PutNum, PutFace, GetNum, GetFace, PutLim. -/
import Derived.Test.YtecilienolabfaaGreatDoorCoder
import Derived.Maps.AppendAt
import Derived.Test.YtecilienolabfaaGreatDoorPackBits
/- PutNum: Who puts: what it holds, and the contracts of its two methods. -/
namespace Go.Proofs.YtecilienolabfaaGreatDoor
set_option linter.unusedSimpArgs false
set_option linter.unusedVariables false
set_option maxRecDepth 100000
open Go.RowKit
def PutL:CodM:=⟨fun n k s=>if s.length + k ≤ 1000000 then .ok (n,s ++ putB n k) else .error 99,fun t _ s=>if s.length + (t.length + 2) ≤ 1000000 then .ok (t,s ++ textB t) else .error 99⟩
def PutI (p:Nat):Inv:=fun w s F=>∃ v,Has w p 77 #[v] ∧ w.ownsRow 0 5 1 v s.length (Bs s) ∧ (∀ k,F k ↔ (k = p ∨ v.ownBlock = some k)) ∧ s.length ≤ 1000000 ∧ v.ownBlock ≠ some p
theorem own_at {w w':World} {base n size:Nat} {e:TypeId} {v:Value} {xs:List Value} (h:w.ownsRow base e size v n xs) (hk:∀ k,k < w.heap.size → v.ownBlock = some k → w'.heap[k]? = w.heap[k]?):w'.ownsRow base e size v n xs:=by
 refine ⟨h.1,?_⟩
 rcases h.2 with hn | ⟨g,cap,cur,rfl,hb,hgg,rest⟩
 ·exact .inl hn
 ·refine .inr ⟨g,cap,cur,rfl,hb,?_,rest⟩
  rw [hk g (Array.getElem?_eq_some_iff.1 hgg).1 rfl]
  exact hgg
theorem own_slice {w:World} {base n size:Nat} {e:TypeId} {v:Value} {xs:List Value} (h:w.ownsRow base e size v n xs):∃ ao c,v = .slice ao n c:=by
 rcases h.2 with ⟨rfl,rfl⟩ | ⟨g,cap,cur,rfl,_⟩
 ·exact ⟨_,_,rfl⟩
 ·exact ⟨_,_,rfl⟩
theorem put_kept (p:Nat) (w w':World) (s:List UInt8) (F:Nat → Prop) (h:PutI p w s F) (hw:w.heap.size ≤ w'.heap.size) (hk:∀ k,k < w.heap.size → F k ∨ False → w'.heap[k]? = w.heap[k]?):PutI p w' s F:=by
 obtain ⟨v,hp,ho,hF,hL⟩:=h
 refine ⟨v,?_,own_at ho (fun k hl hb=>hk k hl (.inl ((hF k).2 (.inr hb)))),hF,hL⟩
 have:=hk p hp.lt (.inl ((hF p).2 (.inl rfl)))
 unfold Has at *
 rw [this]
 exact hp
theorem put_lt (p:Nat) (w:World) (s:List UInt8) (F:Nat → Prop) (h:PutI p w s F) (k:Nat) (hk:F k ∨ False):k < w.heap.size:=by
 obtain ⟨v,hp,ho,hF,hL⟩:=h
 rcases hk with q | q
 ·rcases (hF k).1 q with rfl | q
  ·exact hp.lt
  ·exact (ho.lt k q).2
 ·exact q.elim
theorem put_step2 {p:Nat} {w w1 w2:World} {s t:List UInt8} {F:Nat → Prop} {v v':Value} {m:Nat} (hp:Has w p 77 #[v]) (ho:w.ownsRow 0 5 1 v s.length (Bs s)) (hpb:v.ownBlock ≠ some p) (hF:∀ k,F k ↔ (k = p ∨ v.ownBlock = some k)) (hq:Below w.heap.size w w1)
  (ho2:w2.ownsRow 0 5 1 v' (s.length + m) (Bs s ++ Bs t)) (hgr:w1.grownBy w2 v.ownBlock) (hbl:v'.ownBlock = v.ownBlock ∨ v'.ownBlock = some w1.heap.size) (hm:t.length = m) (hL:s.length + m ≤ 1000000) :
  Has w2 p 77 #[v] ∧ ∃ F',PutI p (w2.setCell ⟨p,0,none⟩ v') (s ++ t) F' ∧ Stp F F' w (w2.setCell ⟨p,0,none⟩ v'):=by
 have hp1:=hp.later hq
 have hp2:Has w2 p 77 #[v]:=by
  have:=hgr.block p hp1.lt (fun q=>hpb q.symm)
  unfold Has at *
  rw [this]
  exact hp1
 have hs:=hp2.set 0 v'
 have hpb':v'.ownBlock ≠ some p:=by
  rcases hbl with e | e
  ·rw [e];exact hpb
  ·rw [e]
   intro q
   have q:=Option.some.inj q
   have:=hp1.lt
   omega
 refine ⟨hp2,fun k=>k = p ∨ v'.ownBlock = some k,⟨v',hs,?_,fun k=>Iff.rfl,by rw [List.length_append];omega,hpb'⟩,?_,?_,fun i ty u ht q=>?_⟩
 ·rw [List.length_append,xgl,hm]
  exact own_at ho2 (fun k hk hb=>heap_setCell_other _ _ _ _ (fun e=>hpb' (by rw [hb,e])))
 ·have hsz:(w2.setCell ⟨p,0,none⟩ v').heap.size = w2.heap.size:=by simp
  refine ⟨(show w2.os = w.os from hgr.os.trans hq.os),(show w2.tape = w.tape from hgr.tape.trans hq.tape),(show w2.output = w.output from hgr.output.trans hq.output),by rw [hsz];exact Nat.le_trans hq.size hgr.size,fun k hk hn=>?_⟩
  have h1:k ≠ p:=fun e=>hn ((hF k).2 (.inl e))
  have h2:v.ownBlock ≠ some k:=fun e=>hn ((hF k).2 (.inr e))
  rw [heap_setCell_other _ _ _ _ h1,hgr.block k (Nat.lt_of_lt_of_le hk hq.size) (fun q=>h2 q.symm),hq.block k hk]
 ·intro k hk
  rcases hk with rfl | hk
  ·exact .inl ((hF _).2 (.inl rfl))
  ·rcases hbl with e | e
   ·exact .inl ((hF k).2 (.inr (e ▸ hk)))
   ·rw [e] at hk
    obtain rfl:=Option.some.inj hk
    exact .inr hq.size
 ·have hne:some i ≠ v.ownBlock:=fun e=>by
   rcases ho.2 with ⟨rfl,_⟩ | ⟨g,cap,cur,rfl,_,hgg,_⟩
   ·cases e
   ·have e':i = g:=by
     have:some i = some g:=e
     injection this
    subst e'
    unfold Has at q
    rw [q] at hgg
    injection hgg with hgg
    injection hgg with _ h2 _
    exact ht h2
  have q1:=q.later hq
  have q2:Has w2 i ty #[u]:=by
   have:=hgr.block i q1.lt hne
   unfold Has at *
   rw [this]
   exact q1
  by_cases e:i = p
  ·subst e;exact ⟨_,q2.set 0 v'⟩
  ·exact ⟨u,q2.set_other e v'⟩
theorem text_new (t:List UInt8) (w:World) (ht:t.length ≤ 80):Calls Tryz.prog 163 #[.slice none 0 0,strV t] w fun e w'=>∃ g c,e = .returned (.slice (some ⟨g,0,none⟩) (t.length + 2) c) ∧ By w' (some ⟨g,0,none⟩) c (textB t) ∧ Below w.heap.size w w':=by
 refine (text_any none 0 0 [] (mkS t) w (By.nothing w) rfl (by decide) (by rw [xde];omega)).mono ?_
 rintro e w' ⟨g,c,rfl,hB,hb⟩
 rw [xde,Nat.zero_add]
 have e2:txtB (mkS t) = textB t:=by unfold txtB textB strB;rw [xde];rfl
 rw [e2,List.nil_append] at hB
 exact ⟨g,c,rfl,hB,hb⟩
section
variable {P:Program} {ops:Array Oper} {Q:Exit → Act → World → Prop} {S:World → Prop}
theorem plan_app {i:Nat} {p:Plan} {a:Act} {w:World} (o:Oper) (ho:nth ops.toList i = some o) (hw:Region.wanted o (yielded ops a.tmps) = true) (s x:Operand) (t:TypeId)
  (hop:o.op = .call { callee:=.builtin .append,args:=#[s,x],argTypes:=#[t,t] })
  (base:Nat) (e:TypeId) (i':TypeInfo) (z:Value) (size bytes:Nat) (ht:P.underlying t = some (.slice e)) (hi:P.info? e = some i') (hz:i'.zero = some z)
  (hsize:i'.size = size) (hby:i'.bytes = bytes) (hzs:z.cells.size = size) (hsz:0 < size)
  (v:Value) (n:Nat) (xs:List Value) (hs:a.eval s = v) (hown:w.ownsRow base e size v n xs)
  (ad:Addr) (m c:Nat) (news:List Value) (hx:a.eval x = .slice (some ad) m c) (hl:news.length = m * size) (hnews:∀ j u,news[j]? = some u → w.cell? (ad.add j) = some u) (h1:∀ u ∈ news,u.oneCell' = true)
  (h63:n + m ≤ maxLen) (hbytes:(n + m) * bytes ≤ 140737488355328) (hbase:base ≤ w.heap.size)
  (h:∀ v' w',w'.ownsRow base e size v' (n + m) (xs ++ news) → w.grownBy w' v.ownBlock → (v'.ownBlock = v.ownBlock ∨ v'.ownBlock = some w.heap.size) → S w' ∧ wpPlan P ops Q S p (a.put o.dst v') w') :
  wpPlan P ops Q S (Plan.run i p) a w:=by
 refine xam o ho fun K hK=>?_
 rw [if_pos hw]
 obtain ⟨v',w',hr,h2,h3,h4,h5⟩:=run_append_own_at (P:=P) w base t o.type e i' z size bytes ht hi hz hsize hby hzs hsz v n xs hown ad m c news hl hnews h1 h63 hbytes hbase
 obtain ⟨hS,hW⟩:=h v' w' h2 h3 h5
 unfold Oper.wp execOp
 simp only [hop,resolve,invoke,builtin,Sem.run_bind,Sem.run_pure,Result.andThen_ok,List.map_toArray,List.map_cons,List.map_nil,hs,hx,hr]
 exact hK.out _ _ hS hW
theorem plan_at {i:Nat} {p:Plan} {a:Act} {w:World} (o:Oper) (v:Value) (ho:nth ops.toList i = some o) (hw:Region.wanted o (yielded ops a.tmps) = true)
  (hy:YieldsIf P ops (fun W=>W = w) o v a) (hS:S w) (h:wpPlan P ops Q S p (a.put o.dst v) w):wpPlan P ops Q S (Plan.run i p) a w:=by
 refine xam o ho fun K hK=>?_
 rw [if_pos hw]
 obtain ⟨_,f⟩ | ⟨f,_⟩:=hy
 ·unfold Oper.wp
  rw [f w rfl]
  exact hK.out _ _ hS h
 ·rw [hw] at f;cases f
end
set_option maxHeartbeats 2000000 in
theorem putnum_any (p n k:Nat) (w:World) (s:List UInt8) (F:Nat → Prop) (hI:PutI p w s F) (hn:n < 18446744073709551616) (hk:k ≤ 8) (hB:s.length + k ≤ 1000000) :
  Calls Tryz.prog 27 #[.pointer (some ⟨p,0,none⟩),.int .u64 (n:Nat),.int .i64 (k:Nat)] w fun e w'=>e = .returned (.int .u64 (n:Nat)) ∧ ∃ F',PutI p w' (s ++ putB n k) F' ∧ Stp F F' w w':=by
 obtain ⟨v,hp,ho,hF,hL,hpb⟩:=hI
 replace hF:Hid _:=hF
 obtain ⟨i0,hi,hz0,hz1,hz2⟩:=info_parts Tryz.infoByte
 have hh:(heldI (k:Int)).toNat = k:=by unfold heldI;split <;> (try split) <;> omega
 have hlen:=xal n k
 go_enter Tryz.func27,Tryz.ntmps27
 go_wp2_with fail
 refine xas (fun _=>True) (Plan.of [(0,true),(1,true),(2,true),(3,true),(5,true),(6,true)] (.either 4 (Plan.of [(7,false),(8,false),(9,true),(10,true),(11,false)] .done) 7 (Plan.of [(4,false),(8,false),(9,true),(10,true),(11,false)] .done))) (by kernel_rfl) (by kernel_rfl) (by kernel_rfl) (by kernel_rfl) trivial ?_
 have hpd:=hp.drew
 have hod:w.drew.ownsRow 0 5 1 v s.length (Bs s):=ho
 have hqd:Below w.heap.size w w.drew:=(Below.refl _ _).drew
 generalize w.drew = wd at *
 iterate 6
  first
   | (refine xad _ rfl (by rfl) ?_)
   | (refine xaa _ _ rfl (.inl ⟨by rfl,fun W hS=>by clear hS;go_simp;try with_reducible rfl⟩) ?_)
  try simp only [qp,qa,qb,qc]
 refine xek ?_ ?_
 ·refine plan_at _ v rfl (by rfl) (.inl ⟨by rfl,fun W hS=>by subst hS;have z:=hpd.cell 0;go_simp;try with_reducible rfl⟩) trivial ?_
  try simp only [qp,qa,qb,qc]
  refine xam _ rfl (fun K hK=>?_)
  go_simp
  refine (put_new (n:Int) (k:Int) k _ hh (by omega) (by omega)).mono ?_
  rintro en w1 ⟨rfl,hB1,hq⟩
  refine hK.out _ _ trivial ?_
  clear hK K
  try simp only [qp,qa,qb,qc]
  rw [Int.toNat_natCast] at hB1
  have ho1:=own_at hod (fun k' hl _=>hq.block k' hl)
  have hp1:=hpd.later hq
  refine plan_app _ rfl (by rfl) _ _ 51 rfl 0 5 i0 (.int .u8 0) 1 1 Tryz.underlying51 hi hz0 hz1 hz2 rfl (by decide) v s.length (Bs s) rfl ho1 ⟨wd.heap.size,0,none⟩ (k) (k) (Bs (putB n k)) rfl (by rw [xdx,hlen,Nat.mul_one]) (fun j u hu=>hB1.at' _ rfl j u hu) (Bs_one _) (by unfold maxLen;omega) (by omega) (Nat.zero_le _) ?_
  intro v' w2 ho2 hgr hbl
  refine ⟨trivial,?_⟩
  try simp only [qp,qa,qb,qc]
  obtain ⟨ao',c',rfl⟩:=own_slice ho2
  obtain ⟨hp2,F',hI',hS'⟩:=put_step2 hp ho hpb hF.out (hqd.trans (hq.mono hqd.size)) ho2 hgr hbl hlen hB
  iterate 2
   first
    | (refine xad _ rfl (by rfl) ?_)
    | (refine xaa _ _ rfl (.inl ⟨by rfl,fun W hS=>by clear hS;go_simp;try with_reducible rfl⟩) ?_)
   try simp only [qp,qa,qb,qc]
  have hc:w2.cell? ⟨p,0,none⟩ = some v:=hp2.cell 0
  have hz:w2.frozen? ⟨p,0,none⟩ = false:=hp2.free 0
  refine xam _ rfl (fun K hK=>?_)
  go_simp
  refine hK.out _ _ trivial ?_
  clear hK K
  try simp only [qp,qa,qb,qc]
  refine xbf ?_
  go_wp2
  go_ret
  exact ⟨rfl,F',hI',hS'⟩
 ·refine xam _ rfl (fun K hK=>?_)
  go_simp
  refine (put_new (n:Int) (k:Int) k _ hh (by omega) (by omega)).mono ?_
  rintro en w1 ⟨rfl,hB1,hq⟩
  refine hK.out _ _ trivial ?_
  clear hK K
  try simp only [qp,qa,qb,qc]
  rw [Int.toNat_natCast] at hB1
  have hpl:=hpd.later hq
  refine plan_at _ v rfl (by rfl) (.inl ⟨by rfl,fun W hS=>by subst hS;have z:=hpl.cell 0;go_simp;try with_reducible rfl⟩) trivial ?_
  try simp only [qp,qa,qb,qc]
  have ho1:=own_at hod (fun k' hl _=>hq.block k' hl)
  have hp1:=hpd.later hq
  refine plan_app _ rfl (by rfl) _ _ 51 rfl 0 5 i0 (.int .u8 0) 1 1 Tryz.underlying51 hi hz0 hz1 hz2 rfl (by decide) v s.length (Bs s) rfl ho1 ⟨wd.heap.size,0,none⟩ (k) (k) (Bs (putB n k)) rfl (by rw [xdx,hlen,Nat.mul_one]) (fun j u hu=>hB1.at' _ rfl j u hu) (Bs_one _) (by unfold maxLen;omega) (by omega) (Nat.zero_le _) ?_
  intro v' w2 ho2 hgr hbl
  refine ⟨trivial,?_⟩
  try simp only [qp,qa,qb,qc]
  obtain ⟨ao',c',rfl⟩:=own_slice ho2
  obtain ⟨hp2,F',hI',hS'⟩:=put_step2 hp ho hpb hF.out (hqd.trans (hq.mono hqd.size)) ho2 hgr hbl hlen hB
  iterate 2
   first
    | (refine xad _ rfl (by rfl) ?_)
    | (refine xaa _ _ rfl (.inl ⟨by rfl,fun W hS=>by clear hS;go_simp;try with_reducible rfl⟩) ?_)
   try simp only [qp,qa,qb,qc]
  have hc:w2.cell? ⟨p,0,none⟩ = some v:=hp2.cell 0
  have hz:w2.frozen? ⟨p,0,none⟩ = false:=hp2.free 0
  refine xam _ rfl (fun K hK=>?_)
  go_simp
  refine hK.out _ _ trivial ?_
  clear hK K
  try simp only [qp,qa,qb,qc]
  refine xbf ?_
  go_wp2
  go_ret
  exact ⟨rfl,F',hI',hS'⟩
set_option maxHeartbeats 2000000 in
theorem puttxt_any (p:Nat) (t:List UInt8) (most:Int) (w:World) (s:List UInt8) (F:Nat → Prop) (hI:PutI p w s F) (ht:t.length ≤ 80) (hB:s.length + (t.length + 2) ≤ 1000000) :
  Calls Tryz.prog 162 #[.pointer (some ⟨p,0,none⟩),strV t,.int .i64 most] w fun e w'=>e = .returned (strV t) ∧ ∃ F',PutI p w' (s ++ textB t) F' ∧ Stp F F' w w':=by
 obtain ⟨v,hp,ho,hF,hL,hpb⟩:=hI
 replace hF:Hid _:=hF
 obtain ⟨i0,hi,hz0,hz1,hz2⟩:=info_parts Tryz.infoByte
 have hlen:=xdg t
 go_enter Tryz.func162,Tryz.ntmps162
 go_wp2_with fail
 refine xas (fun _=>True) (Plan.of [(0,true),(1,true),(2,true),(3,true),(5,true)] (.either 4 (Plan.of [(6,false),(7,false),(8,true),(9,true),(10,false)] .done) 6 (Plan.of [(4,false),(7,false),(8,true),(9,true),(10,false)] .done))) (by kernel_rfl) (by kernel_rfl) (by kernel_rfl) (by kernel_rfl) trivial ?_
 have hpd:=hp.drew
 have hod:w.drew.ownsRow 0 5 1 v s.length (Bs s):=ho
 have hqd:Below w.heap.size w w.drew:=(Below.refl _ _).drew
 generalize w.drew = wd at *
 iterate 5
  first
   | (refine xad _ rfl (by rfl) ?_)
   | (refine xaa _ _ rfl (.inl ⟨by rfl,fun W hS=>by clear hS;go_simp;try with_reducible rfl⟩) ?_)
  try simp only [qp,qa,qb,qc]
 refine xek ?_ ?_
 ·refine plan_at _ v rfl (by rfl) (.inl ⟨by rfl,fun W hS=>by subst hS;have z:=hpd.cell 0;go_simp;try with_reducible rfl⟩) trivial ?_
  try simp only [qp,qa,qb,qc]
  refine xam _ rfl (fun K hK=>?_)
  go_simp
  refine (text_new t _ ht).mono ?_
  rintro en w1 ⟨g,c,rfl,hB1,hq⟩
  refine hK.out _ _ trivial ?_
  clear hK K
  try simp only [qp,qa,qb,qc]
  have ho1:=own_at hod (fun k' hl _=>hq.block k' hl)
  have hp1:=hpd.later hq
  refine plan_app _ rfl (by rfl) _ _ 51 rfl 0 5 i0 (.int .u8 0) 1 1 Tryz.underlying51 hi hz0 hz1 hz2 rfl (by decide) v s.length (Bs s) rfl ho1 ⟨g,0,none⟩ (t.length + 2) (c) (Bs (textB t)) rfl (by rw [xdx,hlen,Nat.mul_one]) (fun j u hu=>hB1.at' _ rfl j u hu) (Bs_one _) (by unfold maxLen;omega) (by omega) (Nat.zero_le _) ?_
  intro v' w2 ho2 hgr hbl
  refine ⟨trivial,?_⟩
  try simp only [qp,qa,qb,qc]
  obtain ⟨ao',c',rfl⟩:=own_slice ho2
  obtain ⟨hp2,F',hI',hS'⟩:=put_step2 hp ho hpb hF.out (hqd.trans (hq.mono hqd.size)) ho2 hgr hbl hlen hB
  iterate 2
   first
    | (refine xad _ rfl (by rfl) ?_)
    | (refine xaa _ _ rfl (.inl ⟨by rfl,fun W hS=>by clear hS;go_simp;try with_reducible rfl⟩) ?_)
   try simp only [qp,qa,qb,qc]
  have hc:w2.cell? ⟨p,0,none⟩ = some v:=hp2.cell 0
  have hz:w2.frozen? ⟨p,0,none⟩ = false:=hp2.free 0
  refine xam _ rfl (fun K hK=>?_)
  go_simp
  refine hK.out _ _ trivial ?_
  clear hK K
  try simp only [qp,qa,qb,qc]
  refine xbf ?_
  go_wp2
  go_ret
  exact ⟨rfl,F',hI',hS'⟩
 ·refine xam _ rfl (fun K hK=>?_)
  go_simp
  refine (text_new t _ ht).mono ?_
  rintro en w1 ⟨g,c,rfl,hB1,hq⟩
  refine hK.out _ _ trivial ?_
  clear hK K
  try simp only [qp,qa,qb,qc]
  have hpl:=hpd.later hq
  refine plan_at _ v rfl (by rfl) (.inl ⟨by rfl,fun W hS=>by subst hS;have z:=hpl.cell 0;go_simp;try with_reducible rfl⟩) trivial ?_
  try simp only [qp,qa,qb,qc]
  have ho1:=own_at hod (fun k' hl _=>hq.block k' hl)
  have hp1:=hpd.later hq
  refine plan_app _ rfl (by rfl) _ _ 51 rfl 0 5 i0 (.int .u8 0) 1 1 Tryz.underlying51 hi hz0 hz1 hz2 rfl (by decide) v s.length (Bs s) rfl ho1 ⟨g,0,none⟩ (t.length + 2) (c) (Bs (textB t)) rfl (by rw [xdx,hlen,Nat.mul_one]) (fun j u hu=>hB1.at' _ rfl j u hu) (Bs_one _) (by unfold maxLen;omega) (by omega) (Nat.zero_le _) ?_
  intro v' w2 ho2 hgr hbl
  refine ⟨trivial,?_⟩
  try simp only [qp,qa,qb,qc]
  obtain ⟨ao',c',rfl⟩:=own_slice ho2
  obtain ⟨hp2,F',hI',hS'⟩:=put_step2 hp ho hpb hF.out (hqd.trans (hq.mono hqd.size)) ho2 hgr hbl hlen hB
  iterate 2
   first
    | (refine xad _ rfl (by rfl) ?_)
    | (refine xaa _ _ rfl (.inl ⟨by rfl,fun W hS=>by clear hS;go_simp;try with_reducible rfl⟩) ?_)
   try simp only [qp,qa,qb,qc]
  have hc:w2.cell? ⟨p,0,none⟩ = some v:=hp2.cell 0
  have hz:w2.frozen? ⟨p,0,none⟩ = false:=hp2.free 0
  refine xam _ rfl (fun K hK=>?_)
  go_simp
  refine hK.out _ _ trivial ?_
  clear hK K
  try simp only [qp,qa,qb,qc]
  refine xbf ?_
  go_wp2
  go_ret
  exact ⟨rfl,F',hI',hS'⟩
end Go.Proofs.YtecilienolabfaaGreatDoor
/- PutFace: The putter's methods as a coder's. -/
namespace Go.Proofs.YtecilienolabfaaGreatDoor
set_option linter.unusedSimpArgs false
set_option linter.unusedVariables false
set_option maxRecDepth 100000
open Go.RowKit
def NilC:CodM:=⟨fun _ _ _=>.error 99,fun _ _ _=>.error 99⟩
theorem nil_coder {cv:Value} {I:Inv} {R:Nat → Prop} (kept:∀ w w' s F,I w s F → w.heap.size ≤ w'.heap.size → (∀ k,k < w.heap.size → F k ∨ R k → w'.heap[k]? = w.heap[k]?) → I w' s F) (lt:∀ w s F,I w s F → ∀ k,F k ∨ R k → k < w.heap.size):Coder True NilC cv I R where
 kept:=kept
 lt:=lt
 len:=fun n k s m t h=>by cases h
 one:=fun w s F n _ _ hne=>absurd rfl (hne trivial)
 four:=fun w s F n _ _ hne=>absurd rfl (hne trivial)
 small:=fun w s F n _ _ _ hne=>absurd rfl (hne trivial)
 data:=fun w s F t _ _ hne=>absurd rfl (hne trivial)
 res:=fun w s F r _ _ _ hne=>absurd rfl (hne trivial)
theorem wrap64_sgn {y:Nat} (h:y < 18446744073709551616):wrap64 (y:Int) = sgn y:=by
 unfold sgn
 simp only [wrap64]
 split <;> omega
theorem putL_num (n k:Nat) (s:List UInt8):PutL.num n k s = if s.length + k ≤ 1000000 then .ok (n,s ++ putB n k) else .error 99:=rfl
theorem putL_txt (t:List UInt8) (k:Nat) (s:List UInt8):PutL.txt t k s = if s.length + (t.length + 2) ≤ 1000000 then .ok (t,s ++ textB t) else .error 99:=rfl
theorem put_len (n k:Nat) (s:List UInt8) (m:Nat) (t:List UInt8) (h:PutL.num n k s = .ok (m,t)):m = n ∨ m < 256 ^ k:=by
 rw [putL_num] at h
 split at h
 ·injection h with h
  injection h with h1 h2
  exact .inl h1.symm
 ·cases h
theorem put_big {n k y:Nat} {s t:List UInt8} (h:PutL.num n k s = .ok (y,t)) (hn:n < 18446744073709551616):y < 18446744073709551616:=by
 rw [putL_num] at h
 split at h
 ·injection h with h
  injection h with h1 h2
  omega
 ·cases h
theorem putnum_ends (p n k:Nat) (w:World) (s:List UInt8) (F:Nat → Prop) (hI:PutI p w s F) (hn:n < 18446744073709551616) (hk:k ≤ 8) (hne:Bare True (PutL.num n k s)) :
  Calls Tryz.prog 27 #[.pointer (some ⟨p,0,none⟩),.int .u64 (n:Nat),.int .i64 (k:Nat)] w (Ends (PutI p) F w (PutL.num n k s) fun m=>.int .u64 (m:Nat)):=by
 have hB:s.length + k ≤ 1000000:=by
  refine Classical.byContradiction fun q=>hne trivial ?_
  rw [putL_num,if_neg q]
 refine (putnum_any p n k w s F hI hn hk hB).mono ?_
 rintro e w' ⟨rfl,F',h1,h2⟩
 exact xda (by rw [putL_num,if_pos hB]) rfl h1 h2
theorem puttxt_ends (p:Nat) (t:List UInt8) (most:Nat) (w:World) (s:List UInt8) (F:Nat → Prop) (hI:PutI p w s F) (ht:t.length ≤ 80) (hm:most ≤ 80) (hne:Bare True (PutL.txt t most s)) :
  Calls Tryz.prog 162 #[.pointer (some ⟨p,0,none⟩),strV t,.int .i64 (most:Nat)] w (Ends (PutI p) F w (PutL.txt t most s) strV):=by
 have hB:s.length + (t.length + 2) ≤ 1000000:=by
  refine Classical.byContradiction fun q=>hne trivial ?_
  rw [putL_txt,if_neg q]
 refine (puttxt_any p t most w s F hI ht hB).mono ?_
 rintro e w' ⟨rfl,F',h1,h2⟩
 exact xda (by rw [putL_txt,if_pos hB]) rfl h1 h2
end Go.Proofs.YtecilienolabfaaGreatDoor
/- GetNum: Who gets: the contracts of must, and of the getter's next and pass. -/
namespace Go.Proofs.YtecilienolabfaaGreatDoor
set_option linter.unusedSimpArgs false
set_option linter.unusedVariables false
set_option maxRecDepth 100000
open Go.RowKit
theorem xhf (e:Int) (w:World):Calls Tryz.prog 91 #[.bool true,.int .i64 e] w fun en w'=>en = .returned (.tuple #[]) ∧ w' = w:=by
 go_enter Tryz.func91,Tryz.ntmps91
 go_wp2
 go_end0
 exact ⟨rfl,rfl⟩
theorem must_no (e:Int) (w:World):Calls Tryz.prog 91 #[.bool false,.int .i64 e] w fun en w'=>en = .panicked [{ v:=.iface 52 (.int .i64 e),recovered:=false }] ∧ w' = w:=by
 go_enter Tryz.func91,Tryz.ntmps91
 go_wp2
 exact ⟨rfl,rfl,rfl⟩
theorem next_any (p n c k:Nat) (ao:Option Addr) (w:World) (hp:Has w p 119 #[.slice ao n c]) (hn:n ≤ c) (hc:c ≤ 9223372036854775807) (hk:k ≤ 1000000) :
  Calls Tryz.prog 137 #[.pointer (some ⟨p,0,none⟩),.int .i64 (k:Nat)] w fun e w'=>e = .returned (.slice ao (min k n) c) ∧ Below w.heap.size w w':=by
 have hcell:w.cell? ⟨p,0,none⟩ = some (.slice ao n c):=hp.cell 0
 have hb:Hid (Below w.heap.size w w.drew):=(Below.refl _ _).drew
 by_cases h:k ≤ n
 ·have e0:¬ n < k:=by omega
  have h1:(k:Int) ≤ (c:Int):=by omega
  have e2:min k n = k:=by omega
  rw [e2]
  clear e2
  go_enter Tryz.func137,Tryz.ntmps137
  go_wp2_with fail
  refine xas (fun W=>Has W p 119 #[.slice ao n c] ∧ Below w.heap.size w W) (Plan.of [(0,true),(1,true),(2,true),(3,true),(4,true),(5,true),(6,true),(7,true),(8,true),(9,true),(10,true),(11,true),(12,true)] .done) (by kernel_rfl) (by kernel_rfl) (by kernel_rfl) (by kernel_rfl) ⟨hp.drew,hb.out⟩ ?_
  iterate 3
   first
    | (refine xad _ rfl (by rfl) ?_)
    | (refine xaa _ _ rfl (.inl ⟨by rfl,fun W hS=>by clear hS;go_simp;try with_reducible rfl⟩) ?_)
   try simp only [qp,qa,qb,qc]
  iterate 1
   first
    | (refine xad _ rfl (by rfl) ?_)
    | (refine xaa _ _ rfl (.inl ⟨by rfl,fun W hS=>by have z:W.cell? ⟨p,0,none⟩ = some (.slice ao n c):=hS.1.cell 0;go_simp;try with_reducible rfl⟩) ?_)
   try simp only [qp,qa,qb,qc]
  iterate 4
   first
    | (refine xad _ rfl (by rfl) ?_)
    | (refine xaa _ _ rfl (.inl ⟨by rfl,fun W hS=>by clear hS;go_simp;try with_reducible rfl⟩) ?_)
   try simp only [qp,qa,qb,qc]
  iterate 1
   first
    | (refine xad _ rfl (by rfl) ?_)
    | (refine xaa _ _ rfl (.inl ⟨by rfl,fun W hS=>by have z:W.cell? ⟨p,0,none⟩ = some (.slice ao n c):=hS.1.cell 0;go_simp;try with_reducible rfl⟩) ?_)
   try simp only [qp,qa,qb,qc]
  iterate 1
   first
    | (refine xad _ rfl (by rfl) ?_)
    | (refine xaa _ _ rfl (.inl ⟨by rfl,fun W hS=>by clear hS;go_simp;try with_reducible rfl⟩) ?_)
   try simp only [qp,qa,qb,qc]
  refine xaa _ (.int .i64 (k:Nat)) rfl (.inl ⟨by rfl,fun W hS=>by go_simp⟩) ?_
  try simp only [qp,qa,qb,qc]
  iterate 2
   first
    | (refine xad _ rfl (by rfl) ?_)
    | (refine xaa _ _ rfl (.inl ⟨by rfl,fun W hS=>by clear hS;go_simp;try with_reducible rfl⟩) ?_)
   try simp only [qp,qa,qb,qc]
  refine xbf ?_
  go_wp2
  go_ret
  exact ⟨rfl,hb.out⟩
 ·have e0:n < k:=by omega
  have h1:(n:Int) ≤ (c:Int):=by omega
  have e2:min k n = n:=by omega
  rw [e2]
  clear e2
  go_enter Tryz.func137,Tryz.ntmps137
  go_wp2_with fail
  refine xas (fun W=>Has W p 119 #[.slice ao n c] ∧ Below w.heap.size w W) (Plan.of [(0,true),(1,true),(2,true),(3,true),(4,true),(5,true),(6,true),(7,true),(8,true),(9,true),(10,true),(11,true),(12,true)] .done) (by kernel_rfl) (by kernel_rfl) (by kernel_rfl) (by kernel_rfl) ⟨hp.drew,hb.out⟩ ?_
  iterate 3
   first
    | (refine xad _ rfl (by rfl) ?_)
    | (refine xaa _ _ rfl (.inl ⟨by rfl,fun W hS=>by clear hS;go_simp;try with_reducible rfl⟩) ?_)
   try simp only [qp,qa,qb,qc]
  iterate 1
   first
    | (refine xad _ rfl (by rfl) ?_)
    | (refine xaa _ _ rfl (.inl ⟨by rfl,fun W hS=>by have z:W.cell? ⟨p,0,none⟩ = some (.slice ao n c):=hS.1.cell 0;go_simp;try with_reducible rfl⟩) ?_)
   try simp only [qp,qa,qb,qc]
  iterate 4
   first
    | (refine xad _ rfl (by rfl) ?_)
    | (refine xaa _ _ rfl (.inl ⟨by rfl,fun W hS=>by clear hS;go_simp;try with_reducible rfl⟩) ?_)
   try simp only [qp,qa,qb,qc]
  iterate 1
   first
    | (refine xad _ rfl (by rfl) ?_)
    | (refine xaa _ _ rfl (.inl ⟨by rfl,fun W hS=>by have z:W.cell? ⟨p,0,none⟩ = some (.slice ao n c):=hS.1.cell 0;go_simp;try with_reducible rfl⟩) ?_)
   try simp only [qp,qa,qb,qc]
  iterate 1
   first
    | (refine xad _ rfl (by rfl) ?_)
    | (refine xaa _ _ rfl (.inl ⟨by rfl,fun W hS=>by clear hS;go_simp;try with_reducible rfl⟩) ?_)
   try simp only [qp,qa,qb,qc]
  refine xaa _ (.int .i64 (n:Nat)) rfl (.inl ⟨by rfl,fun W hS=>by go_simp⟩) ?_
  try simp only [qp,qa,qb,qc]
  iterate 2
   first
    | (refine xad _ rfl (by rfl) ?_)
    | (refine xaa _ _ rfl (.inl ⟨by rfl,fun W hS=>by clear hS;go_simp;try with_reducible rfl⟩) ?_)
   try simp only [qp,qa,qb,qc]
  refine xbf ?_
  go_wp2
  go_ret
  exact ⟨rfl,hb.out⟩
theorem pass_ok (p n c k:Nat) (ao:Option Addr) (w:World) (hp:Has w p 119 #[.slice ao n c]) (hk:k ≤ n) (hn:n ≤ c) (hc:c ≤ 9223372036854775807) :
  Calls Tryz.prog 138 #[.pointer (some ⟨p,0,none⟩),.int .i64 (k:Nat),.int .i64 0] w fun e w'=>e = .returned (.tuple #[]) ∧ w' = w.setCell ⟨p,0,none⟩ (.slice (xay ao c k) (n - k) (c - k)):=by
 have hcell:w.cell? ⟨p,0,none⟩ = some (.slice ao n c):=hp.cell 0
 have hz:w.frozen? ⟨p,0,none⟩ = false:=hp.free 0
 by_cases h:c = k
 ·subst h
  go_enter Tryz.func138,Tryz.ntmps138
  go_wp2_with fail
  refine (xhf 0 _).mono ?_
  rintro en w' ⟨rfl,rfl⟩
  go_wp2
  have e1:xay ao c c = ao:=by simp [xay]
  have e2:n - c = 0:=by omega
  rw [e1,e2,Nat.sub_self]
  go_end0
  exact ⟨rfl,rfl⟩
 ·have e:xay ao c k = ao.map (·.add k):=by simp [xay,h]
  rw [e];clear e
  go_enter Tryz.func138,Tryz.ntmps138
  go_wp2_with fail
  refine (xhf 0 _).mono ?_
  rintro en w' ⟨rfl,rfl⟩
  go_wp2
  go_end0
  exact ⟨rfl,rfl⟩
theorem pass_no (p k:Nat) (e:Int) (w:World) (he:e ≠ 0) :
  Calls Tryz.prog 138 #[.pointer (some ⟨p,0,none⟩),.int .i64 (k:Nat),.int .i64 e] w fun en w'=>en = .panicked [{ v:=.iface 52 (.int .i64 e),recovered:=false }] ∧ w' = w:=by
 have he':(e == 0) = false:=by simpa using he
 go_enter Tryz.func138,Tryz.ntmps138
 go_wp2_with fail
 refine (must_no e _).mono ?_
 rintro en w' ⟨rfl,rfl⟩
 go_wp2
 first | exact ⟨rfl,rfl⟩ | exact ⟨rfl,rfl,rfl⟩
end Go.Proofs.YtecilienolabfaaGreatDoor
/- GetFace: The getter's methods as a coder's. -/
namespace Go.Proofs.YtecilienolabfaaGreatDoor
set_option linter.unusedSimpArgs false
set_option linter.unusedVariables false
set_option maxRecDepth 100000
open Go.RowKit
def GetI (p:Nat) (X:Nat → Prop):Inv:=fun w s F=>∃ ao c,Has w p 119 #[.slice ao s.length c] ∧ By w ao c s ∧ (∀ ad,ao = some ad → X ad.block) ∧ (∀ k,F k ↔ k = p) ∧ ¬ X p ∧ (∀ k,X k → k < w.heap.size) ∧ s.length ≤ 1000000000
theorem By.at {w w':World} {ao:Option Addr} {c:Nat} {s:List UInt8} (h:By w ao c s) (hk:∀ ad,ao = some ad → 0 < s.length → w'.heap[ad.block]? = w.heap[ad.block]?):By w' ao c s:=by
 refine ⟨h.le,h.cap,h.nil,fun ad had j u hu=>?_⟩
 have hj:j < s.length:=by have:=(List.getElem?_eq_some_iff.1 hu).1;rwa [xdx] at this
 have e:(ad.add j).block = ad.block:=by unfold Addr.add;split <;> rfl
 rw [World.cell?_of_block (w:=w) (by rw [e];exact hk ad had (by omega))]
 exact h.at' ad had j u hu
theorem get_kept (p:Nat) (X:Nat → Prop) (w w':World) (s:List UInt8) (F:Nat → Prop) (h:GetI p X w s F) (hw:w.heap.size ≤ w'.heap.size) (hk:∀ k,k < w.heap.size → F k ∨ X k → w'.heap[k]? = w.heap[k]?):GetI p X w' s F:=by
 obtain ⟨ao,c,hp,hB,hX,hF,hn,hl,hL⟩:=h
 refine ⟨ao,c,?_,hB.at (fun ad had _=>hk _ (hl _ (hX ad had)) (.inr (hX ad had))),hX,hF,hn,fun k q=>Nat.lt_of_lt_of_le (hl k q) hw,hL⟩
 have:=hk p hp.lt (.inl ((hF p).2 rfl))
 unfold Has at *
 rw [this]
 exact hp
theorem get_lt (p:Nat) (X:Nat → Prop) (w:World) (s:List UInt8) (F:Nat → Prop) (h:GetI p X w s F) (k:Nat) (hk:F k ∨ X k):k < w.heap.size:=by
 obtain ⟨ao,c,hp,hB,hX,hF,hn,hl,hL⟩:=h
 rcases hk with q | q
 ·rw [(hF k).1 q];exact hp.lt
 ·exact hl k q
theorem getN_pow (l:List UInt8):getN l < 256 ^ l.length:=by
 by_cases h:l.length ≤ 8
 ·exact getN_bd l _ rfl h
 ·have h1:(256:Nat) ^ 8 ≤ 256 ^ l.length:=Nat.pow_le_pow_right (by decide) (by omega)
  have h2:=getN_lt l
  have h3:(256:Nat) ^ 8 = 18446744073709551616:=by decide
  omega
theorem get_len (n k:Nat) (s:List UInt8) (m:Nat) (t:List UInt8) (h:GetC.num n k s = .ok (m,t)):m = n ∨ m < 256 ^ k:=by
 obtain ⟨h1,rfl,rfl⟩:=get_num.1 h
 have e:(s.take k).length = k:=by rw [List.length_take];omega
 have:=getN_pow (s.take k)
 rw [e] at this
 exact .inr this
theorem get_big {n k y:Nat} {s t:List UInt8} (h:GetC.num n k s = .ok (y,t)) (hn:n < 18446744073709551616):y < 18446744073709551616:=by
 obtain ⟨h1,rfl,rfl⟩:=get_num.1 h
 exact getN_lt _
theorem get_yes (ao:Option Addr) (n c k:Nat) (s:List UInt8) (w:World) (h:By w ao c s) (hn:n = s.length) (hl:n ≤ 1000000000) (hk:k ≤ n) (h8:k ≤ 8):Calls Tryz.prog 136 #[.slice ao n c,.int .i64 (k:Nat)] w fun e w'=>∃ V,e = .returned (.tuple #[.int .u64 (getN (s.take k):Int),V,.int .i64 0]) ∧ Below w.heap.size w w':=by
 have hh:heldI (k:Int) = k:=by unfold heldI;split <;> (try split) <;> omega
 refine (get_ok ao n c s k w h hn (by omega) (by omega)).mono ?_
 rintro e w' ⟨g,c',rfl,_,hb⟩
 rw [hh,Int.toNat_natCast]
 exact ⟨_,rfl,hb⟩
theorem get_no (ao:Option Addr) (n c k:Nat) (s:List UInt8) (w:World) (h:By w ao c s) (hn:n = s.length) (hl:n ≤ 1000000000) (hk:n < k) (h8:k ≤ 8):Calls Tryz.prog 136 #[.slice ao n c,.int .i64 (k:Nat)] w fun e w'=>∃ V,e = .returned (.tuple #[.int .u64 0,V,.int .i64 11]) ∧ Below w.heap.size w w':=by
 have hh:heldI (k:Int) = k:=by unfold heldI;split <;> (try split) <;> omega
 refine (get_short ao n c s k w h hn (by omega) (by omega)).mono ?_
 rintro e w' ⟨g,c',rfl,_,hb⟩
 exact ⟨_,rfl,hb⟩
theorem get_past {p:Nat} {X F:Nat → Prop} {w w2:World} {s:List UInt8} {ao:Option Addr} {c k:Nat} (hp:Has w p 119 #[.slice ao s.length c]) (hB:By w ao c s) (hX:∀ ad,ao = some ad → X ad.block) (hF:∀ k,F k ↔ k = p) (hn:¬ X p) (hl:∀ k,X k → k < w.heap.size) (hL:s.length ≤ 1000000000) (hq:Below w.heap.size w w2) (hk:k ≤ s.length) :
  GetI p X (w2.setCell ⟨p,0,none⟩ (.slice (xay ao c k) (s.length - k) (c - k))) (s.drop k) F ∧ Stp F F w (w2.setCell ⟨p,0,none⟩ (.slice (xay ao c k) (s.length - k) (c - k))):=by
 have hp2:=(hp.later hq).set 0 (.slice (xay ao c k) (s.length - k) (c - k))
 have hXr:∀ ad,xay ao c k = some ad → X ad.block:=fun ad had=>by
  obtain ⟨ad',h1,h2⟩:=xgv had
  rw [← h2]
  exact hX ad' h1
 refine ⟨⟨xay ao c k,c - k,?_,((hB.later hq).rest hk).kept (fun ad had _ e=>hn (by have:=hXr ad had;rw [e] at this;exact this)) _,hXr,hF,hn,fun k q=>?_,by rw [List.length_drop];omega⟩,?_,fun k h=>.inl h,fun i t v _ q=>by
  by_cases e:i = p
  ·subst e;exact ⟨_,(q.later hq).set 0 _⟩
  ·exact ⟨v,(q.later hq).set_other e _⟩⟩
 ·rw [List.length_drop];exact hp2
 ·have:=hl k q
  have h2:(w2.setCell ⟨p,0,none⟩ (.slice (xay ao c k) (s.length - k) (c - k))).heap.size = w2.heap.size:=by simp
  have:=hq.size
  simp only [World.setCell,Array.size_modify]
  omega
 ·refine ⟨(show w2.os = w.os from hq.os),(show w2.tape = w.tape from hq.tape),(show w2.output = w.output from hq.output),by simp only [World.setCell,Array.size_modify];exact hq.size,fun k hk hn=>?_⟩
  rw [heap_setCell_other _ _ _ _ (fun e=>hn ((hF k).2 e)),hq.block k hk]
set_option maxHeartbeats 1000000 in
theorem xhj (p:Nat) (X:Nat → Prop) (n k:Nat) (w:World) (s:List UInt8) (F:Nat → Prop) (hI:GetI p X w s F) (hn:n < 18446744073709551616) (hk:k ≤ 8) (hne:Bare False (GetC.num n k s)) :
  Calls Tryz.prog 122 #[.pointer (some ⟨p,0,none⟩),.int .u64 (n:Nat),.int .i64 (k:Nat)] w (Ends (GetI p X) F w (GetC.num n k s) fun m=>.int .u64 (m:Nat)):=by
 obtain ⟨ao,c,hp,hB,hX,hF,hnX,hl,hL⟩:=hI
 have hle:=hB.le
 have hcap:=hB.cap
 have hnx:=next_any p s.length c k ao w hp hle hcap (by omega)
 replace hX:Hid _:=hX
 replace hF:Hid _:=hF
 replace hl:Hid _:=hl
 by_cases h:k ≤ s.length
 ·have e1:min k s.length = k:=by omega
  rw [e1] at hnx
  have hM:Hid (GetC.num n k s = .ok (getN (s.take k),s.drop k)):=get_num.2 ⟨h,rfl,rfl⟩
  clear e1
  replace hnx:Hid _:=hnx
  go_enter Tryz.func122,Tryz.ntmps122
  go_wp2_with fail
  refine Calls.mono hnx.out ?_
  rintro e w1 ⟨rfl,hq⟩
  clear hnx
  go_wp2_with fail
  refine (get_yes ao k c k (s.take k) w1 ((hB.later hq).first k) (by rw [List.length_take];omega) (by omega) (Nat.le_refl _) hk).mono ?_
  rintro e w2 ⟨V,rfl,hq2⟩
  rw [List.take_take,Nat.min_self]
  have hq3:=hq.trans (hq2.mono hq.size)
  clear hq hq2
  go_wp2_with fail
  refine (pass_ok p s.length c k ao w2 (hp.later hq3) h hle hcap).mono ?_
  rintro e w3 ⟨rfl,rfl⟩
  obtain ⟨hI',hs'⟩:=get_past hp hB hX.out hF.out hnX hl.out hL hq3 h
  replace hI':Hid _:=hI'
  replace hs':Hid _:=hs'
  go_wp2
  go_ret
  exact xda hM.out rfl hI'.out hs'.out
 ·have e1:min k s.length = s.length:=by omega
  rw [e1] at hnx
  have hM:Hid (GetC.num n k s = .error 11):=by
   show (if s.length < k then _ else _) = _
   rw [if_pos (by omega)]
  clear e1
  replace hnx:Hid _:=hnx
  go_enter Tryz.func122,Tryz.ntmps122
  go_wp2_with fail
  refine Calls.mono hnx.out ?_
  rintro e w1 ⟨rfl,hq⟩
  clear hnx
  go_wp2_with fail
  refine (get_no ao s.length c k s w1 (hB.later hq) rfl hL (by omega) hk).mono ?_
  rintro e w2 ⟨V,rfl,hq2⟩
  have hq3:=hq.trans (hq2.mono hq.size)
  clear hq hq2
  go_wp2_with fail
  refine (pass_no p k 11 w2 (by decide)).mono ?_
  rintro e w3 ⟨rfl,rfl⟩
  go_wp2
  exact ⟨rfl,xck hM.out rfl ⟨_,Stp.of hq3⟩⟩
theorem lenN_first (s:List UInt8) (m:Nat):lenN (s.take (2 + m)) = lenN s:=by
 unfold lenN
 rw [List.take_take]
 congr 2
 omega
theorem textErr_first (s:List UInt8) (m:Nat):xbt (s.take (2 + m)) (m:Int) = xbt s (m:Int):=by
 unfold xbt
 rw [lenN_first,List.length_take]
 by_cases h1:s.length < 2
 ·rw [if_pos h1,if_pos (by omega)]
 ·rw [if_neg h1,if_neg (by omega)]
  by_cases h2:(m:Int) < (lenN s:Int)
  ·rw [if_pos h2,if_pos h2]
  ·rw [if_neg h2,if_neg h2]
   by_cases h3:s.length < lenN s + 2
   ·rw [if_pos h3,if_pos (by omega)]
   ·rw [if_neg h3,if_neg (by omega)]
theorem txtOf_first {s:List UInt8} {m:Nat} (h:xbt s (m:Int) = 0):(.string (txtOf (s.take (2 + m))):Value) = strV ((s.drop 2).take (lenN s)):=by
 have hl:lenN s ≤ m:=by
  unfold xbt at h
  split at h
  ·cases h
  ·split at h
   ·cases h
   ·omega
 unfold txtOf strV mkS
 rw [lenN_first,List.drop_take,List.take_take]
 congr 4
 omega
theorem text_room {s:List UInt8} {m:Nat} (h:xbt s (m:Int) = 0):2 + lenN s ≤ s.length ∧ lenN s ≤ m:=by
 unfold xbt at h
 split at h
 ·cases h
 ·split at h
  ·cases h
  ·split at h
   ·cases h
   ·omega
theorem text_cases (s:List UInt8) (m:Nat):xbt s (m:Int) = 0 ∨ ∃ x:Nat,xbt s (m:Int) = (x:Int) ∧ x ≠ 0:=by
 unfold xbt
 split
 ·exact .inr ⟨11,rfl,by decide⟩
 ·split
  ·exact .inr ⟨13,rfl,by decide⟩
  ·split
   ·exact .inr ⟨11,rfl,by decide⟩
   ·exact .inl rfl
theorem gett_yes (ao:Option Addr) (n c:Nat) (s:List UInt8) (m:Nat) (w:World) (h:By w ao c s) (hn:n = min (2 + m) s.length) (hl:s.length ≤ 1000000000) (he:xbt s (m:Int) = 0):Calls Tryz.prog 167 #[.slice ao n c,.int .i64 (m:Nat)] w fun e w'=>∃ V,e = .returned (.tuple #[.string (mkS ((s.drop 2).take (lenN s))),V,.int .i64 0]) ∧ Below w.heap.size w w':=by
 refine (gettext_ok ao n c (s.take (2 + m)) (m:Int) w (h.first _) (by rw [List.length_take];exact hn) (by omega) ((textErr_first s m).trans he)).mono ?_
 rintro e w' ⟨g,c',rfl,_,hb⟩
 rw [txtOf_first he]
 exact ⟨_,rfl,hb⟩
theorem gett_no (ao:Option Addr) (n c:Nat) (s:List UInt8) (m x:Nat) (w:World) (h:By w ao c s) (hn:n = min (2 + m) s.length) (hl:s.length ≤ 1000000000) (he:xbt s (m:Int) = (x:Int)) (hx:x ≠ 0):Calls Tryz.prog 167 #[.slice ao n c,.int .i64 (m:Nat)] w fun e w'=>∃ V,e = .returned (.tuple #[.string (mkS []),V,.int .i64 (x:Nat)]) ∧ Below w.heap.size w w':=by
 have he':=(textErr_first s m).trans he
 refine (gettext_err ao n c (s.take (2 + m)) (m:Int) w (h.first _) (by rw [List.length_take];exact hn) (by omega) (by rw [he'];omega)).mono ?_
 rintro e w' ⟨g,c',rfl,_,hb⟩
 rw [he']
 exact ⟨_,rfl,hb⟩
set_option maxHeartbeats 1000000 in
theorem gettxt_ends (p:Nat) (X:Nat → Prop) (t:List UInt8) (most:Nat) (w:World) (s:List UInt8) (F:Nat → Prop) (hI:GetI p X w s F) (ht:t.length ≤ 80) (hm:most ≤ 80) (hne:Bare False (GetC.txt t most s)) :
  Calls Tryz.prog 166 #[.pointer (some ⟨p,0,none⟩),strV t,.int .i64 (most:Nat)] w (Ends (GetI p X) F w (GetC.txt t most s) strV):=by
 obtain ⟨ao,c,hp,hB,hX,hF,hnX,hl,hL⟩:=hI
 have hle:=hB.le
 have hcap:=hB.cap
 have hnx:=next_any p s.length c (2 + most) ao w hp hle hcap (by omega)
 have hcast:((2 + most:Nat):Int) = 2 + (most:Int):=by omega
 rw [hcast] at hnx
 clear hcast
 replace hX:Hid _:=hX
 replace hF:Hid _:=hF
 replace hl:Hid _:=hl
 obtain ⟨n,hn⟩:∃ n,n = min (2 + most) s.length:=⟨_,rfl⟩
 rw [← hn] at hnx
 replace hn:Hid _:=hn
 replace hnx:Hid _:=hnx
 rcases text_cases s most with h | ⟨x,h,hx⟩
 ·have hM:Hid (GetC.txt t most s = .ok ((s.drop 2).take (lenN s),s.drop (2 + lenN s))):=by
   show (if xbt s (most:Int) = 0 then _ else _) = _
   rw [if_pos h]
  obtain ⟨hr1,hr2⟩:=text_room h
  have hlen:Hid (((s.drop 2).take (lenN s)).length = lenN s):=by
   show _ = _
   rw [List.length_take,List.length_drop];omega
  replace h:Hid _:=h
  go_enter Tryz.func166,Tryz.ntmps166
  go_wp2_with fail
  refine Calls.mono hnx.out ?_
  rintro e w1 ⟨rfl,hq⟩
  clear hnx
  go_wp2_with fail
  refine (gett_yes ao n c s most w1 (hB.later hq) hn.out hL h.out).mono ?_
  rintro e w2 ⟨V,rfl,hq2⟩
  have hq3:=hq.trans (hq2.mono hq.size)
  clear hq hq2
  generalize (s.drop 2).take (lenN s) = T at *
  have hs:(mkS T).size = lenN s:=(xde T).trans hlen.out
  go_wp2_with fail
  have hpp:=pass_ok p s.length c (2 + lenN s) ao w2 (hp.later hq3) hr1 hle hcap
  rw [show ((2 + lenN s:Nat):Int) = 2 + (lenN s:Int) by omega] at hpp
  refine hpp.mono ?_
  rintro e w3 ⟨rfl,rfl⟩
  obtain ⟨hI',hs'⟩:=get_past hp hB hX.out hF.out hnX hl.out hL hq3 hr1
  replace hI':Hid _:=hI'
  replace hs':Hid _:=hs'
  go_wp2
  go_ret
  exact xda hM.out rfl hI'.out hs'.out
 ·have hM:Hid (GetC.txt t most s = .error x):=by
   show (if xbt s (most:Int) = 0 then _ else _) = _
   rw [if_neg (by rw [h];omega),h,Int.toNat_natCast]
  replace h:Hid _:=h
  go_enter Tryz.func166,Tryz.ntmps166
  go_wp2_with fail
  refine Calls.mono hnx.out ?_
  rintro e w1 ⟨rfl,hq⟩
  clear hnx
  go_wp2_with fail
  refine (gett_no ao n c s most x w1 (hB.later hq) hn.out hL h.out hx).mono ?_
  rintro e w2 ⟨V,rfl,hq2⟩
  have hq3:=hq.trans (hq2.mono hq.size)
  clear hq hq2
  have hs:(mkS []).size = 0:=xde []
  have hpn:Calls Tryz.prog 138 #[.pointer (some ⟨p,0,none⟩),.int .i64 2,.int .i64 (x:Nat)] w2 _:=pass_no p 2 (x:Int) w2 (by omega)
  go_wp2_with fail
  refine hpn.mono ?_
  rintro e w3 ⟨rfl,rfl⟩
  go_wp2
  exact ⟨rfl,xck hM.out rfl ⟨_,Stp.of hq3⟩⟩
end Go.Proofs.YtecilienolabfaaGreatDoor
/- PutLim: Who puts up to a million bytes puts as who puts whatever, where what comes of it is no longer. Nothing of the program is in it but the name of who puts. -/
namespace Go.Proofs.YtecilienolabfaaGreatDoor
set_option linter.unusedSimpArgs false
set_option linter.unusedVariables false
set_option maxRecDepth 100000
open Go.RowKit
def Lim {α:Type} (m m':Wk α):Prop:=∀ s y t,m s = .ok (y,t) → s.length ≤ t.length ∧ (t.length ≤ 1000000 → m' s = .ok (y,t))
theorem xaz {α β:Type} {m m':Wk α} {f f':α → Wk β} (h:Lim m m') (hf:∀ x,Lim (f x) (f' x)):Lim (m.bind f) (m'.bind f'):=fun s y t e=>by
 obtain ⟨x,r,h1,h2⟩:=xaw.1 e
 obtain ⟨a1,a2⟩:=h s x r h1
 obtain ⟨b1,b2⟩:=hf x r y t h2
 refine ⟨Nat.le_trans a1 b1,fun ht=>?_⟩
 rw [xag (a2 (Nat.le_trans b1 ht))]
 exact b2 ht
theorem xds {α:Type} (x:α):Lim (.ret x) (.ret x):=fun s y t e=>by
 obtain ⟨rfl,rfl⟩:=ret_ok.1 e
 exact ⟨Nat.le_refl _,fun _=>rfl⟩
theorem lim_err {α:Type} (n:Nat):Lim (.err n:Wk α) (.err n):=fun s y t e=>by cases e
theorem lim_ite {α:Type} {c:Prop} [Decidable c] {m n m' n':Wk α} (h:Lim m m') (k:Lim n n'):Lim (if c then m else n) (if c then m' else n'):=by
 split
 ·exact h
 ·exact k
theorem lim_num (n k:Nat):Lim (PutC.num n k) (PutL.num n k):=fun s y t e=>by
 rw [put_num] at e
 injection e with e
 injection e with e1 e2
 subst e1 e2
 rw [List.length_append,xal]
 refine ⟨by omega,fun h=>?_⟩
 show (if s.length + k ≤ 1000000 then _ else _) = _
 rw [if_pos h]
theorem lim_txt (x:List UInt8) (k:Nat):Lim (PutC.txt x k) (PutL.txt x k):=fun s y t e=>by
 rw [put_txt] at e
 injection e with e
 injection e with e1 e2
 subst e1 e2
 rw [List.length_append,xdg]
 refine ⟨by omega,fun h=>?_⟩
 show (if s.length + (x.length + 2) ≤ 1000000 then _ else _) = _
 rw [if_pos h]
theorem xfb (n:Nat):Lim (oneM PutC n) (oneM PutL n):=xaz (lim_num _ _) fun _=>xds _
theorem xfc (n:Nat):Lim (fourM PutC n) (fourM PutL n):=xaz (lim_num _ _) fun _=>xds _
theorem lim_small (n:Int):Lim (smallM PutC n) (smallM PutL n):=xaz (lim_num _ _) fun _=>xds _
theorem lim_data (x:List UInt8):Lim (dataM PutC x) (dataM PutL x):=lim_txt _ _
theorem lim_flag (x:Bool):Lim (flagM PutC x) (flagM PutL x):=xaz (xfb _) fun _=>lim_ite (xds _) (lim_ite (xds _) (lim_err _))
theorem lim_bal (x:BalV):Lim (balM PutC x) (balM PutL x):=xaz (xfc _) fun _=>xaz (xfb _) fun _=>xds _
theorem lim_inc (x:IncV):Lim (incM PutC x) (incM PutL x):=xaz (xfb _) fun _=>xaz (xfb _) fun _=>xaz (lim_small _) fun _=>xds _
theorem lim_op (x:OpV):Lim (opM PutC x) (opM PutL x):=xaz (xfb _) fun _=>xaz (xfc _) fun _=>xaz (xfb _) fun _=>xaz (xfb _) fun _=>xaz (xfb _) fun _=>xaz (lim_data _) fun _=>xds _
theorem lim_res (x:ResV):Lim (resM PutC x) (resM PutL x):=xaz (xfb _) fun _=>xaz (lim_txt _ _) fun _=>xds _
theorem lim_ent (x:EntV):Lim (entM PutC x) (entM PutL x):=xaz (xfc _) fun _=>xaz (xfc _) fun _=>xaz (lim_op _) fun _=>xds _
theorem lim_ents:∀ l:List EntV,Lim (entsM PutC l) (entsM PutL l)
 | []=>xds _
 | e :: l=>xaz (lim_ent e) fun _=>xaz (lim_ents l) fun _=>xds _
theorem lim_log (l:List EntV):Lim (logM PutC l) (logM PutL l):=xaz (lim_small _) fun _=>lim_ite (lim_err _) (lim_ents _)
theorem lim_tl (x:EntV):Lim (tlM PutC x) (tlM PutL x):=xaz (xfc _) fun _=>xaz (xfc _) fun _=>xds _
theorem lim_lst (x:LastV):Lim (lstM PutC x) (lstM PutL x):=xaz (xfc _) fun _=>xaz (xfb _) fun _=>xds _
theorem lim_ob (x:ObjV):Lim (obM PutC x) (obM PutL x):=xaz (lim_flag _) fun _=>xaz (lim_data _) fun _=>xaz (lim_data _) fun _=>xaz (lim_data _) fun _=>xaz (lim_data _) fun _=>xds _
theorem lim_bs (x:BaseV):Lim (bsM PutC x) (bsM PutL x):=xaz (lim_ob _) fun _=>xaz (lim_ob _) fun _=>xaz (lim_ob _) fun _=>xaz (lim_ob _) fun _=>xaz (lim_ob _) fun _=>xaz (lim_ob _) fun _=>xaz (lim_lst _) fun _=>xaz (lim_lst _) fun _=>xaz (lim_lst _) fun _=>xds _
theorem lim_stat (x:StV):Lim (statM PutC x) (statM PutL x):=xaz (xfc _) fun _=>xaz (lim_tl _) fun _=>xaz (lim_bs _) fun _=>xaz (lim_log _) fun _=>xds _
theorem lim_dif (x:DiffV):Lim (difM PutC x) (difM PutL x):=xaz (lim_small _) fun _=>xaz (xfc _) fun _=>xaz (lim_log _) fun _=>xaz (lim_stat _) fun _=>xds _
theorem xfa {α:Type} (t:Bool) (z:α) {m m':Wk α} (h:Lim m m'):Lim (onlyIf t z m) (onlyIf t z m'):=lim_ite h (xds _)
theorem lim_msg (m:MsgV):Lim (msgM PutC m) (msgM PutL m) :=
 xaz (xfb _) fun _=>xaz (xfb _) fun _=>xaz (xfb _) fun _=>xaz (xfc _) fun _=>xaz (xfa _ _ (lim_bal _)) fun _=>xaz (xfa _ _ (lim_bal _)) fun _=>xaz (xfa _ _ (lim_flag _)) fun _ =>
 xaz (xfa _ _ (lim_inc _)) fun _=>xaz (xfa _ _ (xfb _)) fun _=>xaz (xfa _ _ (lim_stat _)) fun _=>xaz (xfa _ _ (lim_dif _)) fun _=>xaz (xfa _ _ (lim_ent _)) fun _ =>
 xaz (xfa _ _ (xfc _)) fun _=>xaz (xfa _ _ (lim_op _)) fun _=>xaz (xfa _ _ (lim_res _)) fun _=>xds _
theorem putL_msg {m:MsgV} {s:List UInt8} (h:msgM PutC m s = .ok (onlyM m,s ++ msgB m)) (hl:(s ++ msgB m).length ≤ 1000000):msgM PutL m s = .ok (onlyM m,s ++ msgB m):=(lim_msg m s _ _ h).2 hl
end Go.Proofs.YtecilienolabfaaGreatDoor
