/- The contract of wire.Is. -/
import Derived.Test.YtecilienolabfaaGreatDoorIsFacts
import Derived.Test.YtecilienolabfaaGreatDoorWireIs
import Derived.Test.YtecilienolabfaaGreatDoorCodePass
namespace Go.Proofs.YtecilienolabfaaGreatDoor
set_option linter.unusedSimpArgs false
set_option linter.unusedVariables false
set_option maxRecDepth 100000
open Go.RowKit
theorem ifN_p {α:Type} {p:α → Prop} {t:Bool} {z x:α} (hz:p z) (hx:p x):p (ifN t z x):=by
 unfold ifN
 cases t with
 | true=>exact hx
 | false=>exact hz
theorem bsN_in {b:BaseV} (h:BaseIn b):BaseIn (bsN b):=⟨h.seq,h.code,fun i=>by show ([]:List UInt8).length ≤ _;decide,h.data,h.a0,h.a1,h.a2⟩
theorem statN_ok {s:StV} (h:StOk s):StOk (statN s):=⟨h.started,bsN_in h.base,⟨h.tail.since,h.tail.n,op0_ok⟩,h.log,h.len⟩
theorem difN_ok {d:DiffV} (h:DiffOk d):DiffOk (difN d):=⟨h.kind1,h.kind2,h.fr,h.log,h.len,statN_ok h.whole⟩
theorem only_ok {m:MsgV} (h:MsgOk m):MsgOk (onlyM m) :=
 ⟨h.kind,h.src,h.dst,h.epoch,ifN_p xhn h.b,ifN_p xhn h.acc,ifN_p inc0_ok h.inc,ifN_p (p:=fun n=>n < 256) (by decide) h.group,ifN_p st0_fit (statN_ok h.st),ifN_p diff0_fit (difN_ok h.diff),ifN_p ent0_G.ok h.ent,ifN_p (p:=fun n=>n < 4294967296) (by decide) h.n,ifN_p op0_ok h.op,ifN_p (p:=ResIn) ⟨by decide,by decide⟩ h.r⟩
theorem LogIn.sl {R F':Nat → Prop} {w w':World} {ao:Option Addr} {c:Nat} {l:List EntV} (h:LogIn R F' w w' ao c l) (hn:l.length ≤ 1000000):Sl w' ao c 8 (entR l):=by
 rcases h with ⟨rfl,rfl,rfl⟩ | ⟨g,rfl,rfl,hg⟩
 ·exact Sl.nothing _ 8
 ·exact hg.has.ents hn
theorem wb_pass:Tryz.prog.built 103 [] = some #[]:=by kernel_rfl
theorem wb_walk (v:Value) (t:TypeId):Tryz.prog.built 82 [(0,.iface t v)] = some #[.iface t v]:=by kernel_rfl
set_option maxHeartbeats 8000000 in
theorem wis_any (m:MsgV) (a1 a2 a3:Option Addr) (c1 c2 c3:Nat) (w:World) (hm:MsgOk m) (sm:MsgSl w m a1 c1 a2 c2 a3 c3):Calls Tryz.prog 13 #[.agg (msgC m a1 c1 a2 c2 a3 c3)] w fun en w'=>en = .returned (.bool (isMsg m)) ∧ Below w.heap.size w w':=by
 obtain ⟨w1,hw1,hX,hb⟩:=xbr w 48 (msgC m a1 c1 a2 c2 a3 c3)
 have xk:=hX.mc_kind
 have hM:isMsg m = (goesM (shapeM m.kind) m && (fitsM (shapeM m.kind) m && xej m (onlyM m))):=rfl
 have hsh:=shape_ok m.kind
 go_enter Tryz.func13,Tryz.ntmps13
 go_wp2_with fail
 refine (shapeOf_any m.kind _ hm.kind).mono ?_
 rintro en w2 ⟨rfl,hq⟩
 have hW:Hid (∀ s,fitsM (shapeM m.kind) m = true → msgM PutC m s = .ok (onlyM m,s ++ msgB m)):=fun s h=>only_put hm h s
 have hPP:Hid (fitsM (shapeM m.kind) m = true → PartsW PutC (shapeM m.kind) m):=fun h=>parts_W hm h
 obtain ⟨sh,hsE⟩:∃ sh,shapeM m.kind = sh:=⟨_,rfl⟩
 have hP9:Hid (PartsW PutC sh m → ∀ (k:Nat) (t:List UInt8),oneM PutC m.kind [] = .ok (k,t) → PartsW PutC (shapeM k) m):=fun h k t hr=>by
  rw [xel hm.kind] at hr
  injection hr with hr
  injection hr with h1 h2
  rw [← h1,hsE]
  exact h
 rw [hsE] at hM hsh hW hPP ⊢
 clear hsE xk
 replace hX:=hX.later hq
 replace hb:=hb.trans (hq.mono hb.size)
 clear hq hw1
 obtain ⟨d1,k1⟩:∃ c,goesM sh m = c:=⟨_,rfl⟩
 obtain ⟨d2,k2⟩:∃ c,fitsM sh m = c:=⟨_,rfl⟩
 obtain ⟨d3,k3⟩:∃ c,xej m (onlyM m) = c:=⟨_,rfl⟩
 rw [k1,k2,k3] at hM
 replace hM:Hid _:=hM
 replace k1:Hid _:=k1
 replace k2:Hid _:=k2
 replace k3:Hid _:=k3
 obtain ⟨w3,hw3,hS,hq⟩:=xcm w2 100 (shC sh0) (shC sh)
 replace hX:=hX.later hq
 replace hb:=hb.trans (hq.mono hb.size)
 clear hq
 go_wp2_with (first
  | (refine xac (by rfl) 100 rfl (shC sh0) xdn ?_)
  | (refine xai (by rfl) 100 _ _ rfl w2.heap.size rfl (shC sh) rfl 100 (shC sh0) (xby _) rfl (sh_one _) ?hg w3 ?hW ?_;(case hg=>exact Has.new _ _ _);(case hW=>exact hw3);clear hw3))
 replace hX:=hX.drew
 replace hS:=hS.drew
 replace hb:=hb.drew
 refine xas (fun W=>Has W w.heap.size 48 (msgC m a1 c1 a2 c2 a3 c3) ∧ Has W w2.heap.size 100 (shC sh)) (Plan.of [(0,true),(1,true),(2,false),(3,true),(4,true),(5,true),(6,false),(7,true),(8,true),(9,true),(10,true),(11,true),(12,true),(13,true),(14,false),(15,false),(16,true),(17,true)] .done) (by kernel_rfl) (by kernel_rfl) (by kernel_rfl) (by kernel_rfl) ⟨hX,hS⟩ ?_
 generalize w3.drew = w3 at *
 refine xaa _ _ rfl (xan (by rfl) 100 _ rfl (w2.heap.size) rfl 100 (shC sh) _ Tryz.underlying100 rfl (xby sh) (fun W hS=>hS.2)) ?_
 try simp only [qp,qa,qb,qc]
 refine xaa _ _ rfl (xan (by rfl) 48 _ rfl (w.heap.size) rfl 48 (msgC m a1 c1 a2 c2 a3 c3) _ Tryz.underlying48 rfl (xah m a1 a2 a3 c1 c2 c3) (fun W hS=>hS.1)) ?_
 try simp only [qp,qa,qb,qc]
 refine xam _ rfl (fun K hK=>?_)
 go_simp
 refine (goes_any sh m a1 a2 a3 c1 c2 c3 _ hsh hm).mono ?_
 rintro en w4 ⟨rfl,hq⟩
 replace hX:=hX.later hq
 replace hS:=hS.later hq
 replace hb:=hb.trans (hq.mono hb.size)
 refine hK.out _ _ ⟨hX,hS⟩ ?_
 clear hK K hq
 rw [k1.out]
 try simp only [qp,qa,qb,qc]
 iterate 1
  first
   | (refine xad _ rfl (by rfl) ?_)
   | (refine xaa _ _ rfl (.inl ⟨by rfl,fun W hS=>by clear hS;go_simp;try with_reducible rfl⟩) ?_)
  try simp only [qp,qa,qb,qc]
 rcases (Bool.eq_false_or_eq_true d1).symm with hcc | hcc
 ·subst hcc
  iterate 2
   first
    | (refine xad _ rfl (by rfl) ?_)
    | (refine xaa _ _ rfl (.inl ⟨by rfl,fun W hS=>by clear hS;go_simp;try with_reducible rfl⟩) ?_)
   try simp only [qp,qa,qb,qc]
  refine xam _ rfl (fun K hK=>?_)
  go_simp
  refine hK.out _ _ ⟨hX,hS⟩ ?_
  clear hK K
  try simp only [qp,qa,qb,qc]
  iterate 7
   first
    | (refine xad _ rfl (by rfl) ?_)
    | (refine xaa _ _ rfl (.inl ⟨by rfl,fun W hS=>by clear hS;go_simp;try with_reducible rfl⟩) ?_)
   try simp only [qp,qa,qb,qc]
  refine xam _ rfl (fun K hK=>?_)
  go_simp
  refine hK.out _ _ ⟨hX,hS⟩ ?_
  clear hK K
  try simp only [qp,qa,qb,qc]
  refine xam _ rfl (fun K hK=>?_)
  go_simp
  refine hK.out _ _ ⟨hX,hS⟩ ?_
  clear hK K
  try simp only [qp,qa,qb,qc]
  iterate 2
   first
    | (refine xad _ rfl (by rfl) ?_)
    | (refine xaa _ _ rfl (.inl ⟨by rfl,fun W hS=>by clear hS;go_simp;try with_reducible rfl⟩) ?_)
   try simp only [qp,qa,qb,qc]
  refine xbf ?_
  go_wp2
  go_ret
  exact ⟨by rw [hM.out];try rfl,hb⟩
 subst hcc
 refine xaa _ _ rfl (xan (by rfl) 100 _ rfl (w2.heap.size) rfl 100 (shC sh) _ Tryz.underlying100 rfl (xby sh) (fun W hS=>hS.2)) ?_
 try simp only [qp,qa,qb,qc]
 refine xaa _ _ rfl (xan (by rfl) 48 _ rfl (w.heap.size) rfl 48 (msgC m a1 c1 a2 c2 a3 c3) _ Tryz.underlying48 rfl (xah m a1 a2 a3 c1 c2 c3) (fun W hS=>hS.1)) ?_
 try simp only [qp,qa,qb,qc]
 refine xam _ rfl (fun K hK=>?_)
 go_simp
 refine (fits_any sh m a1 a2 a3 c1 c2 c3 _ hsh hm (sm.later hb)).mono ?_
 rintro en w5 ⟨rfl,hq⟩
 replace hX:=hX.later hq
 replace hS:=hS.later hq
 replace hb:=hb.trans (hq.mono hb.size)
 refine hK.out _ _ ⟨hX,hS⟩ ?_
 clear hK K hq
 rw [k2.out]
 try simp only [qp,qa,qb,qc]
 iterate 2
  first
   | (refine xad _ rfl (by rfl) ?_)
   | (refine xaa _ _ rfl (.inl ⟨by rfl,fun W hS=>by clear hS;go_simp;try with_reducible rfl⟩) ?_)
  try simp only [qp,qa,qb,qc]
 rcases (Bool.eq_false_or_eq_true d2).symm with hcc | hcc
 ·subst hcc
  iterate 5
   first
    | (refine xad _ rfl (by rfl) ?_)
    | (refine xaa _ _ rfl (.inl ⟨by rfl,fun W hS=>by clear hS;go_simp;try with_reducible rfl⟩) ?_)
   try simp only [qp,qa,qb,qc]
  refine xam _ rfl (fun K hK=>?_)
  go_simp
  refine hK.out _ _ ⟨hX,hS⟩ ?_
  clear hK K
  try simp only [qp,qa,qb,qc]
  refine xam _ rfl (fun K hK=>?_)
  go_simp
  refine hK.out _ _ ⟨hX,hS⟩ ?_
  clear hK K
  try simp only [qp,qa,qb,qc]
  iterate 2
   first
    | (refine xad _ rfl (by rfl) ?_)
    | (refine xaa _ _ rfl (.inl ⟨by rfl,fun W hS=>by clear hS;go_simp;try with_reducible rfl⟩) ?_)
   try simp only [qp,qa,qb,qc]
  refine xbf ?_
  go_wp2
  go_ret
  exact ⟨by rw [hM.out];try rfl,hb⟩
 have hfit:Hid (fitsM sh m = true):=k2.out.trans hcc
 subst hcc
 refine xaa _ _ rfl (xan (by rfl) 48 _ rfl (w.heap.size) rfl 48 (msgC m a1 c1 a2 c2 a3 c3) _ Tryz.underlying48 rfl (xah m a1 a2 a3 c1 c2 c3) (fun W hS=>hS.1)) ?_
 try simp only [qp,qa,qb,qc]
 refine xaa _ _ rfl (xat (by rfl) 103 [] rfl [] rfl #[] wb_pass) ?_
 try simp only [qp,qa,qb,qc]
 iterate 1
  first
   | (refine xad _ rfl (by rfl) ?_)
   | (refine xaa _ _ rfl (.inl ⟨by rfl,fun W hS=>by clear hS;go_simp;try with_reducible rfl⟩) ?_)
  try simp only [qp,qa,qb,qc]
 refine xaa _ _ rfl (xat (by rfl) 82 _ rfl [(0,.iface 103 (.agg #[]))] rfl #[.iface 103 (.agg #[])] (wb_walk _ _)) ?_
 try simp only [qp,qa,qb,qc]
 refine xaa _ _ rfl (xan (by rfl) 48 _ rfl (w.heap.size) rfl 48 (msgC m a1 c1 a2 c2 a3 c3) _ Tryz.underlying48 rfl (xah m a1 a2 a3 c1 c2 c3) (fun W hS=>hS.1)) ?_
 try simp only [qp,qa,qb,qc]
 have sm5:=sm.later hb
 have nF:∀ (ao:Option Addr) (ad:Addr),ao = some ad → ad.block < w5.heap.size → ¬ (fun _:Nat=>False) ad.block:=fun _ _ _ _ h=>h
 have hcall:=wmsg_any pass_coder w5 [] (fun _=>False) m a1 a2 a3 c1 c2 c3 (fun _ h=>h) hm (hP9.out (hPP.out hfit.out)) (SlF.of sm5.st (nF _)) (SlF.of sm5.log (nF _)) (SlF.of sm5.whole (nF _)) Bare.no
 rw [hW.out [] hfit.out] at hcall
 refine xam _ rfl (fun K hK=>?_)
 go_simp
 refine hcall.mono ?_
 rintro en w6 ⟨F',b1,e1,b2,e2,b3,e3,rfl,l1,l2,l3,hI,hst⟩
 have hq:Below w5.heap.size w5 w6:=hst.off.below (fun _ h=>h.elim) (Nat.le_refl _)
 have hon:=only_ok hm
 have so:MsgSl w6 (onlyM m) b1 e1 b2 e2 b3 e3:=⟨l1.sl (by have:=hon.st.len;omega),l2.sl (by have:=hon.diff.len;omega),l3.sl (by have:=hon.diff.whole.len;omega)⟩
 replace hX:=hX.later hq
 replace hS:=hS.later hq
 replace hb:=hb.trans (hq.mono hb.size)
 refine hK.out _ _ ⟨hX,hS⟩ ?_
 clear hK K hcall hq hst hI l1 l2 l3 sm5
 try simp only [qp,qa,qb,qc]
 refine xam _ rfl (fun K hK=>?_)
 go_simp
 refine (wsame_any m (onlyM m) a1 a2 a3 b1 b2 b3 c1 c2 c3 e1 e2 e3 _ hm hon (sm.later hb) so).mono ?_
 rintro en w7 ⟨rfl,hq⟩
 replace hX:=hX.later hq
 replace hS:=hS.later hq
 replace hb:=hb.trans (hq.mono hb.size)
 refine hK.out _ _ ⟨hX,hS⟩ ?_
 clear hK K hq
 rw [k3.out]
 try simp only [qp,qa,qb,qc]
 iterate 2
  first
   | (refine xad _ rfl (by rfl) ?_)
   | (refine xaa _ _ rfl (.inl ⟨by rfl,fun W hS=>by clear hS;go_simp;try with_reducible rfl⟩) ?_)
  try simp only [qp,qa,qb,qc]
 refine xbf ?_
 go_wp2
 go_ret
 exact ⟨by rw [hM.out];try rfl,hb⟩
end Go.Proofs.YtecilienolabfaaGreatDoor
