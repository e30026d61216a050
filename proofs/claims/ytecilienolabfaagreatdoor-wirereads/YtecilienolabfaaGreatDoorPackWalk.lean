/- Several texts in one, in build order: WalkLow, WalkMid, WalkBase, WalkAll, WalkState. -/
import Derived.Test.YtecilienolabfaaGreatDoorCoder
import Derived.Test.YtecilienolabfaaGreatDoorPackBal
import Derived.Test.YtecilienolabfaaGreatDoorLogSame
import Derived.Test.YtecilienolabfaaGreatDoorEntRow
/- WalkLow: What goes through ballots, increments, operations, entries, by a coder. Written by tools/wgen.py. -/
namespace Go.Proofs.YtecilienolabfaaGreatDoor
set_option linter.unusedSimpArgs false
set_option linter.unusedVariables false
set_option maxRecDepth 100000
open Go.RowKit
theorem xav (cv:Value):(Tryz.prog.info? 82).map (·.size) = some (#[cv]:Array Value).size:=by show _ = some 1;kernel_rfl
theorem wz_inc:(Tryz.prog.info? 26).map (·.zero) = some (some (.agg (incC inc0))):=by kernel_rfl
theorem ws_inc (x:IncV):(Tryz.prog.info? 26).map (·.size) = some (incC x).size:=by show _ = some 3;kernel_rfl
theorem wo_inc (x:IncV):(incC x).all (·.oneCell') = true:=by
 unfold incC
 simp [Value.oneCell']
theorem wb_inc (a b:Nat) (c:Int):Tryz.prog.built 26 [(0,.int .u8 (a:Int)),(1,.int .u8 (b:Int)),(2,.int .i64 c)] = some (incC ⟨a,b,c⟩):=by kernel_rfl
theorem ws_op (x:OpV):(Tryz.prog.info? 39).map (·.size) = some (opC x).size:=by show _ = some 6;kernel_rfl
theorem wo_op (x:OpV):(opC x).all (·.oneCell') = true:=by
 unfold opC opL strV
 simp [Value.oneCell']
theorem wb_op (a b c d e:Nat) (t:List UInt8):Tryz.prog.built 39 [(0,.int .u8 (a:Int)),(1,.int .u32 (b:Int)),(2,.int .u8 (c:Int)),(3,.int .u8 (d:Int)),(4,.int .u8 (e:Int)),(5,strV t)] = some (opC ⟨a,b,c,d,e,t⟩):=by kernel_rfl
theorem wb_ent (a b:Nat) (o:OpV):Tryz.prog.built 41 [(0,.int .u32 (a:Int)),(1,.int .u32 (b:Int)),(2,.agg (opC o))] = some (entC ⟨a,b,o⟩):=by kernel_rfl
theorem wb_tail (a b:Nat):Tryz.prog.built 41 [(0,.int .u32 (a:Int)),(1,.int .u32 (b:Int))] = some (entC ⟨a,b,op0⟩):=by kernel_rfl
theorem wz_last:(Tryz.prog.info? 34).map (·.zero) = some (some (.agg (lastC last0))):=by kernel_rfl
theorem xfu (x:LastV):(Tryz.prog.info? 34).map (·.size) = some (lastC x).size:=by show _ = some 3;kernel_rfl
theorem wo_last (x:LastV):(lastC x).all (·.oneCell') = true:=by
 unfold lastC lastL resL strV
 simp [Value.oneCell']
theorem wb_res1 (a:Nat):Tryz.prog.built 32 [(0,.int .u8 (a:Int))] = some (resC ⟨a,[]⟩):=by kernel_rfl
theorem wb_last (a:Nat) (r:ResV):Tryz.prog.built 34 [(0,.int .u32 (a:Int)),(1,.agg (resC r))] = some (lastC ⟨a,r⟩):=by kernel_rfl
theorem ent_op_range {w:World} {g:Nat} {t:TypeId} {e:EntV} (h:Has w g t (entC e)):w.rangeAt g 2 (opL e.op):=h.range 2 _ fun j v hj=>by
 unfold entC entL
 rw [List.getElem?_toArray,show 2 + j = j + 1 + 1 by omega,List.getElem?_cons_succ,List.getElem?_cons_succ]
 exact hj
set_option maxHeartbeats 4000000 in
theorem ballot_any {B:Prop} {C:CodM} {cv:Value} {I:Inv} {R:Nat → Prop} (hC:Coder B C cv I R) (w:World) (s:List UInt8) (F:Nat → Prop) (x:BalV) (hI:I w s F) (hx:BalOk x) (hne:Bare B (balM C x s)):Calls Tryz.prog 68 #[.agg #[cv],.agg (balC x)] w (Ends I F w (balM C x s) fun m=>.agg (balC m)):=by
 have hM:Hid (balM C x s = ((fourM C x.n).bind fun n=>(oneM C x.who).bind fun k=>.ret ⟨n,k⟩) s):=rfl
 obtain ⟨W,hW,r⟩:=xdr hC hI 82 24 24 #[cv] (balC x) (balC bal0)
 go_enter Tryz.func68,Tryz.ntmps68
 go_wp2_with (first
  | (refine xac (by rfl) 24 rfl (balC bal0) bal_zero ?_;rw [hW];clear hW))
 have r0:=r.drew hC
 refine xcb (Held I R F w [(w.heap.size,82,#[cv]),(w.heap.size + 1,24,balC x)]) (Plan.of [(0,true),(1,true),(2,true),(4,true),(5,true),(6,true),(3,false),(7,false),(8,true),(9,false)] .done) (Thr F w (balM C x s)) (by kernel_rfl) (by kernel_rfl) (by kernel_rfl) (by kernel_rfl) r0.held2 (fun c a' w' h hd=>⟨hd,h.ends⟩) ?_
 refine xaa _ _ rfl (xan (by rfl) 82 _ rfl w.heap.size rfl 82 #[cv] _ Tryz.underlying82 rfl (xav cv) (fun W hS=>hS.get 0 rfl)) ?_
 try simp only [qp,qa,qb,qc]
 iterate 1
  first
   | (refine xad _ rfl (by rfl) ?_)
   | (refine xaa _ _ rfl (.inl ⟨by rfl,fun W hS=>by clear hS;go_simp;try with_reducible rfl⟩) ?_)
  try simp only [qp,qa,qb,qc]
 iterate 1
  first
   | (refine xad _ rfl (by rfl) ?_)
   | (refine xaa _ _ rfl (.inl ⟨by rfl,fun W hS=>by have z:=hS.cell 1 rfl 0 (v:=.int .u32 x.n) rfl;go_simp;try with_reducible rfl⟩) ?_)
  try simp only [qp,qa,qb,qc]
 refine xaa _ _ rfl (xan (by rfl) 82 _ rfl w.heap.size rfl 82 #[cv] _ Tryz.underlying82 rfl (xav cv) (fun W hS=>hS.get 0 rfl)) ?_
 try simp only [qp,qa,qb,qc]
 iterate 1
  first
   | (refine xad _ rfl (by rfl) ?_)
   | (refine xaa _ _ rfl (.inl ⟨by rfl,fun W hS=>by clear hS;go_simp;try with_reducible rfl⟩) ?_)
  try simp only [qp,qa,qb,qc]
 iterate 1
  first
   | (refine xad _ rfl (by rfl) ?_)
   | (refine xaa _ _ rfl (.inl ⟨by rfl,fun W hS=>by have z:=hS.cell 1 rfl 1 (v:=.int .u8 x.who) rfl;go_simp;try with_reducible rfl⟩) ?_)
  try simp only [qp,qa,qb,qc]
 refine xam _ rfl (fun K hK=>?_)
 go_simp
 refine (hC.four _ _ _ x.n r0.inv hx.n (hne.here hM.out)).mono ?_
 intro e w1 h1
 rcases h1.split with ⟨q,hr,rfl,G,hs⟩ | ⟨y1,s1,F1,hr,rfl,hI1,hs1⟩
 ·exact xbo (xbp (hM.out.trans (xau hr)) ⟨_,r0.stp.trans hs⟩) rfl
 replace hM:Hid _:=hM.out.trans (xag hr)
 have r1:=r0.call hC hI1 hs1
 refine hK.out _ _ r1.held2 ?_
 clear hK K hr h1 hs1
 try simp only [qp,qa,qb,qc]
 refine xam _ rfl (fun K hK=>?_)
 go_simp
 refine (hC.one _ _ _ x.who r1.inv hx.who (hne.here hM.out)).mono ?_
 intro e w2 h2
 rcases h2.split with ⟨q,hr,rfl,G,hs⟩ | ⟨y2,s2,F2,hr,rfl,hI2,hs2⟩
 ·exact xbo (xbp (hM.out.trans (xau hr)) ⟨_,r1.stp.trans hs⟩) rfl
 replace hM:Hid _:=hM.out.trans (xag hr)
 have r2:=r1.call hC hI2 hs2
 refine hK.out _ _ r2.held2 ?_
 clear hK K hr h2 hs2
 try simp only [qp,qa,qb,qc]
 refine xaa _ _ rfl (xat (by rfl) 24 _ rfl [(0,.int .u32 y1),(1,.int .u8 y2)] rfl (balC ⟨y1,y2⟩) (bal_built2 y1 y2)) ?_
 try simp only [qp,qa,qb,qc]
 have r9:=r2.third hC (balC ⟨y1,y2⟩)
 refine xbs _ rfl (by rfl) 24 _ _ rfl (w.heap.size + 1 + 1) rfl (balC ⟨y1,y2⟩) rfl 24 (balC bal0) (xbx _) rfl (xhm _) (r2.get 2 rfl) r9.held2 ?_
 try simp only [qp,qa,qb,qc]
 refine xcd ?_
 go_wp2
 refine xba rfl (w.heap.size + 1 + 1) rfl 24 (balC ⟨y1,y2⟩) _ Tryz.underlying24 rfl (xbx _) (r9.get 2 rfl) rfl (xda hM.out rfl r9.inv r9.stp)
set_option maxHeartbeats 4000000 in
theorem wincr_any {B:Prop} {C:CodM} {cv:Value} {I:Inv} {R:Nat → Prop} (hC:Coder B C cv I R) (w:World) (s:List UInt8) (F:Nat → Prop) (x:IncV) (hI:I w s F) (hx:IncOk x) (hne:Bare B (incM C x s)):Calls Tryz.prog 70 #[.agg #[cv],.agg (incC x)] w (Ends I F w (incM C x s) fun m=>.agg (incC m)):=by
 have hM:Hid (incM C x s = ((oneM C x.kind).bind fun k=>(oneM C x.osd).bind fun o=>(smallM C x.n).bind fun n=>.ret ⟨k,o,n⟩) s):=rfl
 obtain ⟨W,hW,r⟩:=xdr hC hI 82 26 26 #[cv] (incC x) (incC inc0)
 go_enter Tryz.func70,Tryz.ntmps70
 go_wp2_with (first
  | (refine xac (by rfl) 26 rfl (incC inc0) wz_inc ?_;rw [hW];clear hW))
 have r0:=r.drew hC
 refine xcb (Held I R F w [(w.heap.size,82,#[cv]),(w.heap.size + 1,26,incC x)]) (Plan.of [(0,true),(1,true),(2,true),(4,true),(5,true),(6,true),(8,true),(9,true),(10,true),(3,false),(7,false),(11,false),(12,true),(13,false)] .done) (Thr F w (incM C x s)) (by kernel_rfl) (by kernel_rfl) (by kernel_rfl) (by kernel_rfl) r0.held2 (fun c a' w' h hd=>⟨hd,h.ends⟩) ?_
 refine xaa _ _ rfl (xan (by rfl) 82 _ rfl w.heap.size rfl 82 #[cv] _ Tryz.underlying82 rfl (xav cv) (fun W hS=>hS.get 0 rfl)) ?_
 try simp only [qp,qa,qb,qc]
 iterate 1
  first
   | (refine xad _ rfl (by rfl) ?_)
   | (refine xaa _ _ rfl (.inl ⟨by rfl,fun W hS=>by clear hS;go_simp;try with_reducible rfl⟩) ?_)
  try simp only [qp,qa,qb,qc]
 iterate 1
  first
   | (refine xad _ rfl (by rfl) ?_)
   | (refine xaa _ _ rfl (.inl ⟨by rfl,fun W hS=>by have z:=hS.cell 1 rfl 0 (v:=.int .u8 x.kind) rfl;go_simp;try with_reducible rfl⟩) ?_)
  try simp only [qp,qa,qb,qc]
 refine xaa _ _ rfl (xan (by rfl) 82 _ rfl w.heap.size rfl 82 #[cv] _ Tryz.underlying82 rfl (xav cv) (fun W hS=>hS.get 0 rfl)) ?_
 try simp only [qp,qa,qb,qc]
 iterate 1
  first
   | (refine xad _ rfl (by rfl) ?_)
   | (refine xaa _ _ rfl (.inl ⟨by rfl,fun W hS=>by clear hS;go_simp;try with_reducible rfl⟩) ?_)
  try simp only [qp,qa,qb,qc]
 iterate 1
  first
   | (refine xad _ rfl (by rfl) ?_)
   | (refine xaa _ _ rfl (.inl ⟨by rfl,fun W hS=>by have z:=hS.cell 1 rfl 1 (v:=.int .u8 x.osd) rfl;go_simp;try with_reducible rfl⟩) ?_)
  try simp only [qp,qa,qb,qc]
 refine xaa _ _ rfl (xan (by rfl) 82 _ rfl w.heap.size rfl 82 #[cv] _ Tryz.underlying82 rfl (xav cv) (fun W hS=>hS.get 0 rfl)) ?_
 try simp only [qp,qa,qb,qc]
 iterate 1
  first
   | (refine xad _ rfl (by rfl) ?_)
   | (refine xaa _ _ rfl (.inl ⟨by rfl,fun W hS=>by clear hS;go_simp;try with_reducible rfl⟩) ?_)
  try simp only [qp,qa,qb,qc]
 iterate 1
  first
   | (refine xad _ rfl (by rfl) ?_)
   | (refine xaa _ _ rfl (.inl ⟨by rfl,fun W hS=>by have z:=hS.cell 1 rfl 2 (v:=.int .i64 x.n) rfl;go_simp;try with_reducible rfl⟩) ?_)
  try simp only [qp,qa,qb,qc]
 refine xam _ rfl (fun K hK=>?_)
 go_simp
 refine (hC.one _ _ _ x.kind r0.inv hx.kind (hne.here hM.out)).mono ?_
 intro e w1 h1
 rcases h1.split with ⟨q,hr,rfl,G,hs⟩ | ⟨y1,s1,F1,hr,rfl,hI1,hs1⟩
 ·exact xbo (xbp (hM.out.trans (xau hr)) ⟨_,r0.stp.trans hs⟩) rfl
 replace hM:Hid _:=hM.out.trans (xag hr)
 have r1:=r0.call hC hI1 hs1
 refine hK.out _ _ r1.held2 ?_
 clear hK K hr h1 hs1
 try simp only [qp,qa,qb,qc]
 refine xam _ rfl (fun K hK=>?_)
 go_simp
 refine (hC.one _ _ _ x.osd r1.inv hx.osd (hne.here hM.out)).mono ?_
 intro e w2 h2
 rcases h2.split with ⟨q,hr,rfl,G,hs⟩ | ⟨y2,s2,F2,hr,rfl,hI2,hs2⟩
 ·exact xbo (xbp (hM.out.trans (xau hr)) ⟨_,r1.stp.trans hs⟩) rfl
 replace hM:Hid _:=hM.out.trans (xag hr)
 have r2:=r1.call hC hI2 hs2
 refine hK.out _ _ r2.held2 ?_
 clear hK K hr h2 hs2
 try simp only [qp,qa,qb,qc]
 refine xam _ rfl (fun K hK=>?_)
 go_simp
 refine (hC.small _ _ _ x.n r2.inv hx.lo hx.hi (hne.here hM.out)).mono ?_
 intro e w3 h3
 rcases h3.split with ⟨q,hr,rfl,G,hs⟩ | ⟨y3,s3,F3,hr,rfl,hI3,hs3⟩
 ·exact xbo (xbp (hM.out.trans (xau hr)) ⟨_,r2.stp.trans hs⟩) rfl
 replace hM:Hid _:=hM.out.trans (xag hr)
 have r3:=r2.call hC hI3 hs3
 refine hK.out _ _ r3.held2 ?_
 clear hK K hr h3 hs3
 try simp only [qp,qa,qb,qc]
 refine xaa _ _ rfl (xat (by rfl) 26 _ rfl [(0,.int .u8 y1),(1,.int .u8 y2),(2,.int .i64 y3)] rfl (incC ⟨y1,y2,y3⟩) (wb_inc y1 y2 y3)) ?_
 try simp only [qp,qa,qb,qc]
 have r9:=r3.third hC (incC ⟨y1,y2,y3⟩)
 refine xbs _ rfl (by rfl) 26 _ _ rfl (w.heap.size + 1 + 1) rfl (incC ⟨y1,y2,y3⟩) rfl 26 (incC inc0) (ws_inc _) rfl (wo_inc _) (r3.get 2 rfl) r9.held2 ?_
 try simp only [qp,qa,qb,qc]
 refine xcd ?_
 go_wp2
 refine xba rfl (w.heap.size + 1 + 1) rfl 26 (incC ⟨y1,y2,y3⟩) _ Tryz.underlying26 rfl (ws_inc _) (r9.get 2 rfl) rfl (xda hM.out rfl r9.inv r9.stp)
set_option maxHeartbeats 4000000 in
theorem wop_any {B:Prop} {C:CodM} {cv:Value} {I:Inv} {R:Nat → Prop} (hC:Coder B C cv I R) (w:World) (s:List UInt8) (F:Nat → Prop) (x:OpV) (hI:I w s F) (hx:OpG x) (hne:Bare B (opM C x s)):Calls Tryz.prog 73 #[.agg #[cv],.agg (opC x)] w (Ends I F w (opM C x s) fun m=>.agg (opC m)):=by
 have hM:Hid (opM C x s = ((oneM C x.client).bind fun c=>(fourM C x.seq).bind fun s=>(oneM C x.kind).bind fun k=>(oneM C x.obj).bind fun j=>(oneM C x.pos).bind fun p=>(dataM C x.data).bind fun d=>.ret ⟨c,s,k,j,p,d⟩) s):=rfl
 obtain ⟨W,hW,r⟩:=xdr hC hI 82 39 39 #[cv] (opC x) (opC op0)
 go_enter Tryz.func73,Tryz.ntmps73
 go_wp2_with (first
  | (refine xac (by rfl) 39 rfl (opC op0) op_zero ?_;rw [hW];clear hW))
 have r0:=r.drew hC
 refine xcb (Held I R F w [(w.heap.size,82,#[cv]),(w.heap.size + 1,39,opC x)]) (Plan.of [(0,true),(1,true),(2,true),(4,true),(5,true),(6,true),(8,true),(9,true),(10,true),(12,true),(13,true),(14,true),(16,true),(17,true),(18,true),(20,true),(21,true),(22,true),(3,false),(7,false),(11,false),(15,false),(19,false),(23,false),(24,true),(25,false)] .done) (Thr F w (opM C x s)) (by kernel_rfl) (by kernel_rfl) (by kernel_rfl) (by kernel_rfl) r0.held2 (fun c a' w' h hd=>⟨hd,h.ends⟩) ?_
 refine xaa _ _ rfl (xan (by rfl) 82 _ rfl w.heap.size rfl 82 #[cv] _ Tryz.underlying82 rfl (xav cv) (fun W hS=>hS.get 0 rfl)) ?_
 try simp only [qp,qa,qb,qc]
 iterate 1
  first
   | (refine xad _ rfl (by rfl) ?_)
   | (refine xaa _ _ rfl (.inl ⟨by rfl,fun W hS=>by clear hS;go_simp;try with_reducible rfl⟩) ?_)
  try simp only [qp,qa,qb,qc]
 iterate 1
  first
   | (refine xad _ rfl (by rfl) ?_)
   | (refine xaa _ _ rfl (.inl ⟨by rfl,fun W hS=>by have z:=hS.cell 1 rfl 0 (v:=.int .u8 x.client) rfl;go_simp;try with_reducible rfl⟩) ?_)
  try simp only [qp,qa,qb,qc]
 refine xaa _ _ rfl (xan (by rfl) 82 _ rfl w.heap.size rfl 82 #[cv] _ Tryz.underlying82 rfl (xav cv) (fun W hS=>hS.get 0 rfl)) ?_
 try simp only [qp,qa,qb,qc]
 iterate 1
  first
   | (refine xad _ rfl (by rfl) ?_)
   | (refine xaa _ _ rfl (.inl ⟨by rfl,fun W hS=>by clear hS;go_simp;try with_reducible rfl⟩) ?_)
  try simp only [qp,qa,qb,qc]
 iterate 1
  first
   | (refine xad _ rfl (by rfl) ?_)
   | (refine xaa _ _ rfl (.inl ⟨by rfl,fun W hS=>by have z:=hS.cell 1 rfl 1 (v:=.int .u32 x.seq) rfl;go_simp;try with_reducible rfl⟩) ?_)
  try simp only [qp,qa,qb,qc]
 refine xaa _ _ rfl (xan (by rfl) 82 _ rfl w.heap.size rfl 82 #[cv] _ Tryz.underlying82 rfl (xav cv) (fun W hS=>hS.get 0 rfl)) ?_
 try simp only [qp,qa,qb,qc]
 iterate 1
  first
   | (refine xad _ rfl (by rfl) ?_)
   | (refine xaa _ _ rfl (.inl ⟨by rfl,fun W hS=>by clear hS;go_simp;try with_reducible rfl⟩) ?_)
  try simp only [qp,qa,qb,qc]
 iterate 1
  first
   | (refine xad _ rfl (by rfl) ?_)
   | (refine xaa _ _ rfl (.inl ⟨by rfl,fun W hS=>by have z:=hS.cell 1 rfl 2 (v:=.int .u8 x.kind) rfl;go_simp;try with_reducible rfl⟩) ?_)
  try simp only [qp,qa,qb,qc]
 refine xaa _ _ rfl (xan (by rfl) 82 _ rfl w.heap.size rfl 82 #[cv] _ Tryz.underlying82 rfl (xav cv) (fun W hS=>hS.get 0 rfl)) ?_
 try simp only [qp,qa,qb,qc]
 iterate 1
  first
   | (refine xad _ rfl (by rfl) ?_)
   | (refine xaa _ _ rfl (.inl ⟨by rfl,fun W hS=>by clear hS;go_simp;try with_reducible rfl⟩) ?_)
  try simp only [qp,qa,qb,qc]
 iterate 1
  first
   | (refine xad _ rfl (by rfl) ?_)
   | (refine xaa _ _ rfl (.inl ⟨by rfl,fun W hS=>by have z:=hS.cell 1 rfl 3 (v:=.int .u8 x.obj) rfl;go_simp;try with_reducible rfl⟩) ?_)
  try simp only [qp,qa,qb,qc]
 refine xaa _ _ rfl (xan (by rfl) 82 _ rfl w.heap.size rfl 82 #[cv] _ Tryz.underlying82 rfl (xav cv) (fun W hS=>hS.get 0 rfl)) ?_
 try simp only [qp,qa,qb,qc]
 iterate 1
  first
   | (refine xad _ rfl (by rfl) ?_)
   | (refine xaa _ _ rfl (.inl ⟨by rfl,fun W hS=>by clear hS;go_simp;try with_reducible rfl⟩) ?_)
  try simp only [qp,qa,qb,qc]
 iterate 1
  first
   | (refine xad _ rfl (by rfl) ?_)
   | (refine xaa _ _ rfl (.inl ⟨by rfl,fun W hS=>by have z:=hS.cell 1 rfl 4 (v:=.int .u8 x.pos) rfl;go_simp;try with_reducible rfl⟩) ?_)
  try simp only [qp,qa,qb,qc]
 refine xaa _ _ rfl (xan (by rfl) 82 _ rfl w.heap.size rfl 82 #[cv] _ Tryz.underlying82 rfl (xav cv) (fun W hS=>hS.get 0 rfl)) ?_
 try simp only [qp,qa,qb,qc]
 iterate 1
  first
   | (refine xad _ rfl (by rfl) ?_)
   | (refine xaa _ _ rfl (.inl ⟨by rfl,fun W hS=>by clear hS;go_simp;try with_reducible rfl⟩) ?_)
  try simp only [qp,qa,qb,qc]
 iterate 1
  first
   | (refine xad _ rfl (by rfl) ?_)
   | (refine xaa _ _ rfl (.inl ⟨by rfl,fun W hS=>by have z:=hS.cell 1 rfl 5 (v:=strV x.data) rfl;go_simp;try with_reducible rfl⟩) ?_)
  try simp only [qp,qa,qb,qc]
 refine xam _ rfl (fun K hK=>?_)
 go_simp
 refine (hC.one _ _ _ x.client r0.inv hx.ok.client (hne.here hM.out)).mono ?_
 intro e w1 h1
 rcases h1.split with ⟨q,hr,rfl,G,hs⟩ | ⟨y1,s1,F1,hr,rfl,hI1,hs1⟩
 ·exact xbo (xbp (hM.out.trans (xau hr)) ⟨_,r0.stp.trans hs⟩) rfl
 replace hM:Hid _:=hM.out.trans (xag hr)
 have r1:=r0.call hC hI1 hs1
 refine hK.out _ _ r1.held2 ?_
 clear hK K hr h1 hs1
 try simp only [qp,qa,qb,qc]
 refine xam _ rfl (fun K hK=>?_)
 go_simp
 refine (hC.four _ _ _ x.seq r1.inv hx.ok.seq (hne.here hM.out)).mono ?_
 intro e w2 h2
 rcases h2.split with ⟨q,hr,rfl,G,hs⟩ | ⟨y2,s2,F2,hr,rfl,hI2,hs2⟩
 ·exact xbo (xbp (hM.out.trans (xau hr)) ⟨_,r1.stp.trans hs⟩) rfl
 replace hM:Hid _:=hM.out.trans (xag hr)
 have r2:=r1.call hC hI2 hs2
 refine hK.out _ _ r2.held2 ?_
 clear hK K hr h2 hs2
 try simp only [qp,qa,qb,qc]
 refine xam _ rfl (fun K hK=>?_)
 go_simp
 refine (hC.one _ _ _ x.kind r2.inv hx.ok.kind (hne.here hM.out)).mono ?_
 intro e w3 h3
 rcases h3.split with ⟨q,hr,rfl,G,hs⟩ | ⟨y3,s3,F3,hr,rfl,hI3,hs3⟩
 ·exact xbo (xbp (hM.out.trans (xau hr)) ⟨_,r2.stp.trans hs⟩) rfl
 replace hM:Hid _:=hM.out.trans (xag hr)
 have r3:=r2.call hC hI3 hs3
 refine hK.out _ _ r3.held2 ?_
 clear hK K hr h3 hs3
 try simp only [qp,qa,qb,qc]
 refine xam _ rfl (fun K hK=>?_)
 go_simp
 refine (hC.one _ _ _ x.obj r3.inv hx.ok.obj (hne.here hM.out)).mono ?_
 intro e w4 h4
 rcases h4.split with ⟨q,hr,rfl,G,hs⟩ | ⟨y4,s4,F4,hr,rfl,hI4,hs4⟩
 ·exact xbo (xbp (hM.out.trans (xau hr)) ⟨_,r3.stp.trans hs⟩) rfl
 replace hM:Hid _:=hM.out.trans (xag hr)
 have r4:=r3.call hC hI4 hs4
 refine hK.out _ _ r4.held2 ?_
 clear hK K hr h4 hs4
 try simp only [qp,qa,qb,qc]
 refine xam _ rfl (fun K hK=>?_)
 go_simp
 refine (hC.one _ _ _ x.pos r4.inv hx.ok.pos (hne.here hM.out)).mono ?_
 intro e w5 h5
 rcases h5.split with ⟨q,hr,rfl,G,hs⟩ | ⟨y5,s5,F5,hr,rfl,hI5,hs5⟩
 ·exact xbo (xbp (hM.out.trans (xau hr)) ⟨_,r4.stp.trans hs⟩) rfl
 replace hM:Hid _:=hM.out.trans (xag hr)
 have r5:=r4.call hC hI5 hs5
 refine hK.out _ _ r5.held2 ?_
 clear hK K hr h5 hs5
 try simp only [qp,qa,qb,qc]
 refine xam _ rfl (fun K hK=>?_)
 go_simp
 refine (hC.data _ _ _ x.data r5.inv (Nat.le_trans hx.len (by decide)) (hne.here hM.out)).mono ?_
 intro e w6 h6
 rcases h6.split with ⟨q,hr,rfl,G,hs⟩ | ⟨y6,s6,F6,hr,rfl,hI6,hs6⟩
 ·exact xbo (xbp (hM.out.trans (xau hr)) ⟨_,r5.stp.trans hs⟩) rfl
 replace hM:Hid _:=hM.out.trans (xag hr)
 have r6:=r5.call hC hI6 hs6
 refine hK.out _ _ r6.held2 ?_
 clear hK K hr h6 hs6
 try simp only [qp,qa,qb,qc]
 refine xaa _ _ rfl (xat (by rfl) 39 _ rfl [(0,.int .u8 y1),(1,.int .u32 y2),(2,.int .u8 y3),(3,.int .u8 y4),(4,.int .u8 y5),(5,strV y6)] rfl (opC ⟨y1,y2,y3,y4,y5,y6⟩) (wb_op y1 y2 y3 y4 y5 y6)) ?_
 try simp only [qp,qa,qb,qc]
 have r9:=r6.third hC (opC ⟨y1,y2,y3,y4,y5,y6⟩)
 refine xbs _ rfl (by rfl) 39 _ _ rfl (w.heap.size + 1 + 1) rfl (opC ⟨y1,y2,y3,y4,y5,y6⟩) rfl 39 (opC op0) (ws_op _) rfl (wo_op _) (r6.get 2 rfl) r9.held2 ?_
 try simp only [qp,qa,qb,qc]
 refine xcd ?_
 go_wp2
 refine xba rfl (w.heap.size + 1 + 1) rfl 39 (opC ⟨y1,y2,y3,y4,y5,y6⟩) _ Tryz.underlying39 rfl (ws_op _) (r9.get 2 rfl) rfl (xda hM.out rfl r9.inv r9.stp)
set_option maxHeartbeats 4000000 in
theorem wentry_any {B:Prop} {C:CodM} {cv:Value} {I:Inv} {R:Nat → Prop} (hC:Coder B C cv I R) (w:World) (s:List UInt8) (F:Nat → Prop) (x:EntV) (hI:I w s F) (hx:EntG x) (hne:Bare B (entM C x s)):Calls Tryz.prog 72 #[.agg #[cv],.agg (entC x)] w (Ends I F w (entM C x s) fun m=>.agg (entC m)):=by
 have hM:Hid (entM C x s = ((fourM C x.since).bind fun s=>(fourM C x.n).bind fun n=>(opM C x.op).bind fun o=>.ret ⟨s,n,o⟩) s):=rfl
 obtain ⟨W,hW,r⟩:=xdr hC hI 82 41 41 #[cv] (entC x) (entC ent0)
 go_enter Tryz.func72,Tryz.ntmps72
 go_wp2_with (first
  | (refine xac (by rfl) 41 rfl (entC ent0) xff ?_;rw [hW];clear hW))
 have r0:=r.drew hC
 refine xcb (Held I R F w [(w.heap.size,82,#[cv]),(w.heap.size + 1,41,entC x)]) (Plan.of [(0,true),(1,true),(2,true),(4,true),(5,true),(6,true),(8,true),(9,true),(10,true),(3,false),(7,false),(11,false),(12,true),(13,false)] .done) (Thr F w (entM C x s)) (by kernel_rfl) (by kernel_rfl) (by kernel_rfl) (by kernel_rfl) r0.held2 (fun c a' w' h hd=>⟨hd,h.ends⟩) ?_
 refine xaa _ _ rfl (xan (by rfl) 82 _ rfl w.heap.size rfl 82 #[cv] _ Tryz.underlying82 rfl (xav cv) (fun W hS=>hS.get 0 rfl)) ?_
 try simp only [qp,qa,qb,qc]
 iterate 1
  first
   | (refine xad _ rfl (by rfl) ?_)
   | (refine xaa _ _ rfl (.inl ⟨by rfl,fun W hS=>by clear hS;go_simp;try with_reducible rfl⟩) ?_)
  try simp only [qp,qa,qb,qc]
 iterate 1
  first
   | (refine xad _ rfl (by rfl) ?_)
   | (refine xaa _ _ rfl (.inl ⟨by rfl,fun W hS=>by have z:=hS.cell 1 rfl 0 (v:=.int .u32 x.since) rfl;go_simp;try with_reducible rfl⟩) ?_)
  try simp only [qp,qa,qb,qc]
 refine xaa _ _ rfl (xan (by rfl) 82 _ rfl w.heap.size rfl 82 #[cv] _ Tryz.underlying82 rfl (xav cv) (fun W hS=>hS.get 0 rfl)) ?_
 try simp only [qp,qa,qb,qc]
 iterate 1
  first
   | (refine xad _ rfl (by rfl) ?_)
   | (refine xaa _ _ rfl (.inl ⟨by rfl,fun W hS=>by clear hS;go_simp;try with_reducible rfl⟩) ?_)
  try simp only [qp,qa,qb,qc]
 iterate 1
  first
   | (refine xad _ rfl (by rfl) ?_)
   | (refine xaa _ _ rfl (.inl ⟨by rfl,fun W hS=>by have z:=hS.cell 1 rfl 1 (v:=.int .u32 x.n) rfl;go_simp;try with_reducible rfl⟩) ?_)
  try simp only [qp,qa,qb,qc]
 refine xaa _ _ rfl (xan (by rfl) 82 _ rfl w.heap.size rfl 82 #[cv] _ Tryz.underlying82 rfl (xav cv) (fun W hS=>hS.get 0 rfl)) ?_
 try simp only [qp,qa,qb,qc]
 iterate 1
  first
   | (refine xad _ rfl (by rfl) ?_)
   | (refine xaa _ _ rfl (.inl ⟨by rfl,fun W hS=>by clear hS;go_simp;try with_reducible rfl⟩) ?_)
  try simp only [qp,qa,qb,qc]
 refine xaa _ (.agg (opC x.op)) rfl (xaj (by rfl) 39 _ rfl (w.heap.size + 1) 2 rfl (opL x.op) _ Tryz.underlying39 rfl (ws_op x.op) (fun W hS=>ent_op_range (hS.get 1 rfl))) ?_
 try simp only [qp,qa,qb,qc]
 refine xam _ rfl (fun K hK=>?_)
 go_simp
 refine (hC.four _ _ _ x.since r0.inv hx.since (hne.here hM.out)).mono ?_
 intro e w1 h1
 rcases h1.split with ⟨q,hr,rfl,G,hs⟩ | ⟨y1,s1,F1,hr,rfl,hI1,hs1⟩
 ·exact xbo (xbp (hM.out.trans (xau hr)) ⟨_,r0.stp.trans hs⟩) rfl
 replace hM:Hid _:=hM.out.trans (xag hr)
 have r1:=r0.call hC hI1 hs1
 refine hK.out _ _ r1.held2 ?_
 clear hK K hr h1 hs1
 try simp only [qp,qa,qb,qc]
 refine xam _ rfl (fun K hK=>?_)
 go_simp
 refine (hC.four _ _ _ x.n r1.inv hx.n (hne.here hM.out)).mono ?_
 intro e w2 h2
 rcases h2.split with ⟨q,hr,rfl,G,hs⟩ | ⟨y2,s2,F2,hr,rfl,hI2,hs2⟩
 ·exact xbo (xbp (hM.out.trans (xau hr)) ⟨_,r1.stp.trans hs⟩) rfl
 replace hM:Hid _:=hM.out.trans (xag hr)
 have r2:=r1.call hC hI2 hs2
 refine hK.out _ _ r2.held2 ?_
 clear hK K hr h2 hs2
 try simp only [qp,qa,qb,qc]
 refine xam _ rfl (fun K hK=>?_)
 go_simp
 refine (wop_any hC _ _ _ x.op r2.inv hx.op (hne.here hM.out)).mono ?_
 intro e w3 h3
 rcases h3.split with ⟨q,hr,rfl,G,hs⟩ | ⟨y3,s3,F3,hr,rfl,hI3,hs3⟩
 ·exact xbo (xbp (hM.out.trans (xau hr)) ⟨_,r2.stp.trans hs⟩) rfl
 replace hM:Hid _:=hM.out.trans (xag hr)
 have r3:=r2.call hC hI3 hs3
 refine hK.out _ _ r3.held2 ?_
 clear hK K hr h3 hs3
 try simp only [qp,qa,qb,qc]
 refine xaa _ _ rfl (xat (by rfl) 41 _ rfl [(0,.int .u32 y1),(1,.int .u32 y2),(2,.agg (opC y3))] rfl (entC ⟨y1,y2,y3⟩) (wb_ent y1 y2 y3)) ?_
 try simp only [qp,qa,qb,qc]
 have r9:=r3.third hC (entC ⟨y1,y2,y3⟩)
 refine xbs _ rfl (by rfl) 41 _ _ rfl (w.heap.size + 1 + 1) rfl (entC ⟨y1,y2,y3⟩) rfl 41 (entC ent0) (xax _) rfl (xet _) (r3.get 2 rfl) r9.held2 ?_
 try simp only [qp,qa,qb,qc]
 refine xcd ?_
 go_wp2
 refine xba rfl (w.heap.size + 1 + 1) rfl 41 (entC ⟨y1,y2,y3⟩) _ Tryz.underlying41 rfl (xax _) (r9.get 2 rfl) rfl (xda hM.out rfl r9.inv r9.stp)
set_option maxHeartbeats 4000000 in
theorem wtail_any {B:Prop} {C:CodM} {cv:Value} {I:Inv} {R:Nat → Prop} (hC:Coder B C cv I R) (w:World) (s:List UInt8) (F:Nat → Prop) (x:EntV) (hI:I w s F) (hx:EntOk x) (hne:Bare B (tlM C x s)):Calls Tryz.prog 101 #[.agg #[cv],.agg (entC x)] w (Ends I F w (tlM C x s) fun m=>.agg (entC m)):=by
 have hM:Hid (tlM C x s = ((fourM C x.since).bind fun s=>(fourM C x.n).bind fun n=>.ret ⟨s,n,op0⟩) s):=rfl
 obtain ⟨W,hW,r⟩:=xdr hC hI 82 41 41 #[cv] (entC x) (entC ent0)
 go_enter Tryz.func101,Tryz.ntmps101
 go_wp2_with (first
  | (refine xac (by rfl) 41 rfl (entC ent0) xff ?_;rw [hW];clear hW))
 have r0:=r.drew hC
 refine xcb (Held I R F w [(w.heap.size,82,#[cv]),(w.heap.size + 1,41,entC x)]) (Plan.of [(0,true),(1,true),(2,true),(4,true),(5,true),(6,true),(3,false),(7,false),(8,true),(9,false)] .done) (Thr F w (tlM C x s)) (by kernel_rfl) (by kernel_rfl) (by kernel_rfl) (by kernel_rfl) r0.held2 (fun c a' w' h hd=>⟨hd,h.ends⟩) ?_
 refine xaa _ _ rfl (xan (by rfl) 82 _ rfl w.heap.size rfl 82 #[cv] _ Tryz.underlying82 rfl (xav cv) (fun W hS=>hS.get 0 rfl)) ?_
 try simp only [qp,qa,qb,qc]
 iterate 1
  first
   | (refine xad _ rfl (by rfl) ?_)
   | (refine xaa _ _ rfl (.inl ⟨by rfl,fun W hS=>by clear hS;go_simp;try with_reducible rfl⟩) ?_)
  try simp only [qp,qa,qb,qc]
 iterate 1
  first
   | (refine xad _ rfl (by rfl) ?_)
   | (refine xaa _ _ rfl (.inl ⟨by rfl,fun W hS=>by have z:=hS.cell 1 rfl 0 (v:=.int .u32 x.since) rfl;go_simp;try with_reducible rfl⟩) ?_)
  try simp only [qp,qa,qb,qc]
 refine xaa _ _ rfl (xan (by rfl) 82 _ rfl w.heap.size rfl 82 #[cv] _ Tryz.underlying82 rfl (xav cv) (fun W hS=>hS.get 0 rfl)) ?_
 try simp only [qp,qa,qb,qc]
 iterate 1
  first
   | (refine xad _ rfl (by rfl) ?_)
   | (refine xaa _ _ rfl (.inl ⟨by rfl,fun W hS=>by clear hS;go_simp;try with_reducible rfl⟩) ?_)
  try simp only [qp,qa,qb,qc]
 iterate 1
  first
   | (refine xad _ rfl (by rfl) ?_)
   | (refine xaa _ _ rfl (.inl ⟨by rfl,fun W hS=>by have z:=hS.cell 1 rfl 1 (v:=.int .u32 x.n) rfl;go_simp;try with_reducible rfl⟩) ?_)
  try simp only [qp,qa,qb,qc]
 refine xam _ rfl (fun K hK=>?_)
 go_simp
 refine (hC.four _ _ _ x.since r0.inv hx.since (hne.here hM.out)).mono ?_
 intro e w1 h1
 rcases h1.split with ⟨q,hr,rfl,G,hs⟩ | ⟨y1,s1,F1,hr,rfl,hI1,hs1⟩
 ·exact xbo (xbp (hM.out.trans (xau hr)) ⟨_,r0.stp.trans hs⟩) rfl
 replace hM:Hid _:=hM.out.trans (xag hr)
 have r1:=r0.call hC hI1 hs1
 refine hK.out _ _ r1.held2 ?_
 clear hK K hr h1 hs1
 try simp only [qp,qa,qb,qc]
 refine xam _ rfl (fun K hK=>?_)
 go_simp
 refine (hC.four _ _ _ x.n r1.inv hx.n (hne.here hM.out)).mono ?_
 intro e w2 h2
 rcases h2.split with ⟨q,hr,rfl,G,hs⟩ | ⟨y2,s2,F2,hr,rfl,hI2,hs2⟩
 ·exact xbo (xbp (hM.out.trans (xau hr)) ⟨_,r1.stp.trans hs⟩) rfl
 replace hM:Hid _:=hM.out.trans (xag hr)
 have r2:=r1.call hC hI2 hs2
 refine hK.out _ _ r2.held2 ?_
 clear hK K hr h2 hs2
 try simp only [qp,qa,qb,qc]
 refine xaa _ _ rfl (xat (by rfl) 41 _ rfl [(0,.int .u32 y1),(1,.int .u32 y2)] rfl (entC ⟨y1,y2,op0⟩) (wb_tail y1 y2)) ?_
 try simp only [qp,qa,qb,qc]
 have r9:=r2.third hC (entC ⟨y1,y2,op0⟩)
 refine xbs _ rfl (by rfl) 41 _ _ rfl (w.heap.size + 1 + 1) rfl (entC ⟨y1,y2,op0⟩) rfl 41 (entC ent0) (xax _) rfl (xet _) (r2.get 2 rfl) r9.held2 ?_
 try simp only [qp,qa,qb,qc]
 refine xcd ?_
 go_wp2
 refine xba rfl (w.heap.size + 1 + 1) rfl 41 (entC ⟨y1,y2,op0⟩) _ Tryz.underlying41 rfl (xax _) (r9.get 2 rfl) rfl (xda hM.out rfl r9.inv r9.stp)
set_option maxHeartbeats 4000000 in
theorem wlast_any {B:Prop} {C:CodM} {cv:Value} {I:Inv} {R:Nat → Prop} (hC:Coder B C cv I R) (w:World) (s:List UInt8) (F:Nat → Prop) (x:LastV) (hI:I w s F) (h1:x.seq < 4294967296) (h2:x.r.code < 256) (hne:Bare B (lstM C x s)):Calls Tryz.prog 131 #[.agg #[cv],.agg (lastC x)] w (Ends I F w (lstM C x s) fun m=>.agg (lastC m)):=by
 have hM:Hid (lstM C x s = ((fourM C x.seq).bind fun s=>(oneM C x.r.code).bind fun c=>.ret ⟨s,⟨c,[]⟩⟩) s):=rfl
 obtain ⟨W,hW,r⟩:=xdr hC hI 82 34 34 #[cv] (lastC x) (lastC last0)
 go_enter Tryz.func131,Tryz.ntmps131
 go_wp2_with (first
  | (refine xac (by rfl) 34 rfl (lastC last0) wz_last ?_;rw [hW];clear hW))
 have r0:=r.drew hC
 refine xcb (Held I R F w [(w.heap.size,82,#[cv]),(w.heap.size + 1,34,lastC x)]) (Plan.of [(0,true),(1,true),(2,true),(4,true),(5,true),(6,true),(7,true),(3,false),(8,false),(9,true),(10,true),(11,false)] .done) (Thr F w (lstM C x s)) (by kernel_rfl) (by kernel_rfl) (by kernel_rfl) (by kernel_rfl) r0.held2 (fun c a' w' h hd=>⟨hd,h.ends⟩) ?_
 refine xaa _ _ rfl (xan (by rfl) 82 _ rfl w.heap.size rfl 82 #[cv] _ Tryz.underlying82 rfl (xav cv) (fun W hS=>hS.get 0 rfl)) ?_
 try simp only [qp,qa,qb,qc]
 iterate 1
  first
   | (refine xad _ rfl (by rfl) ?_)
   | (refine xaa _ _ rfl (.inl ⟨by rfl,fun W hS=>by clear hS;go_simp;try with_reducible rfl⟩) ?_)
  try simp only [qp,qa,qb,qc]
 iterate 1
  first
   | (refine xad _ rfl (by rfl) ?_)
   | (refine xaa _ _ rfl (.inl ⟨by rfl,fun W hS=>by have z:=hS.cell 1 rfl 0 (v:=.int .u32 x.seq) rfl;go_simp;try with_reducible rfl⟩) ?_)
  try simp only [qp,qa,qb,qc]
 refine xaa _ _ rfl (xan (by rfl) 82 _ rfl w.heap.size rfl 82 #[cv] _ Tryz.underlying82 rfl (xav cv) (fun W hS=>hS.get 0 rfl)) ?_
 try simp only [qp,qa,qb,qc]
 iterate 2
  first
   | (refine xad _ rfl (by rfl) ?_)
   | (refine xaa _ _ rfl (.inl ⟨by rfl,fun W hS=>by clear hS;go_simp;try with_reducible rfl⟩) ?_)
  try simp only [qp,qa,qb,qc]
 iterate 1
  first
   | (refine xad _ rfl (by rfl) ?_)
   | (refine xaa _ _ rfl (.inl ⟨by rfl,fun W hS=>by have z:=hS.cell 1 rfl 1 (v:=.int .u8 x.r.code) rfl;go_simp;try with_reducible rfl⟩) ?_)
  try simp only [qp,qa,qb,qc]
 refine xam _ rfl (fun K hK=>?_)
 go_simp
 refine (hC.four _ _ _ x.seq r0.inv h1 (hne.here hM.out)).mono ?_
 intro e w1 h1
 rcases h1.split with ⟨q,hr,rfl,G,hs⟩ | ⟨y1,s1,F1,hr,rfl,hI1,hs1⟩
 ·exact xbo (xbp (hM.out.trans (xau hr)) ⟨_,r0.stp.trans hs⟩) rfl
 replace hM:Hid _:=hM.out.trans (xag hr)
 have r1:=r0.call hC hI1 hs1
 refine hK.out _ _ r1.held2 ?_
 clear hK K hr h1 hs1
 try simp only [qp,qa,qb,qc]
 refine xam _ rfl (fun K hK=>?_)
 go_simp
 refine (hC.one _ _ _ x.r.code r1.inv h2 (hne.here hM.out)).mono ?_
 intro e w2 h2
 rcases h2.split with ⟨q,hr,rfl,G,hs⟩ | ⟨y2,s2,F2,hr,rfl,hI2,hs2⟩
 ·exact xbo (xbp (hM.out.trans (xau hr)) ⟨_,r1.stp.trans hs⟩) rfl
 replace hM:Hid _:=hM.out.trans (xag hr)
 have r2:=r1.call hC hI2 hs2
 refine hK.out _ _ r2.held2 ?_
 clear hK K hr h2 hs2
 try simp only [qp,qa,qb,qc]
 refine xaa _ _ rfl (xat (by rfl) 32 _ rfl [(0,.int .u8 y2)] rfl (resC ⟨y2,[]⟩) (wb_res1 y2)) ?_
 try simp only [qp,qa,qb,qc]
 refine xaa _ _ rfl (xat (by rfl) 34 _ rfl [(0,.int .u32 y1),(1,.agg (resC ⟨y2,[]⟩))] rfl (lastC ⟨y1,⟨y2,[]⟩⟩) (wb_last y1 ⟨y2,[]⟩)) ?_
 try simp only [qp,qa,qb,qc]
 have r9:=r2.third hC (lastC ⟨y1,⟨y2,[]⟩⟩)
 refine xbs _ rfl (by rfl) 34 _ _ rfl (w.heap.size + 1 + 1) rfl (lastC ⟨y1,⟨y2,[]⟩⟩) rfl 34 (lastC last0) (xfu _) rfl (wo_last _) (r2.get 2 rfl) r9.held2 ?_
 try simp only [qp,qa,qb,qc]
 refine xcd ?_
 go_wp2
 refine xba rfl (w.heap.size + 1 + 1) rfl 34 (lastC ⟨y1,⟨y2,[]⟩⟩) _ Tryz.underlying34 rfl (xfu _) (r9.get 2 rfl) rfl (xda hM.out rfl r9.inv r9.stp)
end Go.Proofs.YtecilienolabfaaGreatDoor
/- WalkMid: What goes through flags and rows of entries, by a coder. -/
namespace Go.Proofs.YtecilienolabfaaGreatDoor
set_option linter.unusedSimpArgs false
set_option linter.unusedVariables false
set_option maxRecDepth 100000
open Go.RowKit
section
variable {B:Prop} {C:CodM} {cv:Value} {I:Inv} {R F F':Nat → Prop} {w w':World} {s s':List UInt8}
theorem run_one (hC:Coder B C cv I R) (h:I w s F) (t1:TypeId) (c1:Array Value):∃ W,w.alloc (.cells c1 t1) = W ∧ Run I R F w F W s [(w.heap.size,t1,c1)]:=by
 refine ⟨_,rfl,?_⟩
 have h1:=(Run.start h:Run I R F w F w s []).alloc hC t1 c1
 simpa using h1
end
set_option maxHeartbeats 4000000 in
theorem wflag_any {B:Prop} {C:CodM} {cv:Value} {I:Inv} {R:Nat → Prop} (hC:Coder B C cv I R) (w:World) (s:List UInt8) (F:Nat → Prop) (x:Bool) (hI:I w s F) (hne:Bare B (flagM C x s)):Calls Tryz.prog 69 #[.agg #[cv],.bool x] w (Ends I F w (flagM C x s) fun m=>.bool m):=by
 have hM:Hid (flagM C x s = (oneM C (if x = true then 1 else 0)).bind (fun m=>if m = 0 then .ret false else if m = 1 then .ret true else .err 10) s):=rfl
 obtain ⟨W,hW,r⟩:=run_one hC hI 82 #[cv]
 have hnb:Bare B (oneM C (if x = true then 1 else 0) s):=hne.here hM.out
 have hL:=r.get 0 rfl
 have key:∀ (n:Nat) (K:Ending → World → Prop),(∀ y s1 F1 w1,oneM C n s = .ok (y,s1) → I w1 s1 F1 → Stp F F1 w w1 → K (.returned (.int .u8 (y:Nat))) w1) → (∀ q w1,oneM C n s = .error q → (∃ F',Stp F F' w w1) → K (thrown q) w1) → n < 256 → Bare B (oneM C n s) → Calls Tryz.prog 66 #[.agg #[cv],.int .u8 (n:Nat)] W K:=by
  intro n K k1 k2 hn hb
  refine (hC.one W s F n r.inv hn hb).mono ?_
  intro e w1 h1
  rcases h1.split with ⟨q,hr,rfl,G,hs⟩ | ⟨y,s1,F1,hr,rfl,hI1,hs1⟩
  ·exact k2 q w1 hr ⟨_,r.stp.trans hs⟩
  ·exact k1 y s1 F1 w1 hr hI1 (r.stp.trans hs1)
 have fin:∀ (y:Nat) (s1:List UInt8),oneM C (if x = true then 1 else 0) s = .ok (y,s1) → Hid (flagM C x s = (if y = 0 then .ret false else if y = 1 then .ret true else .err 10:Wk Bool) s1):=fun y s1 hr=>hM.out.trans (xag hr)
 have bad:∀ q,oneM C (if x = true then 1 else 0) s = .error q → Hid (flagM C x s = .error q):=fun q hr=>hM.out.trans (xau hr)
 replace fin:Hid _:=fin
 replace bad:Hid _:=bad
 replace key:Hid _:=key
 clear hM
 cases x with
 | false =>
  go_enter Tryz.func69,Tryz.ntmps69
  go_wp2_with (first
   | (refine xab (by rfl) 82 _ rfl w.heap.size rfl 82 #[cv] _ Tryz.underlying82 rfl (xav cv) ?hg ?_;(case hg=>first | exact hL | (rw [hW];exact hL))))
  refine key.out 0 _ ?_ ?_ (by decide) hnb
  clear hnb
  ·intro y s1 F1 w1 hr hI1 hs1
   have hF:=fin.out y s1 hr
   replace hI1:Hid _:=hI1
   clear key fin bad hr
   by_cases h0:y = 0
   ·subst h0
    go_wp2
    go_ret
    exact xda (hF.out.trans rfl) rfl hI1.out hs1
   ·by_cases h1:y = 1
    ·subst h1
     go_wp2
     go_ret
     exact xda (hF.out.trans rfl) rfl hI1.out hs1
    ·have e0:((y:Int) == 0) = false:=by simp;omega
     have e1:((y:Int) == 1) = false:=by simp;omega
     replace hF:Hid (_ = Except.error 10):=hF.out.trans (by rw [if_neg h0,if_neg h1];rfl)
     replace h0:¬ (y:Int) = 0:=by omega
     replace h1:¬ (y:Int) = 1:=by omega
     go_wp2
     exact ⟨rfl,xck hF.out rfl ⟨_,hs1⟩⟩
  ·intro q w1 hr hs
   have hF:=bad.out q hr
   replace hs:Hid _:=hs
   clear key fin bad hr
   unfold thrown
   go_wp2
   exact ⟨rfl,xck hF.out rfl hs.out⟩
 | true =>
  go_enter Tryz.func69,Tryz.ntmps69
  go_wp2_with (first
   | (refine xab (by rfl) 82 _ rfl w.heap.size rfl 82 #[cv] _ Tryz.underlying82 rfl (xav cv) ?hg ?_;(case hg=>first | exact hL | (rw [hW];exact hL))))
  refine key.out 1 _ ?_ ?_ (by decide) hnb
  clear hnb
  ·intro y s1 F1 w1 hr hI1 hs1
   have hF:=fin.out y s1 hr
   replace hI1:Hid _:=hI1
   clear key fin bad hr
   by_cases h0:y = 0
   ·subst h0
    go_wp2
    go_ret
    exact xda (hF.out.trans rfl) rfl hI1.out hs1
   ·by_cases h1:y = 1
    ·subst h1
     go_wp2
     go_ret
     exact xda (hF.out.trans rfl) rfl hI1.out hs1
    ·have e0:((y:Int) == 0) = false:=by simp;omega
     have e1:((y:Int) == 1) = false:=by simp;omega
     replace hF:Hid (_ = Except.error 10):=hF.out.trans (by rw [if_neg h0,if_neg h1];rfl)
     replace h0:¬ (y:Int) = 0:=by omega
     replace h1:¬ (y:Int) = 1:=by omega
     go_wp2
     exact ⟨rfl,xck hF.out rfl ⟨_,hs1⟩⟩
  ·intro q w1 hr hs
   have hF:=bad.out q hr
   replace hs:Hid _:=hs
   clear key fin bad hr
   unfold thrown
   go_wp2
   exact ⟨rfl,xck hF.out rfl hs.out⟩
structure SlF (w:World) (F:Nat → Prop) (ao:Option Addr) (c:Nat) (l:List EntV):Prop where
 sl:Sl w ao c 8 (entR l)
 far:∀ ad,ao = some ad → 0 < l.length → ad.block < w.heap.size ∧ ¬ F ad.block
theorem SlF.nothing (w:World) (F:Nat → Prop):SlF w F none 0 []:=⟨Sl.nothing w 8,fun _ h _=>by cases h⟩
theorem SlF.step {w w':World} {F F':Nat → Prop} {ao:Option Addr} {c:Nat} {l:List EntV} (h:SlF w F ao c l) (hs:Stp F F' w w'):SlF w' F' ao c l:=by
 refine ⟨⟨h.sl.le,h.sl.cap,h.sl.nil,h.sl.each,fun ad had i hi j hj=>?_⟩,fun ad had hl=>?_⟩
 ·have hc:=h.sl.at' ad had i hi j hj
  have hbl:(ad.add (i * 8 + j)).block = ad.block:=by unfold Addr.add;split <;> rfl
  have hf:=h.far ad had (by rw [entR,List.length_map] at hi;omega)
  rw [World.cell?_of_block (w:=w) (hs.off.block _ (by rw [hbl];exact hf.1) (by rw [hbl];exact hf.2))]
  exact hc
 ·have hf:=h.far ad had hl
  refine ⟨Nat.lt_of_lt_of_le hf.1 hs.off.size,fun q=>?_⟩
  rcases hs.new _ q with q | q
  ·exact hf.2 q
  ·omega
theorem SlF.of {w:World} {F:Nat → Prop} {ao:Option Addr} {c:Nat} {l:List EntV} (h:Sl w ao c 8 (entR l)) (hF:∀ ad,ao = some ad → ad.block < w.heap.size → ¬ F ad.block):SlF w F ao c l:=by
 refine ⟨h,fun ad had hl=>?_⟩
 have hi:0 < (entR l).length:=by rw [entR,List.length_map];exact hl
 have hc:=h.at' ad had 0 hi 0 (by decide)
 have h8:=h.each _ (List.getElem_mem hi)
 rw [List.getElem?_eq_getElem (by omega)] at hc
 have hlt:=World.block_lt_of_cell? w _ hc
 have hbl:(ad.add (0 * 8 + 0)).block = ad.block:=by unfold Addr.add;split <;> rfl
 rw [hbl] at hlt
 exact ⟨hlt,hF ad had hlt⟩
structure NewE (R F':Nat → Prop) (w w':World) (g:Nat) (l:List EntV):Prop where
 has:Has w' g 41 (entF l).toArray
 clear:¬ F' g ∧ ¬ R g
 new:w.heap.size ≤ g
def EndsE (I:Inv) (R F:Nat → Prop) (w:World) (r:Except Nat (List EntV × List UInt8)) (e:Ending) (w':World):Prop:=match r with
 | .ok (x,s)=>∃ F' g,e = .returned (.slice (some ⟨g,0,none⟩) x.length x.length) ∧ NewE R F' w w' g x ∧ I w' s F' ∧ Stp F F' w w'
 | .error n=>e = thrown n ∧ ∃ F',Stp F F' w w'
section
variable {B:Prop} {C:CodM} {cv:Value} {I:Inv} {R F F':Nat → Prop} {w w':World} {s s':List UInt8}
theorem EndsE.split {r:Except Nat (List EntV × List UInt8)} {e:Ending} (h:EndsE I R F w r e w'):(∃ n,r = .error n ∧ e = thrown n ∧ ∃ F',Stp F F' w w') ∨ (∃ x s' F' g,r = .ok (x,s') ∧ e = .returned (.slice (some ⟨g,0,none⟩) x.length x.length) ∧ NewE R F' w w' g x ∧ I w' s' F' ∧ Stp F F' w w'):=by
 unfold EndsE at h
 split at h
 ·obtain ⟨F',g,h1,h2,h3,h4⟩:=h
  exact .inr ⟨_,_,F',g,rfl,h1,h2,h3,h4⟩
 ·exact .inl ⟨_,rfl,h.1,h.2⟩
theorem endsE_err {r:Except Nat (List EntV × List UInt8)} {e:Ending} {n:Nat} (h:r = .error n) (he:e = thrown n) (hs:∃ F',Stp F F' w w'):EndsE I R F w r e w':=by
 subst h
 exact ⟨he,hs⟩
theorem endsE_ok {r:Except Nat (List EntV × List UInt8)} {e:Ending} {x:List EntV} {g:Nat} (h:r = .ok (x,s')) (he:e = .returned (.slice (some ⟨g,0,none⟩) x.length x.length)) (hg:NewE R F' w w' g x) (hI:I w' s' F') (hs:Stp F F' w w'):EndsE I R F w r e w':=by
 subst h
 exact ⟨F',g,he,hg,hI,hs⟩
theorem Run.also {F0:Nat → Prop} {w0:World} {l:List Var} (h:Run I R F0 w0 F w s l) {g:Nat} {t:TypeId} {c:Array Value} (hg:Has w g t c) (hc:¬ F g ∧ ¬ R g) (hn:w0.heap.size ≤ g):Run I R F0 w0 F w s (l ++ [(g,t,c)]) :=
 ⟨h.inv,h.stp,fun e he=>by
  rcases List.mem_append.1 he with he | he
  ·exact h.hold e he
  ·rw [List.mem_singleton.1 he];exact hg,fun e he=>by
  rcases List.mem_append.1 he with he | he
  ·exact h.clear e he
  ·rw [List.mem_singleton.1 he];exact hc,fun e he=>by
  rcases List.mem_append.1 he with he | he
  ·exact h.new e he
  ·rw [List.mem_singleton.1 he];exact hn⟩
end
theorem ent0_G:EntG ent0:=⟨by show 0 < _;decide,by show 0 < _;decide,op0_ok,by show 0 ≤ _;decide⟩
theorem pad_le {n:Nat} {l:List EntV} (h:l.length ≤ n):padE n l = l ++ List.replicate (n - l.length) ent0:=by
 unfold padE
 rw [List.take_of_length_le h]
theorem pad_G {n:Nat} {l:List EntV} (h:∀ e ∈ l,EntG e):∀ e ∈ padE n l,EntG e:=by
 intro e he
 unfold padE at he
 rcases List.mem_append.1 he with he | he
 ·exact h e (List.mem_of_mem_take he)
 ·rw [(List.mem_replicate.1 he).2];exact ent0_G
theorem ents_step {C:CodM} {e:EntV} {l:List EntV} {f:List EntV → Wk (List EntV)} {s t:List UInt8} {x:EntV} (h:entM C e s = .ok (x,t)):(entsM C (e :: l)).bind f s = (entsM C l).bind (fun y=>f (x :: y)) t:=by
 show (((entM C e).bind fun x=>(entsM C l).bind fun y=>.ret (x :: y)).bind f) s = _
 unfold Wk.bind
 simp only [h]
 cases entsM C l t with
 | error n=>rfl
 | ok p=>rfl
theorem ents_stop {C:CodM} {e:EntV} {l:List EntV} {f:List EntV → Wk (List EntV)} {s:List UInt8} {n:Nat} (h:entM C e s = .error n):(entsM C (e :: l)).bind f s = .error n:=by
 refine xau ?_
 exact xau h
theorem entF_put (a b:List EntV) (x y:EntV):putAt (entF (a ++ x :: b)) (a.length * 8) (entL y) = entF (a ++ y :: b):=by
 have e:∀ z:EntV,entF (a ++ z :: b) = entF a ++ (entL z ++ entF b):=fun z=>by rw [entF_app];rfl
 rw [e,e]
 exact putAt_mid _ _ _ _ _ (xeq a).symm rfl
set_option maxHeartbeats 8000000 in
theorem wentries_any {B:Prop} {C:CodM} {cv:Value} {I:Inv} {R:Nat → Prop} (hC:Coder B C cv I R) (w:World) (s:List UInt8) (F:Nat → Prop) (ao:Option Addr) (c:Nat) (l:List EntV) (hI:I w s F) (hl:∀ e ∈ l,EntG e) (hn:l.length ≤ 6) (h:SlF w F ao c l)
  (hfit:∀ n t,smallM C (l.length:Int) s = .ok (n,t) → (l.length:Int) ≤ n) (hne:Bare B (logM C l s)):Calls Tryz.prog 103 #[.agg #[cv],.slice ao l.length c] w (EndsE I R F w (logM C l s)):=by
 have hM:Hid (logM C l s = (smallM C (l.length:Int)).bind (fun n=>if 6 < n then .err 13 else entsM C (padE n.toNat l)) s):=rfl
 obtain ⟨i0,hi,hz0,hz1,hz2⟩:=ent_info
 obtain ⟨W,hW,r⟩:=run_one hC hI 82 #[cv]
 have hL:=r.get 0 rfl
 have hle:=h.sl.ent_le
 have hcap:=h.sl.cap
 replace hfit:Hid _:=hfit
 go_enter Tryz.func103,Tryz.ntmps103
 go_wp2_with (first
  | (refine xab (by rfl) 82 _ rfl w.heap.size rfl 82 #[cv] _ Tryz.underlying82 rfl (xav cv) ?hg ?_;(case hg=>first | exact hL | (rw [hW];exact hL))))
 refine (hC.small W s F (l.length:Int) r.inv (by omega) (by omega) (hne.here hM.out)).mono ?_
 intro e w1 h1
 rcases h1.split with ⟨q,hr,rfl,G,hs⟩ | ⟨n,s1,F1,hr,rfl,hI1,hs1⟩
 ·unfold thrown
  have hE:Hid _:=hM.out.trans (xau hr)
  have hs':Hid _:=r.stp.trans hs
  clear h1 hM hr hfit hs
  go_wp2
  exact ⟨rfl,endsE_err hE.out rfl ⟨_,hs'.out⟩⟩
 have r1:=r.call hC hI1 hs1
 have hn0:=hfit.out n s1 hr
 replace hM:Hid _:=hM.out.trans (xag hr)
 obtain ⟨N,rfl⟩:∃ N:Nat,n = (N:Int):=⟨n.toNat,by omega⟩
 have hN0:l.length ≤ N:=by omega
 clear hn0 hfit hr h1 hW hs1
 by_cases h6:6 < (N:Int)
 ·have hE:Hid (logM C l s = .error 13):=hM.out.trans (by rw [if_pos h6];rfl)
  clear hM
  have h6':(N:Int) > 6:=h6
  go_wp2
  exact ⟨rfl,endsE_err hE.out rfl ⟨_,r1.stp⟩⟩
 ·replace hM:Hid (logM C l s = entsM C (padE N l) s1):=hM.out.trans (by rw [if_neg h6,Int.toNat_natCast])
  have hN6:N ≤ 6:=by omega
  have hb2:i0.bytes * N ≤ 281474976710656:=Nat.le_trans (Nat.mul_le_mul hz2 hN6) (by decide)
  have hsl:Sl w1 ao c 8 (entR l):=(h.step r1.stp).sl
  have hnI:¬ (N:Int) > 6:=by omega
  go_wp2_with (first
   | (refine wpList_make_full _ rfl _ _ 42 rfl w1.heap.size 41 i0 (.agg (entC ent0)) 8 Tryz.underlying42 hi hz0 hz1 _ _ _ _ N rfl rfl rfl rfl hb2 (by unfold maxLen;omega) (Nat.le_refl _) ?_))
  intro w2 hown hgrow
  have hq2:Below w1.heap.size w1 w2:=(Below.refl w1.heap.size w1).grown hgrow (Nat.le_refl _) (fun k hk=>by cases hk)
  have hR0:=ents_has hown
  have hcl:¬ F1 w1.heap.size ∧ ¬ R w1.heap.size:=⟨fun q=>absurd (hC.lt _ _ _ hI1 _ (.inl q)) (Nat.lt_irrefl _),fun q=>absurd (hC.lt _ _ _ hI1 _ (.inr q)) (Nat.lt_irrefl _)⟩
  have r2:=(r1.later hC hq2).also hR0 hcl r1.stp.off.size
  have hg0:w.heap.size < w1.heap.size:=(r1.get 0 rfl).lt
  have hsp:splice (entF (List.replicate N ent0)) 0 (entF l) = entF (padE N l):=by
   have q:=splice_first l (List.replicate (N - l.length) ent0)
   rw [List.length_replicate,Nat.add_sub_cancel' hN0,← pad_le hN0] at q
   exact q
  have hf1:0 + l.length * 8 ≤ (entF (List.replicate N ent0)).length:=by rw [xeq,List.length_replicate];omega
  have r3:=r2.wrote hC (w':=w2.setRow w1.heap.size (splice (entF (List.replicate N ent0)) 0 (entF l)).toArray) 1 rfl (fun j e hj hne=>by
   match j,hj with
   | 0,hj=>obtain rfl:=Option.some.inj hj;show w.heap.size ≠ _;omega
   | 1,_=>exact absurd rfl hne) (xbb _ _) (hR0.row _)
  rw [hsp] at r3
  have hsl2:Sl w2 ao c 8 (entR l):=hsl.later hq2
  obtain ⟨w3,hw3⟩:∃ W,w2.setRow w1.heap.size (splice (entF (List.replicate N ent0)) 0 (entF l)).toArray = W:=⟨_,rfl⟩
  rw [hsp] at hw3
  rw [hw3] at r3
  obtain ⟨P,hP⟩:∃ P,P = padE N l:=⟨_,rfl⟩
  have hPl:P.length = N:=by rw [hP];exact pad_length N l
  have hPG:Hid (∀ e ∈ P,EntG e):=by rw [hP];exact pad_G hl
  rw [← hP] at hM hw3 r3
  have r3':Run I R F w F1 w3 s1 [(w.heap.size,82,#[cv]),(w1.heap.size,41,(entF P).toArray)]:=r3
  have hw3':w2.setRow w1.heap.size (splice (entF (List.replicate N ent0)) 0 (entF l)).toArray = w3:=by rw [hsp,← hP];exact hw3
  clear hown hgrow hq2 r2 r3 hcl hsl hw3
  obtain ⟨g,hg⟩:∃ g,g = w1.heap.size:=⟨_,rfl⟩
  go_wp2_with (first
   | (refine wpList_copy_ents rfl _ _ rfl w1.heap.size 0 (some ⟨w1.heap.size,0,none⟩) N N ao c (entF (List.replicate N ent0)) l rfl rfl ?h1 ?h2 ?h3 ?h4 ?h5 w3 ?h6 ?_;(case h1=>exact hsl2);(case h2=>exact hR0);(case h3=>exact fun _=>rfl);(case h4=>exact hN0);(case h5=>exact hf1);(case h6=>exact hw3');clear hw3'))
  clear hR0 hsl2 hsp hf1 hi hz0 hz1 hz2 hb2 h hle hcap r hL hI1
  rw [← hg]
  rw [← hg] at r3' hg0
  have hgn:w.heap.size ≤ g:=Nat.le_of_lt hg0
  clear hg r1
  go_loopw [23] (fun i wr=>∃ (k:Nat) (dn:List EntV) (Fk:Nat → Prop) (sk:List UInt8),k ≤ N ∧ i = .int .i64 k ∧ dn.length = k ∧ Run I R F w Fk wr sk [(w.heap.size,82,#[cv]),(g,41,(entF (dn ++ P.drop k)).toArray)] ∧ Hid (logM C l s = (entsM C (P.drop k)).bind (fun y=>.ret (dn ++ y)) sk)) (fun i _=>N - (intOf i).toNat)
  case atStart =>
   refine ⟨0,[],F1,s1,Nat.zero_le _,rfl,rfl,r3',?_⟩
   show logM C l s = _
   rw [hM.out]
   show _ = (entsM C P).bind (fun y=>.ret ([] ++ y)) s1
   cases hE:entsM C P s1 with
   | error n=>rw [xau hE]
   | ok p=>rw [xag hE];rfl
  case round =>
   clear r3' hM
   obtain ⟨k,dn,Fk,sk,hk,rfl,hdn,rk,hM⟩:=hrel
   by_cases hlt:k < N
   ·have hltI:(k:Int) < (N:Int):=by omega
    have hdr:P.drop k = P[k] :: P.drop (k + 1):=List.drop_eq_getElem_cons (by omega)
    have hxG:=hPG.out P[k] (List.getElem_mem _)
    have hrs:(P.drop (k + 1)).length ≤ 6:=by rw [List.length_drop];omega
    rw [hdr] at rk hM
    generalize P[k] = x at *
    obtain ⟨rs,hrsE⟩:∃ rs,P.drop (k + 1) = rs:=⟨_,rfl⟩
    rw [hrsE] at rk hM hrs
    replace hrsE:Hid _:=hrsE
    clear hdr
    have hrow:=rk.get 1 rfl
    have hlen:k < (dn ++ x :: rs).length:=by rw [List.length_append,List.length_cons];omega
    have hget:(dn ++ x :: rs)[k] = x:=by
     rw [List.getElem_append_right (by omega)]
     simp [hdn]
    have hx:wr.rangeAt g (k * 8) (entL x):=hrow.range _ _ fun j v hj=>by
     have hj8:j < 8:=(List.getElem?_eq_some_iff.1 hj).1
     have q:=entF_at (dn ++ x :: rs) k hlen j hj8
     rw [hget] at q
     rw [List.getElem?_toArray,q]
     exact hj
    obtain ⟨w4,hw4,hX,hq⟩:=xcm wr 41 (entC ent0) (entC x)
    have hcl:¬ Fk wr.heap.size ∧ ¬ R wr.heap.size:=⟨fun q=>absurd (hC.lt _ _ _ rk.inv _ (.inl q)) (Nat.lt_irrefl _),fun q=>absurd (hC.lt _ _ _ rk.inv _ (.inr q)) (Nat.lt_irrefl _)⟩
    have r4:=(rk.later hC hq).also hX hcl rk.stp.off.size
    have hgl:g < wr.heap.size:=hrow.lt
    have hL4:=r4.get 0 rfl
    clear hq hlen hget
    replace hM:Hid _:=hM
    go_wp2_with (first
     | (refine xae (by rfl) 41 _ rfl g (k * 8) rfl (entL x) _ ?hg Tryz.underlying41 rfl (xax x) ?_;(case hg=>exact hx))
     | (refine xac (by rfl) 41 rfl (entC ent0) xff ?_)
     | (refine xai (by rfl) 41 _ _ rfl wr.heap.size rfl (entC x) rfl 41 (entC ent0) (xax _) rfl (xet _) ?hg w4 ?hW ?_;(case hg=>exact Has.new _ _ _);(case hW=>exact hw4);clear hw4)
     | (refine xab (by rfl) 82 _ rfl w.heap.size rfl 82 #[cv] _ Tryz.underlying82 rfl (xav cv) ?hg ?_;(case hg=>exact hL4))
     | (refine xab (by rfl) 41 _ rfl wr.heap.size rfl 41 (entC x) _ Tryz.underlying41 rfl (xax _) ?hg ?_;(case hg=>exact hX)))
    refine (wentry_any hC w4 sk Fk x r4.inv hxG (fun b9 q9=>hne b9 (hM.out.trans (ents_stop q9)))).mono ?_
    intro e w5 h5
    rcases h5.split with ⟨q,hr,rfl,G,hs⟩ | ⟨y,s5,F5,hr,rfl,hI5,hs5⟩
    ·have hE:Hid _:=hM.out.trans (ents_stop hr)
     have hs':Hid _:=r4.stp.trans hs
     clear h5 hM hr hs
     unfold thrown
     go_wp2
     exact ⟨rfl,endsE_err hE.out rfl ⟨_,hs'.out⟩⟩
    replace hM:Hid _:=hM.out.trans (ents_step hr)
    have r5:=r4.call hC hI5 hs5
    have hrow5:=r5.get 1 rfl
    have hth:=hrow5.there (k * 8) 8 (by rw [List.size_toArray,xeq,List.length_append,List.length_cons];omega)
    have hput:=hrow5.putCells (entL y) (k * 8) (by rw [xeq,List.length_append,List.length_cons];show _ + 8 ≤ _;omega)
    rw [← hdn,entF_put,hdn] at hput
    have r6:=r5.wrote hC 1 rfl (fun j e hj hne=>by
     match j,hj with
     | 0,hj=>obtain rfl:=Option.some.inj hj;show w.heap.size ≠ _;omega
     | 1,_=>exact absurd rfl hne
     | 2,hj=>obtain rfl:=Option.some.inj hj;show wr.heap.size ≠ _;omega) (xap (entL y) (k * 8)) hput
    have r7:Run I R F w F5 (w5.setCells g (k * 8) (entL y)) s5 [(w.heap.size,82,#[cv]),(g,41,(entF (dn ++ y :: rs)).toArray)]:=r6.sub fun e he=>by
     rcases List.mem_cons.1 he with rfl | he
     ·simp
     ·rw [List.mem_singleton.1 he];simp
    clear h5 hr hs5 r4 r5 r6 hrow5 hput hX hx hrow hL4 hcl hI5
    obtain ⟨w6,hw6⟩:∃ W,w5.setCells g (k * 8) (entL y) = W:=⟨_,rfl⟩
    rw [hw6] at r7
    go_wp2_with (first
     | (refine xak (by rfl) 41 _ _ rfl g (k * 8) (entC y) (by first | rfl | simp [Act.eval]) rfl ?ht (xax _) (xet _) ?_;(case ht=>exact hth);rw [show w5.setCells g (k * 8) (entC y).toList = w6 from hw6]))
    go_roundw
    case rel =>
     refine ⟨k + 1,dn ++ [y],F5,s5,by omega,by go_num,by rw [List.length_append,hdn];rfl,?_,?_⟩
     ·rw [hrsE.out,List.append_assoc];exact r7
     ·show logM C l s = _
      rw [hM.out,hrsE.out]
      simp only [List.append_assoc]
      rfl
    case measure=>simp [intOf];omega
   ·have e5:k = N:=by omega
    subst e5
    rw [List.drop_of_length_le (by omega)] at rk hM
    rw [List.append_nil] at rk
    go_wp2
    go_ret
    have e:=rk.get 1 rfl
    refine endsE_ok (x:=dn) (hM.out.trans ?_) (by simp only [hdn];try rfl) ⟨e,(rk.clear _ (List.mem_of_getElem? (show _[1]? = some _ from rfl))),hgn⟩ rk.inv rk.stp
    show Except.ok (dn ++ [],sk) = _
    rw [List.append_nil]
end Go.Proofs.YtecilienolabfaaGreatDoor
/- WalkBase: What goes through objects and bases, by a coder. -/
namespace Go.Proofs.YtecilienolabfaaGreatDoor
set_option linter.unusedSimpArgs false
set_option linter.unusedVariables false
set_option maxRecDepth 100000
open Go.RowKit
theorem wb_obj (t:Bool) (d:List UInt8):Tryz.prog.built 29 [(0,.bool t),(1,strV d)] = some (objC ⟨t,d,[],[],[]⟩):=by kernel_rfl
theorem wattrs_size (a b c:List UInt8):(Tryz.prog.info? 27).map (·.size) = some [strV a,strV b,strV c].length:=by show _ = some 3;kernel_rfl
theorem obj_attrs {w:World} {g:Nat} {t:TypeId} {x:ObjV} (h:Has w g t (objC x)):w.rangeAt g 2 [strV x.a0,strV x.a1,strV x.a2]:=h.range 2 _ fun j v hj=>by
 match j,hj with
 | 0,hj=>exact hj
 | 1,hj=>exact hj
 | 2,hj=>exact hj
set_option maxHeartbeats 8000000 in
theorem xfg {B:Prop} {C:CodM} {cv:Value} {I:Inv} {R:Nat → Prop} (hC:Coder B C cv I R) (w:World) (s:List UInt8) (F:Nat → Prop) (x:ObjV) (hI:I w s F) (hx:ObG x) (hne:Bare B (obM C x s)):Calls Tryz.prog 130 #[.agg #[cv],.agg (objC x)] w (Ends I F w (obM C x s) fun m=>.agg (objC m)):=by
 have hM:Hid (obM C x s = ((flagM C x.there).bind fun t=>(dataM C x.data).bind fun d=>(dataM C x.a0).bind fun a=>(dataM C x.a1).bind fun b=>(dataM C x.a2).bind fun c=>.ret ⟨t,d,a,b,c⟩) s):=rfl
 obtain ⟨W,hW,r⟩:=xdr hC hI 82 29 29 #[cv] (objC x) (objC obj0)
 go_enter Tryz.func130,Tryz.ntmps130
 go_wp2_with (first
  | (refine xac (by rfl) 29 rfl (objC obj0) xdk ?_;rw [hW];clear hW;simp only [xgs]))
 have r0:=r.drew hC
 clear r
 let F5:Act → Act → World → Prop:=fun a a' w'=>∃ (g:Nat) (t:Bool) (d s2:List UInt8) (F2:Nat → Prop),a' = ((((((((((a.put (some 8) (.agg #[cv])).put (some 9) (.pointer (some ⟨w.heap.size + 1,0,none⟩))).put (some 10) (.bool x.there)).put (some 12) (.agg #[cv])).put (some 13) (.pointer (some ⟨w.heap.size + 1,1,none⟩))).put (some 14) (strV x.data)).put (some 11) (.bool t)).put (some 15) (strV d)).put (some 16) (.agg (objC ⟨t,d,[],[],[]⟩))).put (some 5) (.pointer (some ⟨g,0,none⟩))) ∧
  Run I R F w F2 w' s2 [(w.heap.size,82,#[cv]),(w.heap.size + 1,29,objC x),(w.heap.size + 1 + 1,29,objC obj0),(g,29,objC ⟨t,d,[],[],[]⟩)] ∧ w.heap.size + 1 + 1 < g ∧ Hid (obM C x s = ((dataM C x.a0).bind fun a=>(dataM C x.a1).bind fun b=>(dataM C x.a2).bind fun c=>.ret ⟨t,d,a,b,c⟩) s2)
 refine xgt (Held I R F w [(w.heap.size,82,#[cv]),(w.heap.size + 1,29,objC x)]) (Plan.of [(0,true),(1,true),(2,true),(4,true),(5,true),(6,true)] (.either 3 (.either 7 (Plan.of [(8,true),(9,false),(10,false)] .done) 9 (Plan.of [(7,false),(8,true),(10,false)] .done)) 9 (Plan.of [(3,false),(7,false),(8,true),(10,false)] .done))) (Thr F w (obM C x s)) F5 (by kernel_rfl) (by kernel_rfl) (by kernel_rfl) (by kernel_rfl) r0.held2 (fun c a' w' h hd=>⟨hd,h.ends⟩) ?_ ?_
 ·generalize W.drew = w0 at *
  refine xaa _ _ rfl (xan (by rfl) 82 _ rfl w.heap.size rfl 82 #[cv] _ Tryz.underlying82 rfl (xav cv) (fun W hS=>hS.get 0 rfl)) ?_
  try simp only [qp,qa,qb,qc]
  iterate 1
   first
    | (refine xad _ rfl (by rfl) ?_)
    | (refine xaa _ _ rfl (.inl ⟨by rfl,fun W hS=>by clear hS;go_simp;try with_reducible rfl⟩) ?_)
   try simp only [qp,qa,qb,qc]
  iterate 1
   first
    | (refine xad _ rfl (by rfl) ?_)
    | (refine xaa _ _ rfl (.inl ⟨by rfl,fun W hS=>by have z:=hS.cell 1 rfl 0 (v:=.bool x.there) rfl;go_simp;try with_reducible rfl⟩) ?_)
   try simp only [qp,qa,qb,qc]
  refine xaa _ _ rfl (xan (by rfl) 82 _ rfl w.heap.size rfl 82 #[cv] _ Tryz.underlying82 rfl (xav cv) (fun W hS=>hS.get 0 rfl)) ?_
  try simp only [qp,qa,qb,qc]
  iterate 1
   first
    | (refine xad _ rfl (by rfl) ?_)
    | (refine xaa _ _ rfl (.inl ⟨by rfl,fun W hS=>by clear hS;go_simp;try with_reducible rfl⟩) ?_)
   try simp only [qp,qa,qb,qc]
  iterate 1
   first
    | (refine xad _ rfl (by rfl) ?_)
    | (refine xaa _ _ rfl (.inl ⟨by rfl,fun W hS=>by have z:=hS.cell 1 rfl 1 (v:=strV x.data) rfl;go_simp;try with_reducible rfl⟩) ?_)
   try simp only [qp,qa,qb,qc]
  refine xek ?_ ?_
  ·refine xam _ rfl (fun K hK=>?_)
   go_simp
   refine (wflag_any hC _ _ _ x.there r0.inv (hne.here hM.out)).mono ?_
   intro e w1 h1
   rcases h1.split with ⟨q,hr,rfl,G,hs⟩ | ⟨y1,s1,F1,hr,rfl,hI1,hs1⟩
   ·exact xbo (xbp (hM.out.trans (xau hr)) ⟨_,r0.stp.trans hs⟩) rfl
   replace hM:Hid _:=hM.out.trans (xag hr)
   have r1:=r0.call hC hI1 hs1
   refine hK.out _ _ r1.held2 ?_
   clear hK K hr h1 hs1
   try simp only [qp,qa,qb,qc]
   refine xek ?_ ?_
   ·refine xam _ rfl (fun K hK=>?_)
    go_simp
    refine (hC.data _ _ _ x.data r1.inv (Nat.le_trans hx.data (by decide)) (hne.here hM.out)).mono ?_
    intro e w2 h2
    rcases h2.split with ⟨q,hr,rfl,G,hs⟩ | ⟨y2,s2,F2,hr,rfl,hI2,hs2⟩
    ·exact xbo (xbp (hM.out.trans (xau hr)) ⟨_,r1.stp.trans hs⟩) rfl
    replace hM:Hid _:=hM.out.trans (xag hr)
    have r2:=r1.call hC hI2 hs2
    refine hK.out _ _ r2.held2 ?_
    clear hK K hr h2 hs2
    try simp only [qp,qa,qb,qc]
    refine xaa _ _ rfl (xat (by rfl) 29 _ rfl [(0,.bool y1),(1,strV y2)] rfl (objC ⟨y1,y2,[],[],[]⟩) (wb_obj y1 y2)) ?_
    try simp only [qp,qa,qb,qc]
    have r3:=r2.alloc hC 29 (objC obj0)
    have hgl:=(r2.get 2 rfl).lt
    refine xdh _ rfl (by rfl) 29 rfl (objC obj0) xdk r3.held2 ?_
    try simp only [qp,qa,qb,qc]
    have hgl':w.heap.size + 1 + 1 < w2.heap.size:=hgl
    have r9:=r3.fourth hC (hgl') (xbb _ (objC ⟨y1,y2,[],[],[]⟩)) ((r3.get 3 rfl).row _)
    refine xbs _ rfl (by rfl) 29 _ _ rfl _ rfl (objC ⟨y1,y2,[],[],[]⟩) rfl 29 (objC obj0) (xbq _) rfl (xdd _) (r3.get 3 rfl) r9.held2 ?_
    try simp only [qp,qa,qb,qc]
    refine xcd (xgp ?_)
    exact ⟨_,y1,y2,_,_,(by simp only [qp,qa,qb,qc]),r9,hgl',hM⟩
   ·have r3:=r1.alloc hC 29 (objC obj0)
    have hgl:=(r1.get 2 rfl).lt
    refine xdh _ rfl (by rfl) 29 rfl (objC obj0) xdk r3.held2 ?_
    try simp only [qp,qa,qb,qc]
    have hgl':w.heap.size + 1 + 1 < w1.heap.size:=hgl
    refine xam _ rfl (fun K hK=>?_)
    go_simp
    refine (hC.data _ _ _ x.data r3.inv (Nat.le_trans hx.data (by decide)) (hne.here hM.out)).mono ?_
    intro e w2 h2
    rcases h2.split with ⟨q,hr,rfl,G,hs⟩ | ⟨y2,s2,F2,hr,rfl,hI2,hs2⟩
    ·exact xbo (xbp (hM.out.trans (xau hr)) ⟨_,r3.stp.trans hs⟩) rfl
    replace hM:Hid _:=hM.out.trans (xag hr)
    have r2:=r3.call hC hI2 hs2
    refine hK.out _ _ r2.held2 ?_
    clear hK K hr h2 hs2
    try simp only [qp,qa,qb,qc]
    refine xaa _ _ rfl (xat (by rfl) 29 _ rfl [(0,.bool y1),(1,strV y2)] rfl (objC ⟨y1,y2,[],[],[]⟩) (wb_obj y1 y2)) ?_
    try simp only [qp,qa,qb,qc]
    have r9:=r2.fourth hC (hgl') (xbb _ (objC ⟨y1,y2,[],[],[]⟩)) ((r2.get 3 rfl).row _)
    refine xbs _ rfl (by rfl) 29 _ _ rfl _ rfl (objC ⟨y1,y2,[],[],[]⟩) rfl 29 (objC obj0) (xbq _) rfl (xdd _) (r2.get 3 rfl) r9.held2 ?_
    try simp only [qp,qa,qb,qc]
    refine xcd (xgp ?_)
    exact ⟨_,y1,y2,_,_,(by simp only [qp,qa,qb,qc]),r9,hgl',hM⟩
  ·have r3:=r0.alloc hC 29 (objC obj0)
   have hgl:=(r0.get 2 rfl).lt
   refine xdh _ rfl (by rfl) 29 rfl (objC obj0) xdk r3.held2 ?_
   try simp only [qp,qa,qb,qc]
   have hgl':w.heap.size + 1 + 1 < w0.heap.size:=hgl
   refine xam _ rfl (fun K hK=>?_)
   go_simp
   refine (wflag_any hC _ _ _ x.there r3.inv (hne.here hM.out)).mono ?_
   intro e w1 h1
   rcases h1.split with ⟨q,hr,rfl,G,hs⟩ | ⟨y1,s1,F1,hr,rfl,hI1,hs1⟩
   ·exact xbo (xbp (hM.out.trans (xau hr)) ⟨_,r3.stp.trans hs⟩) rfl
   replace hM:Hid _:=hM.out.trans (xag hr)
   have r1:=r3.call hC hI1 hs1
   refine hK.out _ _ r1.held2 ?_
   clear hK K hr h1 hs1
   try simp only [qp,qa,qb,qc]
   refine xam _ rfl (fun K hK=>?_)
   go_simp
   refine (hC.data _ _ _ x.data r1.inv (Nat.le_trans hx.data (by decide)) (hne.here hM.out)).mono ?_
   intro e w2 h2
   rcases h2.split with ⟨q,hr,rfl,G,hs⟩ | ⟨y2,s2,F2,hr,rfl,hI2,hs2⟩
   ·exact xbo (xbp (hM.out.trans (xau hr)) ⟨_,r1.stp.trans hs⟩) rfl
   replace hM:Hid _:=hM.out.trans (xag hr)
   have r2:=r1.call hC hI2 hs2
   refine hK.out _ _ r2.held2 ?_
   clear hK K hr h2 hs2
   try simp only [qp,qa,qb,qc]
   refine xaa _ _ rfl (xat (by rfl) 29 _ rfl [(0,.bool y1),(1,strV y2)] rfl (objC ⟨y1,y2,[],[],[]⟩) (wb_obj y1 y2)) ?_
   try simp only [qp,qa,qb,qc]
   have r9:=r2.fourth hC (hgl') (xbb _ (objC ⟨y1,y2,[],[],[]⟩)) ((r2.get 3 rfl).row _)
   refine xbs _ rfl (by rfl) 29 _ _ rfl _ rfl (objC ⟨y1,y2,[],[],[]⟩) rfl 29 (objC obj0) (xbq _) rfl (xdd _) (r2.get 3 rfl) r9.held2 ?_
   try simp only [qp,qa,qb,qc]
   refine xcd (xgp ?_)
   exact ⟨_,y1,y2,_,_,(by simp only [qp,qa,qb,qc]),r9,hgl',hM⟩
 ·rintro a' w1 ⟨g,t,d,s2,F2,rfl,r2,hg,hM⟩
  have hat:=obj_attrs (r2.get 1 rfl)
  go_wp2_with (first
   | (refine xae (by rfl) 27 _ rfl (w.heap.size + 1) 2 rfl [strV x.a0,strV x.a1,strV x.a2] _ ?hg Tryz.underlying27 rfl (wattrs_size _ _ _) ?_;(case hg=>exact hat)))
  clear hat
  refine wp_loop_rounds 4 ?_
  rw [rounds_succ]
  have hL:=r2.get 0 rfl
  go_wp2_with (first
   | (refine xab (by rfl) 82 _ rfl w.heap.size rfl 82 #[cv] _ Tryz.underlying82 rfl (xav cv) ?hg ?_;(case hg=>exact hL))
   | (refine xco (by rfl) 27 _ _ rfl 0 #[strV x.a0,strV x.a1,strV x.a2] rfl rfl 9 3 _ Tryz.underlying27 (by decide) Tryz.underlying9 rfl xdm (strV x.a0) rfl ?_))
  clear hL
  refine (hC.data _ _ _ x.a0 r2.inv (Nat.le_trans hx.a0 (by decide)) (hne.here hM.out)).mono ?_
  intro e w3 h3
  rcases h3.split with ⟨q,hr,rfl,G,hs⟩ | ⟨y3,s3,F3,hr,rfl,hI3,hs3⟩
  ·unfold thrown
   have hE:Hid _:=hM.out.trans (xau hr)
   have hs':Hid _:=r2.stp.trans hs
   clear h3 hM hr hs
   go_wp2
   exact ⟨rfl,xck hE.out rfl ⟨_,hs'.out⟩⟩
  replace hM:Hid _:=hM.out.trans (xag hr)
  have r3:=r2.call hC hI3 hs3
  clear h3 hr hs3 hI3
  have hc:w3.cell? ⟨g,2,none⟩ = some (strV []):=(r3.get 3 rfl).cell 2
  have hz:w3.frozen? ⟨g,2,none⟩ = false:=(r3.get 3 rfl).free 2
  have r4:Run I R F w F3 (w3.setCell ⟨g,2,none⟩ (strV y3)) s3 [(w.heap.size,82,#[cv]),(w.heap.size + 1,29,objC x),(w.heap.size + 1 + 1,29,objC obj0),(g,29,objC ⟨t,d,y3,[],[]⟩)]:=r3.fourth hC hg (xaq w3 2 (strV y3)) ((r3.get 3 rfl).set 2 (strV y3))
  obtain ⟨w4,hw4⟩:∃ W,w3.setCell ⟨g,2,none⟩ (.string (mkS y3)) = W:=⟨_,rfl⟩
  rw [show w3.setCell ⟨g,2,none⟩ (strV y3) = w4 from hw4] at r4
  unfold strV at hc ⊢
  clear r2 r3
  go_wp2
  clear hc hz hw4
  rw [rounds_succ]
  have hL:=r4.get 0 rfl
  go_wp2_with (first
   | (refine xab (by rfl) 82 _ rfl w.heap.size rfl 82 #[cv] _ Tryz.underlying82 rfl (xav cv) ?hg ?_;(case hg=>exact hL))
   | (refine xco (by rfl) 27 _ _ rfl 1 #[strV x.a0,strV x.a1,strV x.a2] rfl rfl 9 3 _ Tryz.underlying27 (by decide) Tryz.underlying9 rfl xdm (strV x.a1) rfl ?_))
  clear hL
  refine (hC.data _ _ _ x.a1 r4.inv (Nat.le_trans hx.a1 (by decide)) (hne.here hM.out)).mono ?_
  intro e w5 h5
  rcases h5.split with ⟨q,hr,rfl,G,hs⟩ | ⟨y5,s5,F5,hr,rfl,hI5,hs5⟩
  ·unfold thrown
   have hE:Hid _:=hM.out.trans (xau hr)
   have hs':Hid _:=r4.stp.trans hs
   clear h5 hM hr hs
   go_wp2
   exact ⟨rfl,xck hE.out rfl ⟨_,hs'.out⟩⟩
  replace hM:Hid _:=hM.out.trans (xag hr)
  have r5:=r4.call hC hI5 hs5
  clear h5 hr hs5 hI5
  have hc:w5.cell? ⟨g,3,none⟩ = some (strV []):=(r5.get 3 rfl).cell 3
  have hz:w5.frozen? ⟨g,3,none⟩ = false:=(r5.get 3 rfl).free 3
  have r6:Run I R F w F5 (w5.setCell ⟨g,3,none⟩ (strV y5)) s5 [(w.heap.size,82,#[cv]),(w.heap.size + 1,29,objC x),(w.heap.size + 1 + 1,29,objC obj0),(g,29,objC ⟨t,d,y3,y5,[]⟩)]:=r5.fourth hC hg (xaq w5 3 (strV y5)) ((r5.get 3 rfl).set 3 (strV y5))
  obtain ⟨w6,hw6⟩:∃ W,w5.setCell ⟨g,3,none⟩ (.string (mkS y5)) = W:=⟨_,rfl⟩
  rw [show w5.setCell ⟨g,3,none⟩ (strV y5) = w6 from hw6] at r6
  unfold strV at hc ⊢
  clear r4 r5
  go_wp2
  clear hc hz hw6
  rw [rounds_succ]
  have hL:=r6.get 0 rfl
  go_wp2_with (first
   | (refine xab (by rfl) 82 _ rfl w.heap.size rfl 82 #[cv] _ Tryz.underlying82 rfl (xav cv) ?hg ?_;(case hg=>exact hL))
   | (refine xco (by rfl) 27 _ _ rfl 2 #[strV x.a0,strV x.a1,strV x.a2] rfl rfl 9 3 _ Tryz.underlying27 (by decide) Tryz.underlying9 rfl xdm (strV x.a2) rfl ?_))
  clear hL
  refine (hC.data _ _ _ x.a2 r6.inv (Nat.le_trans hx.a2 (by decide)) (hne.here hM.out)).mono ?_
  intro e w7 h7
  rcases h7.split with ⟨q,hr,rfl,G,hs⟩ | ⟨y7,s7,F7,hr,rfl,hI7,hs7⟩
  ·unfold thrown
   have hE:Hid _:=hM.out.trans (xau hr)
   have hs':Hid _:=r6.stp.trans hs
   clear h7 hM hr hs
   go_wp2
   exact ⟨rfl,xck hE.out rfl ⟨_,hs'.out⟩⟩
  replace hM:Hid _:=hM.out.trans (xag hr)
  have r7:=r6.call hC hI7 hs7
  clear h7 hr hs7 hI7
  have hc:w7.cell? ⟨g,4,none⟩ = some (strV []):=(r7.get 3 rfl).cell 4
  have hz:w7.frozen? ⟨g,4,none⟩ = false:=(r7.get 3 rfl).free 4
  have r8:Run I R F w F7 (w7.setCell ⟨g,4,none⟩ (strV y7)) s7 [(w.heap.size,82,#[cv]),(w.heap.size + 1,29,objC x),(w.heap.size + 1 + 1,29,objC obj0),(g,29,objC ⟨t,d,y3,y5,y7⟩)]:=r7.fourth hC hg (xaq w7 4 (strV y7)) ((r7.get 3 rfl).set 4 (strV y7))
  obtain ⟨w8,hw8⟩:∃ W,w7.setCell ⟨g,4,none⟩ (.string (mkS y7)) = W:=⟨_,rfl⟩
  rw [show w7.setCell ⟨g,4,none⟩ (strV y7) = w8 from hw8] at r8
  unfold strV at hc ⊢
  clear r6 r7
  go_wp2
  clear hc hz hw8
  rw [rounds_succ]
  have hX8:=r8.get 3 rfl
  have hR8:=r8.get 2 rfl
  have r9:=r8.wrote hC 2 rfl (fun j e hj hne=>by
   match j,hj with
   | 0,hj=>obtain rfl:=Option.some.inj hj;show w.heap.size ≠ _;omega
   | 1,hj=>obtain rfl:=Option.some.inj hj;show w.heap.size + 1 ≠ _;omega
   | 2,_=>exact absurd rfl hne
   | 3,hj=>obtain rfl:=Option.some.inj hj;show g ≠ _;omega) (xbb w8 (objC ⟨t,d,y3,y5,y7⟩)) (hR8.row _)
  go_wp2_with (first
   | (refine xab (by rfl) 29 _ rfl g rfl 29 (objC ⟨t,d,y3,y5,y7⟩) _ Tryz.underlying29 rfl (xbq _) ?hg ?_;(case hg=>exact hX8))
   | (refine xao (by rfl) 29 _ _ rfl (w.heap.size + 1 + 1) rfl (objC ⟨t,d,y3,y5,y7⟩) rfl 29 (objC obj0) (xbq _) rfl (xdd _) ?hg ?_;(case hg=>exact hR8)))
  refine xba rfl (w.heap.size + 1 + 1) rfl 29 (objC ⟨t,d,y3,y5,y7⟩) _ Tryz.underlying29 rfl (xbq _) (r9.get 2 rfl) rfl (xda hM.out rfl r9.inv r9.stp)
end Go.Proofs.YtecilienolabfaaGreatDoor
/- WalkAll: What goes through bases, by a coder. Written by tools/bgen.py. -/
namespace Go.Proofs.YtecilienolabfaaGreatDoor
set_option linter.unusedSimpArgs false
set_option linter.unusedVariables false
set_option maxRecDepth 100000
open Go.RowKit
section
variable {B:Prop} {C:CodM} {cv:Value} {I:Inv} {R F F0:Nat → Prop} {w w0 w':World} {s:List UInt8}
theorem Run.fresh (hC:Coder B C cv I R) {l:List Var} (h:Run I R F0 w0 F w s l) (hq:Below w.heap.size w w') {t:TypeId} {c:Array Value} (hX:Has w' w.heap.size t c):Run I R F0 w0 F w' s (l ++ [(w.heap.size,t,c)]) :=
 (h.later hC hq).also hX ⟨fun q=>absurd (hC.lt _ _ _ h.inv _ (.inl q)) (Nat.lt_irrefl _),fun q=>absurd (hC.lt _ _ _ h.inv _ (.inr q)) (Nat.lt_irrefl _)⟩ h.stp.off.size
theorem Run.second (hC:Coder B C cv I R) {t1 t2 t3 t4:TypeId} {c1 c2 c3 c4 c':Array Value} {g k:Nat} (h:Run I R F0 w0 F w s [(g,t1,c1),(g + 1,t2,c2),(g + 1 + 1,t3,c3),(k,t4,c4)]) (hk:g + 1 + 1 < k) (hB:But (g + 1) w w') (hg:Has w' (g + 1) t2 c') :
  Run I R F0 w0 F w' s [(g,t1,c1),(g + 1,t2,c'),(g + 1 + 1,t3,c3)] :=
 (h.wrote hC 1 rfl (fun j e hj hne=>by
  match j,hj with
  | 0,hj=>obtain rfl:=Option.some.inj hj;show g ≠ _;omega
  | 1,_=>exact absurd rfl hne
  | 2,hj=>obtain rfl:=Option.some.inj hj;show g + 1 + 1 ≠ _;omega
  | 3,hj=>obtain rfl:=Option.some.inj hj;show k ≠ _;omega) hB hg).sub fun e he=>by
   rcases List.mem_cons.1 he with rfl | he
   ·simp
   ·rcases List.mem_cons.1 he with rfl | he
    ·simp
    ·rw [List.mem_singleton.1 he];simp
end
structure BsW (b:BaseV):Prop where
 obj:∀ i,ObG (b.obj i)
 seq:∀ i,(b.last i).seq < 4294967296
 code:∀ i,(b.last i).r.code < 256
theorem wput_obj0 (a b c d e f x:ObjV) (l:Fin 3 → LastV):(putAt (baseL ⟨objs6 a b c d e f,l⟩) 0 (objL x)).toArray = baseC ⟨objs6 x b c d e f,l⟩:=by kernel_rfl
theorem wput_obj1 (a b c d e f x:ObjV) (l:Fin 3 → LastV):(putAt (baseL ⟨objs6 a b c d e f,l⟩) 5 (objL x)).toArray = baseC ⟨objs6 a x c d e f,l⟩:=by kernel_rfl
theorem wput_obj2 (a b c d e f x:ObjV) (l:Fin 3 → LastV):(putAt (baseL ⟨objs6 a b c d e f,l⟩) 10 (objL x)).toArray = baseC ⟨objs6 a b x d e f,l⟩:=by kernel_rfl
theorem wput_obj3 (a b c d e f x:ObjV) (l:Fin 3 → LastV):(putAt (baseL ⟨objs6 a b c d e f,l⟩) 15 (objL x)).toArray = baseC ⟨objs6 a b c x e f,l⟩:=by kernel_rfl
theorem wput_obj4 (a b c d e f x:ObjV) (l:Fin 3 → LastV):(putAt (baseL ⟨objs6 a b c d e f,l⟩) 20 (objL x)).toArray = baseC ⟨objs6 a b c d x f,l⟩:=by kernel_rfl
theorem wput_obj5 (a b c d e f x:ObjV) (l:Fin 3 → LastV):(putAt (baseL ⟨objs6 a b c d e f,l⟩) 25 (objL x)).toArray = baseC ⟨objs6 a b c d e x,l⟩:=by kernel_rfl
theorem wput_last0 (o:Fin 6 → ObjV) (a b c x:LastV):(putAt (baseL ⟨o,lasts3 a b c⟩) 30 (lastL x)).toArray = baseC ⟨o,lasts3 x b c⟩:=by kernel_rfl
theorem wput_last1 (o:Fin 6 → ObjV) (a b c x:LastV):(putAt (baseL ⟨o,lasts3 a b c⟩) 33 (lastL x)).toArray = baseC ⟨o,lasts3 a x c⟩:=by kernel_rfl
theorem wput_last2 (o:Fin 6 → ObjV) (a b c x:LastV):(putAt (baseL ⟨o,lasts3 a b c⟩) 36 (lastL x)).toArray = baseC ⟨o,lasts3 a b x⟩:=by kernel_rfl
set_option maxHeartbeats 16000000 in
theorem wbase_any {B:Prop} {C:CodM} {cv:Value} {I:Inv} {R:Nat → Prop} (hC:Coder B C cv I R) (w:World) (s:List UInt8) (F:Nat → Prop) (b:BaseV) (hI:I w s F) (hb:BsW b) (hne:Bare B (bsM C b s)):Calls Tryz.prog 102 #[.agg #[cv],.agg (baseC b)] w (Ends I F w (bsM C b s) fun m=>.agg (baseC m)):=by
 have hM:Hid (bsM C b s = ((obM C (b.obj 0)).bind fun o0=>(obM C (b.obj 1)).bind fun o1=>(obM C (b.obj 2)).bind fun o2=>(obM C (b.obj 3)).bind fun o3=>(obM C (b.obj 4)).bind fun o4=>(obM C (b.obj 5)).bind fun o5 =>
  (lstM C (b.last 0)).bind fun l0=>(lstM C (b.last 1)).bind fun l1=>(lstM C (b.last 2)).bind fun l2=>.ret ⟨objs6 o0 o1 o2 o3 o4 o5,lasts3 l0 l1 l2⟩) s):=rfl
 have e:b = ⟨objs6 (b.obj 0) (b.obj 1) (b.obj 2) (b.obj 3) (b.obj 4) (b.obj 5),lasts3 (b.last 0) (b.last 1) (b.last 2)⟩:=by rw [objs6_self,lasts3_self]
 have g0:=hb.obj 0
 have g1:=hb.obj 1
 have g2:=hb.obj 2
 have g3:=hb.obj 3
 have g4:=hb.obj 4
 have g5:=hb.obj 5
 have a0:=hb.seq 0
 have a1:=hb.seq 1
 have a2:=hb.seq 2
 have b0:=hb.code 0
 have b1:=hb.code 1
 have b2:=hb.code 2
 generalize b.obj 0 = o0 at *
 generalize b.obj 1 = o1 at *
 generalize b.obj 2 = o2 at *
 generalize b.obj 3 = o3 at *
 generalize b.obj 4 = o4 at *
 generalize b.obj 5 = o5 at *
 generalize b.last 0 = l0 at *
 generalize b.last 1 = l1 at *
 generalize b.last 2 = l2 at *
 clear hb
 subst e
 obtain ⟨W,hW,r0⟩:=xdr hC hI 82 37 37 #[cv] (baseC ⟨objs6 o0 o1 o2 o3 o4 o5,lasts3 l0 l1 l2⟩) (baseC base0)
 have ho:=objs_in (r0.get 1 rfl)
 go_enter Tryz.func102,Tryz.ntmps102
 go_wp2_with (first
  | (refine xac (by rfl) 37 rfl (baseC base0) base_zero ?_;rw [hW];clear hW;simp only [xgs])
  | (refine xae (by rfl) 30 _ rfl (w.heap.size + 1) 0 rfl (objsL (objs6 o0 o1 o2 o3 o4 o5)) _ ?hg Tryz.underlying30 rfl (objs_size _) ?_;(case hg=>exact ho)))
 clear ho
 obtain ⟨f,hf⟩:∃ f,f = objs6 o0 o1 o2 o3 o4 o5:=⟨_,rfl⟩
 have f0:Hid ((objsL (objs6 o0 o1 o2 o3 o4 o5)).toArray.extract (0 * 5) (0 * 5 + 5) = objC o0):=xgd (objs6 o0 o1 o2 o3 o4 o5) 0
 have f1:Hid ((objsL (objs6 o0 o1 o2 o3 o4 o5)).toArray.extract (1 * 5) (1 * 5 + 5) = objC o1):=xgd (objs6 o0 o1 o2 o3 o4 o5) 1
 have f2:Hid ((objsL (objs6 o0 o1 o2 o3 o4 o5)).toArray.extract (2 * 5) (2 * 5 + 5) = objC o2):=xgd (objs6 o0 o1 o2 o3 o4 o5) 2
 have f3:Hid ((objsL (objs6 o0 o1 o2 o3 o4 o5)).toArray.extract (3 * 5) (3 * 5 + 5) = objC o3):=xgd (objs6 o0 o1 o2 o3 o4 o5) 3
 have f4:Hid ((objsL (objs6 o0 o1 o2 o3 o4 o5)).toArray.extract (4 * 5) (4 * 5 + 5) = objC o4):=xgd (objs6 o0 o1 o2 o3 o4 o5) 4
 have f5:Hid ((objsL (objs6 o0 o1 o2 o3 o4 o5)).toArray.extract (5 * 5) (5 * 5 + 5) = objC o5):=xgd (objs6 o0 o1 o2 o3 o4 o5) 5
 generalize hW0:W = w0 at *
 clear hW0
 refine wp_loop_rounds 7 ?_
 rw [rounds_succ]
 obtain ⟨w1,hw1,hX,hq⟩:=xcm w0 29 (objC obj0) (objC o0)
 have hgl:w.heap.size + 1 + 1 < w0.heap.size:=(r0.get 2 rfl).lt
 have r1:=r0.fresh hC hq hX
 have hL:=r1.get 0 rfl
 go_wp2_with (first
  | (refine xce (by rfl) 30 _ _ rfl 0 (objsL (objs6 o0 o1 o2 o3 o4 o5)).toArray rfl rfl 29 6 5 _ Tryz.underlying30 (by decide) Tryz.underlying29 rfl xge ?_;rw [f0.out])
  | (refine xac (by rfl) 29 rfl (objC obj0) xdk ?_)
  | (refine xai (by rfl) 29 _ _ rfl w0.heap.size rfl (objC o0) rfl 29 (objC obj0) (xbq _) rfl (xdd _) ?hg w1 ?hW ?_;(case hg=>exact Has.new _ _ _);(case hW=>exact hw1);clear hw1)
  | (refine xab (by rfl) 82 _ rfl w.heap.size rfl 82 #[cv] _ Tryz.underlying82 rfl (xav cv) ?hg ?_;(case hg=>exact hL))
  | (refine xab (by rfl) 29 _ rfl w0.heap.size rfl 29 (objC o0) _ Tryz.underlying29 rfl (xbq _) ?hg ?_;(case hg=>exact hX)))
 clear hL hX hq
 refine (xfg hC _ _ _ o0 r1.inv g0 (hne.here hM.out)).mono ?_
 intro e w2 h9
 rcases h9.split with ⟨q,hr,rfl,G,hs⟩ | ⟨y2,s2,F2,hr,rfl,hI9,hs9⟩
 ·unfold thrown
  have hE:Hid _:=hM.out.trans (xau hr)
  have hs':Hid _:=r1.stp.trans hs
  clear h9 hM hr hs
  go_wp2
  exact ⟨rfl,xck hE.out rfl ⟨_,hs'.out⟩⟩
 replace hM:Hid _:=hM.out.trans (xag hr)
 have r2:=r1.call hC hI9 hs9
 clear h9 hr hs9 hI9
 have hth:=(r2.get 1 rfl).there 0 5 (show 0 + 5 ≤ 39 by decide)
 have hput:=(show Has w2 (w.heap.size + 1) 37 (baseL ⟨objs6 o0 o1 o2 o3 o4 o5,lasts3 l0 l1 l2⟩).toArray from r2.get 1 rfl).putCells (objL y2) 0 (show 0 + 5 ≤ 39 by decide)
 rw [wput_obj0] at hput
 have r3:=r2.second hC hgl (xap (objL y2) 0) hput
 obtain ⟨w3,hw3⟩:∃ W,w2.setCells (w.heap.size + 1) 0 (objL y2) = W:=⟨_,rfl⟩
 rw [hw3] at r3
 clear r0 r1 r2 hput hgl
 go_wp2_with (first
  | (refine xak (by rfl) 29 _ _ rfl (w.heap.size + 1) 0 (objC y2) rfl rfl ?ht (xbq _) (xdd _) ?_;(case ht=>exact hth);rw [show w2.setCells (w.heap.size + 1) 0 (objC y2).toList = w3 from hw3]))
 clear hth hw3
 rw [rounds_succ]
 obtain ⟨w4,hw4,hX,hq⟩:=xcm w3 29 (objC obj0) (objC o1)
 have hgl:w.heap.size + 1 + 1 < w3.heap.size:=(r3.get 2 rfl).lt
 have r4:=r3.fresh hC hq hX
 have hL:=r4.get 0 rfl
 go_wp2_with (first
  | (refine xce (by rfl) 30 _ _ rfl 1 (objsL (objs6 o0 o1 o2 o3 o4 o5)).toArray rfl rfl 29 6 5 _ Tryz.underlying30 (by decide) Tryz.underlying29 rfl xge ?_;rw [f1.out])
  | (refine xac (by rfl) 29 rfl (objC obj0) xdk ?_)
  | (refine xai (by rfl) 29 _ _ rfl w3.heap.size rfl (objC o1) rfl 29 (objC obj0) (xbq _) rfl (xdd _) ?hg w4 ?hW ?_;(case hg=>exact Has.new _ _ _);(case hW=>exact hw4);clear hw4)
  | (refine xab (by rfl) 82 _ rfl w.heap.size rfl 82 #[cv] _ Tryz.underlying82 rfl (xav cv) ?hg ?_;(case hg=>exact hL))
  | (refine xab (by rfl) 29 _ rfl w3.heap.size rfl 29 (objC o1) _ Tryz.underlying29 rfl (xbq _) ?hg ?_;(case hg=>exact hX)))
 clear hL hX hq
 refine (xfg hC _ _ _ o1 r4.inv g1 (hne.here hM.out)).mono ?_
 intro e w5 h9
 rcases h9.split with ⟨q,hr,rfl,G,hs⟩ | ⟨y5,s5,F5,hr,rfl,hI9,hs9⟩
 ·unfold thrown
  have hE:Hid _:=hM.out.trans (xau hr)
  have hs':Hid _:=r4.stp.trans hs
  clear h9 hM hr hs
  go_wp2
  exact ⟨rfl,xck hE.out rfl ⟨_,hs'.out⟩⟩
 replace hM:Hid _:=hM.out.trans (xag hr)
 have r5:=r4.call hC hI9 hs9
 clear h9 hr hs9 hI9
 have hth:=(r5.get 1 rfl).there 5 5 (show 5 + 5 ≤ 39 by decide)
 have hput:=(show Has w5 (w.heap.size + 1) 37 (baseL ⟨objs6 y2 o1 o2 o3 o4 o5,lasts3 l0 l1 l2⟩).toArray from r5.get 1 rfl).putCells (objL y5) 5 (show 5 + 5 ≤ 39 by decide)
 rw [wput_obj1] at hput
 have r6:=r5.second hC hgl (xap (objL y5) 5) hput
 obtain ⟨w6,hw6⟩:∃ W,w5.setCells (w.heap.size + 1) 5 (objL y5) = W:=⟨_,rfl⟩
 rw [hw6] at r6
 clear r3 r4 r5 hput hgl
 go_wp2_with (first
  | (refine xak (by rfl) 29 _ _ rfl (w.heap.size + 1) 5 (objC y5) rfl rfl ?ht (xbq _) (xdd _) ?_;(case ht=>exact hth);rw [show w5.setCells (w.heap.size + 1) 5 (objC y5).toList = w6 from hw6]))
 clear hth hw6
 rw [rounds_succ]
 obtain ⟨w7,hw7,hX,hq⟩:=xcm w6 29 (objC obj0) (objC o2)
 have hgl:w.heap.size + 1 + 1 < w6.heap.size:=(r6.get 2 rfl).lt
 have r7:=r6.fresh hC hq hX
 have hL:=r7.get 0 rfl
 go_wp2_with (first
  | (refine xce (by rfl) 30 _ _ rfl 2 (objsL (objs6 o0 o1 o2 o3 o4 o5)).toArray rfl rfl 29 6 5 _ Tryz.underlying30 (by decide) Tryz.underlying29 rfl xge ?_;rw [f2.out])
  | (refine xac (by rfl) 29 rfl (objC obj0) xdk ?_)
  | (refine xai (by rfl) 29 _ _ rfl w6.heap.size rfl (objC o2) rfl 29 (objC obj0) (xbq _) rfl (xdd _) ?hg w7 ?hW ?_;(case hg=>exact Has.new _ _ _);(case hW=>exact hw7);clear hw7)
  | (refine xab (by rfl) 82 _ rfl w.heap.size rfl 82 #[cv] _ Tryz.underlying82 rfl (xav cv) ?hg ?_;(case hg=>exact hL))
  | (refine xab (by rfl) 29 _ rfl w6.heap.size rfl 29 (objC o2) _ Tryz.underlying29 rfl (xbq _) ?hg ?_;(case hg=>exact hX)))
 clear hL hX hq
 refine (xfg hC _ _ _ o2 r7.inv g2 (hne.here hM.out)).mono ?_
 intro e w8 h9
 rcases h9.split with ⟨q,hr,rfl,G,hs⟩ | ⟨y8,s8,F8,hr,rfl,hI9,hs9⟩
 ·unfold thrown
  have hE:Hid _:=hM.out.trans (xau hr)
  have hs':Hid _:=r7.stp.trans hs
  clear h9 hM hr hs
  go_wp2
  exact ⟨rfl,xck hE.out rfl ⟨_,hs'.out⟩⟩
 replace hM:Hid _:=hM.out.trans (xag hr)
 have r8:=r7.call hC hI9 hs9
 clear h9 hr hs9 hI9
 have hth:=(r8.get 1 rfl).there 10 5 (show 10 + 5 ≤ 39 by decide)
 have hput:=(show Has w8 (w.heap.size + 1) 37 (baseL ⟨objs6 y2 y5 o2 o3 o4 o5,lasts3 l0 l1 l2⟩).toArray from r8.get 1 rfl).putCells (objL y8) 10 (show 10 + 5 ≤ 39 by decide)
 rw [wput_obj2] at hput
 have r9:=r8.second hC hgl (xap (objL y8) 10) hput
 obtain ⟨w9,hw9⟩:∃ W,w8.setCells (w.heap.size + 1) 10 (objL y8) = W:=⟨_,rfl⟩
 rw [hw9] at r9
 clear r6 r7 r8 hput hgl
 go_wp2_with (first
  | (refine xak (by rfl) 29 _ _ rfl (w.heap.size + 1) 10 (objC y8) rfl rfl ?ht (xbq _) (xdd _) ?_;(case ht=>exact hth);rw [show w8.setCells (w.heap.size + 1) 10 (objC y8).toList = w9 from hw9]))
 clear hth hw9
 rw [rounds_succ]
 obtain ⟨w10,hw10,hX,hq⟩:=xcm w9 29 (objC obj0) (objC o3)
 have hgl:w.heap.size + 1 + 1 < w9.heap.size:=(r9.get 2 rfl).lt
 have r10:=r9.fresh hC hq hX
 have hL:=r10.get 0 rfl
 go_wp2_with (first
  | (refine xce (by rfl) 30 _ _ rfl 3 (objsL (objs6 o0 o1 o2 o3 o4 o5)).toArray rfl rfl 29 6 5 _ Tryz.underlying30 (by decide) Tryz.underlying29 rfl xge ?_;rw [f3.out])
  | (refine xac (by rfl) 29 rfl (objC obj0) xdk ?_)
  | (refine xai (by rfl) 29 _ _ rfl w9.heap.size rfl (objC o3) rfl 29 (objC obj0) (xbq _) rfl (xdd _) ?hg w10 ?hW ?_;(case hg=>exact Has.new _ _ _);(case hW=>exact hw10);clear hw10)
  | (refine xab (by rfl) 82 _ rfl w.heap.size rfl 82 #[cv] _ Tryz.underlying82 rfl (xav cv) ?hg ?_;(case hg=>exact hL))
  | (refine xab (by rfl) 29 _ rfl w9.heap.size rfl 29 (objC o3) _ Tryz.underlying29 rfl (xbq _) ?hg ?_;(case hg=>exact hX)))
 clear hL hX hq
 refine (xfg hC _ _ _ o3 r10.inv g3 (hne.here hM.out)).mono ?_
 intro e w11 h9
 rcases h9.split with ⟨q,hr,rfl,G,hs⟩ | ⟨y11,s11,F11,hr,rfl,hI9,hs9⟩
 ·unfold thrown
  have hE:Hid _:=hM.out.trans (xau hr)
  have hs':Hid _:=r10.stp.trans hs
  clear h9 hM hr hs
  go_wp2
  exact ⟨rfl,xck hE.out rfl ⟨_,hs'.out⟩⟩
 replace hM:Hid _:=hM.out.trans (xag hr)
 have r11:=r10.call hC hI9 hs9
 clear h9 hr hs9 hI9
 have hth:=(r11.get 1 rfl).there 15 5 (show 15 + 5 ≤ 39 by decide)
 have hput:=(show Has w11 (w.heap.size + 1) 37 (baseL ⟨objs6 y2 y5 y8 o3 o4 o5,lasts3 l0 l1 l2⟩).toArray from r11.get 1 rfl).putCells (objL y11) 15 (show 15 + 5 ≤ 39 by decide)
 rw [wput_obj3] at hput
 have r12:=r11.second hC hgl (xap (objL y11) 15) hput
 obtain ⟨w12,hw12⟩:∃ W,w11.setCells (w.heap.size + 1) 15 (objL y11) = W:=⟨_,rfl⟩
 rw [hw12] at r12
 clear r9 r10 r11 hput hgl
 go_wp2_with (first
  | (refine xak (by rfl) 29 _ _ rfl (w.heap.size + 1) 15 (objC y11) rfl rfl ?ht (xbq _) (xdd _) ?_;(case ht=>exact hth);rw [show w11.setCells (w.heap.size + 1) 15 (objC y11).toList = w12 from hw12]))
 clear hth hw12
 rw [rounds_succ]
 obtain ⟨w13,hw13,hX,hq⟩:=xcm w12 29 (objC obj0) (objC o4)
 have hgl:w.heap.size + 1 + 1 < w12.heap.size:=(r12.get 2 rfl).lt
 have r13:=r12.fresh hC hq hX
 have hL:=r13.get 0 rfl
 go_wp2_with (first
  | (refine xce (by rfl) 30 _ _ rfl 4 (objsL (objs6 o0 o1 o2 o3 o4 o5)).toArray rfl rfl 29 6 5 _ Tryz.underlying30 (by decide) Tryz.underlying29 rfl xge ?_;rw [f4.out])
  | (refine xac (by rfl) 29 rfl (objC obj0) xdk ?_)
  | (refine xai (by rfl) 29 _ _ rfl w12.heap.size rfl (objC o4) rfl 29 (objC obj0) (xbq _) rfl (xdd _) ?hg w13 ?hW ?_;(case hg=>exact Has.new _ _ _);(case hW=>exact hw13);clear hw13)
  | (refine xab (by rfl) 82 _ rfl w.heap.size rfl 82 #[cv] _ Tryz.underlying82 rfl (xav cv) ?hg ?_;(case hg=>exact hL))
  | (refine xab (by rfl) 29 _ rfl w12.heap.size rfl 29 (objC o4) _ Tryz.underlying29 rfl (xbq _) ?hg ?_;(case hg=>exact hX)))
 clear hL hX hq
 refine (xfg hC _ _ _ o4 r13.inv g4 (hne.here hM.out)).mono ?_
 intro e w14 h9
 rcases h9.split with ⟨q,hr,rfl,G,hs⟩ | ⟨y14,s14,F14,hr,rfl,hI9,hs9⟩
 ·unfold thrown
  have hE:Hid _:=hM.out.trans (xau hr)
  have hs':Hid _:=r13.stp.trans hs
  clear h9 hM hr hs
  go_wp2
  exact ⟨rfl,xck hE.out rfl ⟨_,hs'.out⟩⟩
 replace hM:Hid _:=hM.out.trans (xag hr)
 have r14:=r13.call hC hI9 hs9
 clear h9 hr hs9 hI9
 have hth:=(r14.get 1 rfl).there 20 5 (show 20 + 5 ≤ 39 by decide)
 have hput:=(show Has w14 (w.heap.size + 1) 37 (baseL ⟨objs6 y2 y5 y8 y11 o4 o5,lasts3 l0 l1 l2⟩).toArray from r14.get 1 rfl).putCells (objL y14) 20 (show 20 + 5 ≤ 39 by decide)
 rw [wput_obj4] at hput
 have r15:=r14.second hC hgl (xap (objL y14) 20) hput
 obtain ⟨w15,hw15⟩:∃ W,w14.setCells (w.heap.size + 1) 20 (objL y14) = W:=⟨_,rfl⟩
 rw [hw15] at r15
 clear r12 r13 r14 hput hgl
 go_wp2_with (first
  | (refine xak (by rfl) 29 _ _ rfl (w.heap.size + 1) 20 (objC y14) rfl rfl ?ht (xbq _) (xdd _) ?_;(case ht=>exact hth);rw [show w14.setCells (w.heap.size + 1) 20 (objC y14).toList = w15 from hw15]))
 clear hth hw15
 rw [rounds_succ]
 obtain ⟨w16,hw16,hX,hq⟩:=xcm w15 29 (objC obj0) (objC o5)
 have hgl:w.heap.size + 1 + 1 < w15.heap.size:=(r15.get 2 rfl).lt
 have r16:=r15.fresh hC hq hX
 have hL:=r16.get 0 rfl
 go_wp2_with (first
  | (refine xce (by rfl) 30 _ _ rfl 5 (objsL (objs6 o0 o1 o2 o3 o4 o5)).toArray rfl rfl 29 6 5 _ Tryz.underlying30 (by decide) Tryz.underlying29 rfl xge ?_;rw [f5.out])
  | (refine xac (by rfl) 29 rfl (objC obj0) xdk ?_)
  | (refine xai (by rfl) 29 _ _ rfl w15.heap.size rfl (objC o5) rfl 29 (objC obj0) (xbq _) rfl (xdd _) ?hg w16 ?hW ?_;(case hg=>exact Has.new _ _ _);(case hW=>exact hw16);clear hw16)
  | (refine xab (by rfl) 82 _ rfl w.heap.size rfl 82 #[cv] _ Tryz.underlying82 rfl (xav cv) ?hg ?_;(case hg=>exact hL))
  | (refine xab (by rfl) 29 _ rfl w15.heap.size rfl 29 (objC o5) _ Tryz.underlying29 rfl (xbq _) ?hg ?_;(case hg=>exact hX)))
 clear hL hX hq
 refine (xfg hC _ _ _ o5 r16.inv g5 (hne.here hM.out)).mono ?_
 intro e w17 h9
 rcases h9.split with ⟨q,hr,rfl,G,hs⟩ | ⟨y17,s17,F17,hr,rfl,hI9,hs9⟩
 ·unfold thrown
  have hE:Hid _:=hM.out.trans (xau hr)
  have hs':Hid _:=r16.stp.trans hs
  clear h9 hM hr hs
  go_wp2
  exact ⟨rfl,xck hE.out rfl ⟨_,hs'.out⟩⟩
 replace hM:Hid _:=hM.out.trans (xag hr)
 have r17:=r16.call hC hI9 hs9
 clear h9 hr hs9 hI9
 have hth:=(r17.get 1 rfl).there 25 5 (show 25 + 5 ≤ 39 by decide)
 have hput:=(show Has w17 (w.heap.size + 1) 37 (baseL ⟨objs6 y2 y5 y8 y11 y14 o5,lasts3 l0 l1 l2⟩).toArray from r17.get 1 rfl).putCells (objL y17) 25 (show 25 + 5 ≤ 39 by decide)
 rw [wput_obj5] at hput
 have r18:=r17.second hC hgl (xap (objL y17) 25) hput
 obtain ⟨w18,hw18⟩:∃ W,w17.setCells (w.heap.size + 1) 25 (objL y17) = W:=⟨_,rfl⟩
 rw [hw18] at r18
 clear r15 r16 r17 hput hgl
 go_wp2_with (first
  | (refine xak (by rfl) 29 _ _ rfl (w.heap.size + 1) 25 (objC y17) rfl rfl ?ht (xbq _) (xdd _) ?_;(case ht=>exact hth);rw [show w17.setCells (w.heap.size + 1) 25 (objC y17).toList = w18 from hw18]))
 clear hth hw18
 rw [rounds_succ]
 have hl:=lasts_in (r18.get 1 rfl)
 go_wp2_with (first
  | (refine xae (by rfl) 35 _ rfl (w.heap.size + 1) 30 rfl (lastsL (lasts3 l0 l1 l2)) _ ?hg Tryz.underlying35 rfl (lasts_size _) ?_;(case hg=>exact hl)))
 clear hl
 have h0:Hid ((lastsL (lasts3 l0 l1 l2)).toArray.extract (0 * 3) (0 * 3 + 3) = lastC l0):=lasts_at_n (lasts3 l0 l1 l2) 0
 have h1:Hid ((lastsL (lasts3 l0 l1 l2)).toArray.extract (1 * 3) (1 * 3 + 3) = lastC l1):=lasts_at_n (lasts3 l0 l1 l2) 1
 have h2:Hid ((lastsL (lasts3 l0 l1 l2)).toArray.extract (2 * 3) (2 * 3 + 3) = lastC l2):=lasts_at_n (lasts3 l0 l1 l2) 2
 refine wp_loop_rounds 4 ?_
 rw [rounds_succ]
 obtain ⟨w19,hw19,hX,hq⟩:=xcm w18 34 (lastC last0) (lastC l0)
 have hgl:w.heap.size + 1 + 1 < w18.heap.size:=(r18.get 2 rfl).lt
 have r19:=r18.fresh hC hq hX
 have hL:=r19.get 0 rfl
 go_wp2_with (first
  | (refine xce (by rfl) 35 _ _ rfl 0 (lastsL (lasts3 l0 l1 l2)).toArray rfl rfl 34 3 3 _ Tryz.underlying35 (by decide) Tryz.underlying34 rfl last_size3 ?_;rw [h0.out])
  | (refine xac (by rfl) 34 rfl (lastC last0) wz_last ?_)
  | (refine xai (by rfl) 34 _ _ rfl w18.heap.size rfl (lastC l0) rfl 34 (lastC last0) (xfu _) rfl (wo_last _) ?hg w19 ?hW ?_;(case hg=>exact Has.new _ _ _);(case hW=>exact hw19);clear hw19)
  | (refine xab (by rfl) 82 _ rfl w.heap.size rfl 82 #[cv] _ Tryz.underlying82 rfl (xav cv) ?hg ?_;(case hg=>exact hL))
  | (refine xab (by rfl) 34 _ rfl w18.heap.size rfl 34 (lastC l0) _ Tryz.underlying34 rfl (xfu _) ?hg ?_;(case hg=>exact hX)))
 clear hL hX hq
 refine (wlast_any hC _ _ _ l0 r19.inv a0 b0 (hne.here hM.out)).mono ?_
 intro e w20 h9
 rcases h9.split with ⟨q,hr,rfl,G,hs⟩ | ⟨y20,s20,F20,hr,rfl,hI9,hs9⟩
 ·unfold thrown
  have hE:Hid _:=hM.out.trans (xau hr)
  have hs':Hid _:=r19.stp.trans hs
  clear h9 hM hr hs
  go_wp2
  exact ⟨rfl,xck hE.out rfl ⟨_,hs'.out⟩⟩
 replace hM:Hid _:=hM.out.trans (xag hr)
 have r20:=r19.call hC hI9 hs9
 clear h9 hr hs9 hI9
 have hth:=(r20.get 1 rfl).there 30 3 (show 30 + 3 ≤ 39 by decide)
 have hput:=(show Has w20 (w.heap.size + 1) 37 (baseL ⟨objs6 y2 y5 y8 y11 y14 y17,lasts3 l0 l1 l2⟩).toArray from r20.get 1 rfl).putCells (lastL y20) 30 (show 30 + 3 ≤ 39 by decide)
 rw [wput_last0] at hput
 have r21:=r20.second hC hgl (xap (lastL y20) 30) hput
 obtain ⟨w21,hw21⟩:∃ W,w20.setCells (w.heap.size + 1) 30 (lastL y20) = W:=⟨_,rfl⟩
 rw [hw21] at r21
 clear r18 r19 r20 hput hgl
 go_wp2_with (first
  | (refine xak (by rfl) 34 _ _ rfl (w.heap.size + 1) 30 (lastC y20) rfl rfl ?ht (xfu _) (wo_last _) ?_;(case ht=>exact hth);rw [show w20.setCells (w.heap.size + 1) 30 (lastC y20).toList = w21 from hw21]))
 clear hth hw21
 rw [rounds_succ]
 obtain ⟨w22,hw22,hX,hq⟩:=xcm w21 34 (lastC last0) (lastC l1)
 have hgl:w.heap.size + 1 + 1 < w21.heap.size:=(r21.get 2 rfl).lt
 have r22:=r21.fresh hC hq hX
 have hL:=r22.get 0 rfl
 go_wp2_with (first
  | (refine xce (by rfl) 35 _ _ rfl 1 (lastsL (lasts3 l0 l1 l2)).toArray rfl rfl 34 3 3 _ Tryz.underlying35 (by decide) Tryz.underlying34 rfl last_size3 ?_;rw [h1.out])
  | (refine xac (by rfl) 34 rfl (lastC last0) wz_last ?_)
  | (refine xai (by rfl) 34 _ _ rfl w21.heap.size rfl (lastC l1) rfl 34 (lastC last0) (xfu _) rfl (wo_last _) ?hg w22 ?hW ?_;(case hg=>exact Has.new _ _ _);(case hW=>exact hw22);clear hw22)
  | (refine xab (by rfl) 82 _ rfl w.heap.size rfl 82 #[cv] _ Tryz.underlying82 rfl (xav cv) ?hg ?_;(case hg=>exact hL))
  | (refine xab (by rfl) 34 _ rfl w21.heap.size rfl 34 (lastC l1) _ Tryz.underlying34 rfl (xfu _) ?hg ?_;(case hg=>exact hX)))
 clear hL hX hq
 refine (wlast_any hC _ _ _ l1 r22.inv a1 b1 (hne.here hM.out)).mono ?_
 intro e w23 h9
 rcases h9.split with ⟨q,hr,rfl,G,hs⟩ | ⟨y23,s23,F23,hr,rfl,hI9,hs9⟩
 ·unfold thrown
  have hE:Hid _:=hM.out.trans (xau hr)
  have hs':Hid _:=r22.stp.trans hs
  clear h9 hM hr hs
  go_wp2
  exact ⟨rfl,xck hE.out rfl ⟨_,hs'.out⟩⟩
 replace hM:Hid _:=hM.out.trans (xag hr)
 have r23:=r22.call hC hI9 hs9
 clear h9 hr hs9 hI9
 have hth:=(r23.get 1 rfl).there 33 3 (show 33 + 3 ≤ 39 by decide)
 have hput:=(show Has w23 (w.heap.size + 1) 37 (baseL ⟨objs6 y2 y5 y8 y11 y14 y17,lasts3 y20 l1 l2⟩).toArray from r23.get 1 rfl).putCells (lastL y23) 33 (show 33 + 3 ≤ 39 by decide)
 rw [wput_last1] at hput
 have r24:=r23.second hC hgl (xap (lastL y23) 33) hput
 obtain ⟨w24,hw24⟩:∃ W,w23.setCells (w.heap.size + 1) 33 (lastL y23) = W:=⟨_,rfl⟩
 rw [hw24] at r24
 clear r21 r22 r23 hput hgl
 go_wp2_with (first
  | (refine xak (by rfl) 34 _ _ rfl (w.heap.size + 1) 33 (lastC y23) rfl rfl ?ht (xfu _) (wo_last _) ?_;(case ht=>exact hth);rw [show w23.setCells (w.heap.size + 1) 33 (lastC y23).toList = w24 from hw24]))
 clear hth hw24
 rw [rounds_succ]
 obtain ⟨w25,hw25,hX,hq⟩:=xcm w24 34 (lastC last0) (lastC l2)
 have hgl:w.heap.size + 1 + 1 < w24.heap.size:=(r24.get 2 rfl).lt
 have r25:=r24.fresh hC hq hX
 have hL:=r25.get 0 rfl
 go_wp2_with (first
  | (refine xce (by rfl) 35 _ _ rfl 2 (lastsL (lasts3 l0 l1 l2)).toArray rfl rfl 34 3 3 _ Tryz.underlying35 (by decide) Tryz.underlying34 rfl last_size3 ?_;rw [h2.out])
  | (refine xac (by rfl) 34 rfl (lastC last0) wz_last ?_)
  | (refine xai (by rfl) 34 _ _ rfl w24.heap.size rfl (lastC l2) rfl 34 (lastC last0) (xfu _) rfl (wo_last _) ?hg w25 ?hW ?_;(case hg=>exact Has.new _ _ _);(case hW=>exact hw25);clear hw25)
  | (refine xab (by rfl) 82 _ rfl w.heap.size rfl 82 #[cv] _ Tryz.underlying82 rfl (xav cv) ?hg ?_;(case hg=>exact hL))
  | (refine xab (by rfl) 34 _ rfl w24.heap.size rfl 34 (lastC l2) _ Tryz.underlying34 rfl (xfu _) ?hg ?_;(case hg=>exact hX)))
 clear hL hX hq
 refine (wlast_any hC _ _ _ l2 r25.inv a2 b2 (hne.here hM.out)).mono ?_
 intro e w26 h9
 rcases h9.split with ⟨q,hr,rfl,G,hs⟩ | ⟨y26,s26,F26,hr,rfl,hI9,hs9⟩
 ·unfold thrown
  have hE:Hid _:=hM.out.trans (xau hr)
  have hs':Hid _:=r25.stp.trans hs
  clear h9 hM hr hs
  go_wp2
  exact ⟨rfl,xck hE.out rfl ⟨_,hs'.out⟩⟩
 replace hM:Hid _:=hM.out.trans (xag hr)
 have r26:=r25.call hC hI9 hs9
 clear h9 hr hs9 hI9
 have hth:=(r26.get 1 rfl).there 36 3 (show 36 + 3 ≤ 39 by decide)
 have hput:=(show Has w26 (w.heap.size + 1) 37 (baseL ⟨objs6 y2 y5 y8 y11 y14 y17,lasts3 y20 y23 l2⟩).toArray from r26.get 1 rfl).putCells (lastL y26) 36 (show 36 + 3 ≤ 39 by decide)
 rw [wput_last2] at hput
 have r27:=r26.second hC hgl (xap (lastL y26) 36) hput
 obtain ⟨w27,hw27⟩:∃ W,w26.setCells (w.heap.size + 1) 36 (lastL y26) = W:=⟨_,rfl⟩
 rw [hw27] at r27
 clear r24 r25 r26 hput hgl
 go_wp2_with (first
  | (refine xak (by rfl) 34 _ _ rfl (w.heap.size + 1) 36 (lastC y26) rfl rfl ?ht (xfu _) (wo_last _) ?_;(case ht=>exact hth);rw [show w26.setCells (w.heap.size + 1) 36 (lastC y26).toList = w27 from hw27]))
 clear hth hw27
 rw [rounds_succ]
 have hX:=r27.get 1 rfl
 have hR:=r27.get 2 rfl
 have r99:=r27.third hC (baseC ⟨objs6 y2 y5 y8 y11 y14 y17,lasts3 y20 y23 y26⟩)
 go_wp2_with (first
  | (refine xab (by rfl) 37 _ rfl (w.heap.size + 1) rfl 37 (baseC ⟨objs6 y2 y5 y8 y11 y14 y17,lasts3 y20 y23 y26⟩) _ Tryz.underlying37 rfl (xcl _) ?hg ?_;(case hg=>exact hX))
  | (refine xao (by rfl) 37 _ _ rfl (w.heap.size + 1 + 1) rfl (baseC ⟨objs6 y2 y5 y8 y11 y14 y17,lasts3 y20 y23 y26⟩) rfl 37 (baseC base0) (xcl _) rfl (base_one _) ?hg ?_;(case hg=>exact hR)))
 refine xba rfl (w.heap.size + 1 + 1) rfl 37 (baseC ⟨objs6 y2 y5 y8 y11 y14 y17,lasts3 y20 y23 y26⟩) _ Tryz.underlying37 rfl (xcl _) (r99.get 2 rfl) rfl (xda hM.out rfl r99.inv r99.stp)
end Go.Proofs.YtecilienolabfaaGreatDoor
/- WalkState: What goes through states and differences, by a coder. Written by tools/sgen.py. -/
namespace Go.Proofs.YtecilienolabfaaGreatDoor
set_option linter.unusedSimpArgs false
set_option linter.unusedVariables false
set_option maxRecDepth 100000
open Go.RowKit
def Fits (C:CodM) (l:List EntV):Prop:=∀ s n t,smallM C (l.length:Int) s = .ok (n,t) → (l.length:Int) ≤ n
structure LgW (C:CodM) (l:List EntV):Prop where
 each:∀ e ∈ l,EntG e
 len:l.length ≤ 6
 fits:Fits C l
structure StW (C:CodM) (s:StV):Prop where
 started:s.started < 4294967296
 tail:EntOk s.tail
 base:BsW s.base
 log:LgW C s.log
structure DifW (C:CodM) (d:DiffV):Prop where
 kind1:-9223372036854775808 ≤ d.kind
 kind2:d.kind ≤ 9223372036854775807
 fr:d.fr < 4294967296
 log:LgW C d.log
 whole:StW C d.whole
def EndsS (I:Inv) (R F:Nat → Prop) (w:World) (r:Except Nat (StV × List UInt8)) (e:Ending) (w':World):Prop:=match r with
 | .ok (x,s)=>∃ F' g,e = .returned (.agg (stC x (some ⟨g,0,none⟩) x.log.length)) ∧ NewE R F' w w' g x.log ∧ I w' s F' ∧ Stp F F' w w'
 | .error n=>e = thrown n ∧ ∃ F',Stp F F' w w'
def EndsD (I:Inv) (R F:Nat → Prop) (w:World) (r:Except Nat (DiffV × List UInt8)) (e:Ending) (w':World):Prop:=match r with
 | .ok (x,s)=>∃ F' g k,e = .returned (.agg (diffC x (some ⟨g,0,none⟩) x.log.length (some ⟨k,0,none⟩) x.whole.log.length)) ∧ NewE R F' w w' g x.log ∧ NewE R F' w w' k x.whole.log ∧ I w' s F' ∧ Stp F F' w w'
 | .error n=>e = thrown n ∧ ∃ F',Stp F F' w w'
section
variable {B:Prop} {C:CodM} {cv:Value} {I:Inv} {R F F' F0:Nat → Prop} {w w' w0:World} {s s':List UInt8}
theorem EndsS.split {r:Except Nat (StV × List UInt8)} {e:Ending} (h:EndsS I R F w r e w'):(∃ n,r = .error n ∧ e = thrown n ∧ ∃ F',Stp F F' w w') ∨ (∃ x s' F' g,r = .ok (x,s') ∧ e = .returned (.agg (stC x (some ⟨g,0,none⟩) x.log.length)) ∧ NewE R F' w w' g x.log ∧ I w' s' F' ∧ Stp F F' w w'):=by
 unfold EndsS at h
 split at h
 ·obtain ⟨F',g,h1,h2,h3,h4⟩:=h
  exact .inr ⟨_,_,F',g,rfl,h1,h2,h3,h4⟩
 ·exact .inl ⟨_,rfl,h.1,h.2⟩
theorem Thr.endsS {r:Except Nat (StV × List UInt8)} {c:List PanicEntry} (h:Thr F w r c w'):EndsS I R F w r (.panicked c) w':=by
 obtain ⟨n,h1,h2,h3⟩:=h
 subst h1
 exact ⟨h2,h3⟩
theorem endsS_ok {r:Except Nat (StV × List UInt8)} {e:Ending} {x:StV} {g:Nat} (h:r = .ok (x,s')) (he:e = .returned (.agg (stC x (some ⟨g,0,none⟩) x.log.length))) (hg:NewE R F' w w' g x.log) (hI:I w' s' F') (hs:Stp F F' w w'):EndsS I R F w r e w':=by
 subst h
 exact ⟨F',g,he,hg,hI,hs⟩
theorem EndsD.split {r:Except Nat (DiffV × List UInt8)} {e:Ending} (h:EndsD I R F w r e w'):(∃ n,r = .error n ∧ e = thrown n ∧ ∃ F',Stp F F' w w') ∨ (∃ x s' F' g k,r = .ok (x,s') ∧ e = .returned (.agg (diffC x (some ⟨g,0,none⟩) x.log.length (some ⟨k,0,none⟩) x.whole.log.length)) ∧ NewE R F' w w' g x.log ∧ NewE R F' w w' k x.whole.log ∧ I w' s' F' ∧ Stp F F' w w'):=by
 unfold EndsD at h
 split at h
 ·obtain ⟨F',g,k,h1,h2,h2',h3,h4⟩:=h
  exact .inr ⟨_,_,F',g,k,rfl,h1,h2,h2',h3,h4⟩
 ·exact .inl ⟨_,rfl,h.1,h.2⟩
theorem Thr.endsD {r:Except Nat (DiffV × List UInt8)} {c:List PanicEntry} (h:Thr F w r c w'):EndsD I R F w r (.panicked c) w':=by
 obtain ⟨n,h1,h2,h3⟩:=h
 subst h1
 exact ⟨h2,h3⟩
theorem endsD_ok {r:Except Nat (DiffV × List UInt8)} {e:Ending} {x:DiffV} {g k:Nat} (h:r = .ok (x,s')) (he:e = .returned (.agg (diffC x (some ⟨g,0,none⟩) x.log.length (some ⟨k,0,none⟩) x.whole.log.length))) (hg:NewE R F' w w' g x.log) (hk:NewE R F' w w' k x.whole.log) (hI:I w' s' F') (hs:Stp F F' w w'):EndsD I R F w r e w':=by
 subst h
 exact ⟨F',g,k,he,hg,hk,hI,hs⟩
theorem Run.third' (hC:Coder B C cv I R) {t1 t2 t3:TypeId} {c1 c2 c3:Array Value} {g:Nat} {l:List Var} (h:Run I R F0 w0 F w s ((g,t1,c1) :: (g + 1,t2,c2) :: (g + 1 + 1,t3,c3) :: l)) (hl:∀ e ∈ l,g + 1 + 1 < e.1) (c:Array Value) :
  Run I R F0 w0 F (w.setRow (g + 1 + 1) c) s ((g,t1,c1) :: (g + 1,t2,c2) :: (g + 1 + 1,t3,c) :: l):=by
 have h3:=h.get 2 rfl
 exact h.wrote hC 2 rfl (fun j e hj hne=>by
  match j,hj with
  | 0,hj=>obtain rfl:=Option.some.inj hj;show g ≠ _;omega
  | 1,hj=>obtain rfl:=Option.some.inj hj;show g + 1 ≠ _;omega
  | 2,_=>exact absurd rfl hne
  | j + 3,hj=>have:=hl e (List.mem_of_getElem? hj);omega) (xbb w c) (h3.row c)
theorem Run.newE {l:List Var} (h:Run I R F0 w0 F w s l) (i:Nat) {g:Nat} {es:List EntV} (hi:l[i]? = some (g,41,(entF es).toArray)):NewE R F w0 w g es:=⟨h.get i hi,h.clear _ (List.mem_of_getElem? hi),h.new _ (List.mem_of_getElem? hi)⟩
theorem Run.takeE (hC:Coder B C cv I R) {l:List Var} (h:Run I R F0 w0 F w s l) (hI:I w' s' F') (hs:Stp F F' w w') {g:Nat} {es:List EntV} (hn:NewE R F' w w' g es):Run I R F0 w0 F' w' s' (l ++ [(g,41,(entF es).toArray)]) :=
 (h.call hC hI hs).also hn.has hn.clear (Nat.le_trans h.stp.off.size hn.new)
end
theorem wb_st (n:Nat) (t:EntV) (b:BaseV) (l:List EntV) (g:Nat):Tryz.prog.built 44 [(0,.int .u32 (n:Int)),(2,.agg (entC t)),(1,.agg (baseC b)),(3,.slice (some ⟨g,0,none⟩) l.length l.length)] = some (stC ⟨n,b,t,l⟩ (some ⟨g,0,none⟩) l.length):=by kernel_rfl
theorem wb_diff (k:Int) (n:Nat) (l:List EntV) (s:StV) (g h:Nat):Tryz.prog.built 46 [(0,.int .i64 k),(1,.int .u32 (n:Int)),(2,.slice (some ⟨g,0,none⟩) l.length l.length),(3,.agg (stC s (some ⟨h,0,none⟩) s.log.length))] = some (diffC ⟨k,n,l,s⟩ (some ⟨g,0,none⟩) l.length (some ⟨h,0,none⟩) s.log.length):=by kernel_rfl
set_option maxHeartbeats 8000000 in
theorem wstate_any {B:Prop} {C:CodM} {cv:Value} {I:Inv} {R:Nat → Prop} (hC:Coder B C cv I R) (w:World) (s:List UInt8) (F:Nat → Prop) (x:StV) (ao:Option Addr) (c:Nat) (hI:I w s F) (hx:StW C x) (hsl:SlF w F ao c x.log) (hne:Bare B (statM C x s)):Calls Tryz.prog 60 #[.agg #[cv],.agg (stC x ao c)] w (EndsS I R F w (statM C x s)):=by
 have hM:Hid (statM C x s = ((fourM C x.started).bind fun a=>(tlM C x.tail).bind fun t=>(bsM C x.base).bind fun b=>(logM C x.log).bind fun l=>.ret ⟨a,b,t,l⟩) s):=rfl
 obtain ⟨W,hW,r⟩:=xdr hC hI 82 44 44 #[cv] (stC x ao c) (stC st0 none 0)
 go_enter Tryz.func60,Tryz.ntmps60
 go_wp2_with (first
  | (refine xac (by rfl) 44 rfl (stC st0 none 0) st_zero ?_;rw [hW];clear hW;simp only [xgs]))
 have r0:=r.drew hC
 clear r
 refine xcb (Held I R F w [(w.heap.size,82,#[cv]),(w.heap.size + 1,44,stC x ao c)]) (Plan.of [(0,true),(1,true),(2,true),(4,true),(5,true),(6,true),(8,true),(9,true),(10,true),(12,true),(13,true),(14,true),(3,false),(7,false),(11,false),(15,false),(16,true),(17,false)] .done) (Thr F w (statM C x s)) (by kernel_rfl) (by kernel_rfl) (by kernel_rfl) (by kernel_rfl) r0.held2 (fun c a' w' h hd=>⟨hd,h.endsS⟩) ?_
 generalize W.drew = w0 at *
 refine xaa _ _ rfl (xan (by rfl) 82 _ rfl w.heap.size rfl 82 #[cv] _ Tryz.underlying82 rfl (xav cv) (fun W hS=>hS.get 0 rfl)) ?_
 try simp only [qp,qa,qb,qc]
 iterate 1
  first
   | (refine xad _ rfl (by rfl) ?_)
   | (refine xaa _ _ rfl (.inl ⟨by rfl,fun W hS=>by clear hS;go_simp;try with_reducible rfl⟩) ?_)
  try simp only [qp,qa,qb,qc]
 iterate 1
  first
   | (refine xad _ rfl (by rfl) ?_)
   | (refine xaa _ _ rfl (.inl ⟨by rfl,fun W hS=>by have z:=hS.cell 1 rfl 0 (v:=.int .u32 x.started) rfl;go_simp;try with_reducible rfl⟩) ?_)
  try simp only [qp,qa,qb,qc]
 refine xaa _ _ rfl (xan (by rfl) 82 _ rfl w.heap.size rfl 82 #[cv] _ Tryz.underlying82 rfl (xav cv) (fun W hS=>hS.get 0 rfl)) ?_
 try simp only [qp,qa,qb,qc]
 iterate 1
  first
   | (refine xad _ rfl (by rfl) ?_)
   | (refine xaa _ _ rfl (.inl ⟨by rfl,fun W hS=>by clear hS;go_simp;try with_reducible rfl⟩) ?_)
  try simp only [qp,qa,qb,qc]
 refine xaa _ (.agg (entC x.tail)) rfl (xaj (by rfl) 41 _ rfl (w.heap.size + 1) 40 rfl (entL x.tail) _ Tryz.underlying41 rfl (xax x.tail) (fun W hS=>(hS.get 1 rfl).st_tail)) ?_
 try simp only [qp,qa,qb,qc]
 refine xaa _ _ rfl (xan (by rfl) 82 _ rfl w.heap.size rfl 82 #[cv] _ Tryz.underlying82 rfl (xav cv) (fun W hS=>hS.get 0 rfl)) ?_
 try simp only [qp,qa,qb,qc]
 iterate 1
  first
   | (refine xad _ rfl (by rfl) ?_)
   | (refine xaa _ _ rfl (.inl ⟨by rfl,fun W hS=>by clear hS;go_simp;try with_reducible rfl⟩) ?_)
  try simp only [qp,qa,qb,qc]
 refine xaa _ (.agg (baseC x.base)) rfl (xaj (by rfl) 37 _ rfl (w.heap.size + 1) 1 rfl (baseL x.base) _ Tryz.underlying37 rfl (xcl x.base) (fun W hS=>(hS.get 1 rfl).st_base)) ?_
 try simp only [qp,qa,qb,qc]
 refine xaa _ _ rfl (xan (by rfl) 82 _ rfl w.heap.size rfl 82 #[cv] _ Tryz.underlying82 rfl (xav cv) (fun W hS=>hS.get 0 rfl)) ?_
 try simp only [qp,qa,qb,qc]
 iterate 1
  first
   | (refine xad _ rfl (by rfl) ?_)
   | (refine xaa _ _ rfl (.inl ⟨by rfl,fun W hS=>by clear hS;go_simp;try with_reducible rfl⟩) ?_)
  try simp only [qp,qa,qb,qc]
 iterate 1
  first
   | (refine xad _ rfl (by rfl) ?_)
   | (refine xaa _ _ rfl (.inl ⟨by rfl,fun W hS=>by have z:=(hS.get 1 rfl).st_log;go_simp;try with_reducible rfl⟩) ?_)
  try simp only [qp,qa,qb,qc]
 refine xam _ rfl (fun K hK=>?_)
 go_simp
 refine (hC.four _ _ _ x.started r0.inv hx.started (hne.here hM.out)).mono ?_
 intro e w1 h1
 rcases h1.split with ⟨q,hr,rfl,G,hs⟩ | ⟨y1,s1,F1,hr,rfl,hI1,hs1⟩
 ·exact xbo (xbp (hM.out.trans (xau hr)) ⟨_,r0.stp.trans hs⟩) rfl
 replace hM:Hid _:=hM.out.trans (xag hr)
 have r1:=r0.call hC hI1 hs1
 refine hK.out _ _ r1.held2 ?_
 clear hK K hr h1 hs1
 try simp only [qp,qa,qb,qc]
 refine xam _ rfl (fun K hK=>?_)
 go_simp
 refine (wtail_any hC _ _ _ x.tail r1.inv hx.tail (hne.here hM.out)).mono ?_
 intro e w2 h2
 rcases h2.split with ⟨q,hr,rfl,G,hs⟩ | ⟨y2,s2,F2,hr,rfl,hI2,hs2⟩
 ·exact xbo (xbp (hM.out.trans (xau hr)) ⟨_,r1.stp.trans hs⟩) rfl
 replace hM:Hid _:=hM.out.trans (xag hr)
 have r2:=r1.call hC hI2 hs2
 refine hK.out _ _ r2.held2 ?_
 clear hK K hr h2 hs2
 try simp only [qp,qa,qb,qc]
 refine xam _ rfl (fun K hK=>?_)
 go_simp
 refine (wbase_any hC _ _ _ x.base r2.inv hx.base (hne.here hM.out)).mono ?_
 intro e w3 h3
 rcases h3.split with ⟨q,hr,rfl,G,hs⟩ | ⟨y3,s3,F3,hr,rfl,hI3,hs3⟩
 ·exact xbo (xbp (hM.out.trans (xau hr)) ⟨_,r2.stp.trans hs⟩) rfl
 replace hM:Hid _:=hM.out.trans (xag hr)
 have r3:=r2.call hC hI3 hs3
 refine hK.out _ _ r3.held2 ?_
 clear hK K hr h3 hs3
 try simp only [qp,qa,qb,qc]
 refine xam _ rfl (fun K hK=>?_)
 go_simp
 refine (wentries_any hC _ _ _ ao c x.log r3.inv hx.log.each hx.log.len (hsl.step r3.stp) (hx.log.fits _) (hne.here hM.out)).mono ?_
 intro e w4 h4
 rcases h4.split with ⟨q,hr,rfl,G,hs⟩ | ⟨y4,s4,F4,g4,hr,rfl,hn,hI4,hs4⟩
 ·exact xbo (xbp (hM.out.trans (xau hr)) ⟨_,r3.stp.trans hs⟩) rfl
 replace hM:Hid _:=hM.out.trans (xag hr)
 have hg4:w.heap.size + 1 + 1 < g4:=Nat.lt_of_lt_of_le (r3.get 2 rfl).lt hn.new
 have r4:=r3.takeE hC hI4 hs4 hn
 refine hK.out _ _ r4.held2 ?_
 clear hK K hr h4 hs4 hn
 try simp only [qp,qa,qb,qc]
 refine xaa _ _ rfl (xat (by rfl) 44 _ rfl [(0,.int .u32 y1),(2,.agg (entC y2)),(1,.agg (baseC y3)),(3,.slice (some ⟨g4,0,none⟩) y4.length y4.length)] rfl (stC ⟨y1,y3,y2,y4⟩ (some ⟨g4,0,none⟩) y4.length) (wb_st y1 y2 y3 y4 g4)) ?_
 try simp only [qp,qa,qb,qc]
 have r9:=r4.third' hC (fun e he=>by rw [List.mem_singleton.1 he];exact hg4) (stC ⟨y1,y3,y2,y4⟩ (some ⟨g4,0,none⟩) y4.length)
 refine xbs _ rfl (by rfl) 44 _ _ rfl (w.heap.size + 1 + 1) rfl (stC ⟨y1,y3,y2,y4⟩ (some ⟨g4,0,none⟩) y4.length) rfl 44 (stC st0 none 0) (xcg _ _ _) (st_same _ _ _ _ _ _) (st_one _ _ _) (r4.get 2 rfl) r9.held2 ?_
 try simp only [qp,qa,qb,qc]
 refine xcd ?_
 go_wp2
 refine xba rfl (w.heap.size + 1 + 1) rfl 44 (stC ⟨y1,y3,y2,y4⟩ (some ⟨g4,0,none⟩) y4.length) _ Tryz.underlying44 rfl (xcg _ _ _) (r9.get 2 rfl) rfl (endsS_ok hM.out rfl (r9.newE 3 rfl) r9.inv r9.stp)
set_option maxHeartbeats 8000000 in
theorem wdiff_any {B:Prop} {C:CodM} {cv:Value} {I:Inv} {R:Nat → Prop} (hC:Coder B C cv I R) (w:World) (s:List UInt8) (F:Nat → Prop) (x:DiffV) (ao bo:Option Addr) (c d:Nat) (hI:I w s F) (hx:DifW C x) (hsl:SlF w F ao c x.log) (hsw:SlF w F bo d x.whole.log) (hne:Bare B (difM C x s)):Calls Tryz.prog 71 #[.agg #[cv],.agg (diffC x ao c bo d)] w (EndsD I R F w (difM C x s)):=by
 have hM:Hid (difM C x s = ((smallM C x.kind).bind fun k=>(fourM C x.fr).bind fun f=>(logM C x.log).bind fun l=>(statM C x.whole).bind fun w=>.ret ⟨k,f,l,w⟩) s):=rfl
 obtain ⟨W,hW,r⟩:=xdr hC hI 82 46 46 #[cv] (diffC x ao c bo d) (diffC diff0 none 0 none 0)
 go_enter Tryz.func71,Tryz.ntmps71
 go_wp2_with (first
  | (refine xac (by rfl) 46 rfl (diffC diff0 none 0 none 0) diff_zero ?_;rw [hW];clear hW;simp only [xgs]))
 have r0:=r.drew hC
 clear r
 refine xcb (Held I R F w [(w.heap.size,82,#[cv]),(w.heap.size + 1,46,diffC x ao c bo d)]) (Plan.of [(0,true),(1,true),(2,true),(4,true),(5,true),(6,true),(8,true),(9,true),(10,true),(12,true),(13,true),(14,true),(3,false),(7,false),(11,false),(15,false),(16,true),(17,false)] .done) (Thr F w (difM C x s)) (by kernel_rfl) (by kernel_rfl) (by kernel_rfl) (by kernel_rfl) r0.held2 (fun c a' w' h hd=>⟨hd,h.endsD⟩) ?_
 generalize W.drew = w0 at *
 refine xaa _ _ rfl (xan (by rfl) 82 _ rfl w.heap.size rfl 82 #[cv] _ Tryz.underlying82 rfl (xav cv) (fun W hS=>hS.get 0 rfl)) ?_
 try simp only [qp,qa,qb,qc]
 iterate 1
  first
   | (refine xad _ rfl (by rfl) ?_)
   | (refine xaa _ _ rfl (.inl ⟨by rfl,fun W hS=>by clear hS;go_simp;try with_reducible rfl⟩) ?_)
  try simp only [qp,qa,qb,qc]
 iterate 1
  first
   | (refine xad _ rfl (by rfl) ?_)
   | (refine xaa _ _ rfl (.inl ⟨by rfl,fun W hS=>by have z:=hS.cell 1 rfl 0 (v:=.int .i64 x.kind) rfl;go_simp;try with_reducible rfl⟩) ?_)
  try simp only [qp,qa,qb,qc]
 refine xaa _ _ rfl (xan (by rfl) 82 _ rfl w.heap.size rfl 82 #[cv] _ Tryz.underlying82 rfl (xav cv) (fun W hS=>hS.get 0 rfl)) ?_
 try simp only [qp,qa,qb,qc]
 iterate 1
  first
   | (refine xad _ rfl (by rfl) ?_)
   | (refine xaa _ _ rfl (.inl ⟨by rfl,fun W hS=>by clear hS;go_simp;try with_reducible rfl⟩) ?_)
  try simp only [qp,qa,qb,qc]
 iterate 1
  first
   | (refine xad _ rfl (by rfl) ?_)
   | (refine xaa _ _ rfl (.inl ⟨by rfl,fun W hS=>by have z:=hS.cell 1 rfl 1 (v:=.int .u32 x.fr) rfl;go_simp;try with_reducible rfl⟩) ?_)
  try simp only [qp,qa,qb,qc]
 refine xaa _ _ rfl (xan (by rfl) 82 _ rfl w.heap.size rfl 82 #[cv] _ Tryz.underlying82 rfl (xav cv) (fun W hS=>hS.get 0 rfl)) ?_
 try simp only [qp,qa,qb,qc]
 iterate 1
  first
   | (refine xad _ rfl (by rfl) ?_)
   | (refine xaa _ _ rfl (.inl ⟨by rfl,fun W hS=>by clear hS;go_simp;try with_reducible rfl⟩) ?_)
  try simp only [qp,qa,qb,qc]
 iterate 1
  first
   | (refine xad _ rfl (by rfl) ?_)
   | (refine xaa _ _ rfl (.inl ⟨by rfl,fun W hS=>by have z:=hS.cell 1 rfl 2 (v:=.slice ao x.log.length c) rfl;go_simp;try with_reducible rfl⟩) ?_)
  try simp only [qp,qa,qb,qc]
 refine xaa _ _ rfl (xan (by rfl) 82 _ rfl w.heap.size rfl 82 #[cv] _ Tryz.underlying82 rfl (xav cv) (fun W hS=>hS.get 0 rfl)) ?_
 try simp only [qp,qa,qb,qc]
 iterate 1
  first
   | (refine xad _ rfl (by rfl) ?_)
   | (refine xaa _ _ rfl (.inl ⟨by rfl,fun W hS=>by clear hS;go_simp;try with_reducible rfl⟩) ?_)
  try simp only [qp,qa,qb,qc]
 refine xaa _ (.agg (stC x.whole bo d)) rfl (xaj (by rfl) 44 _ rfl (w.heap.size + 1) 3 rfl (stL x.whole bo d) _ Tryz.underlying44 rfl (xcg x.whole bo d) (fun W hS=>(hS.get 1 rfl).d_whole)) ?_
 try simp only [qp,qa,qb,qc]
 refine xam _ rfl (fun K hK=>?_)
 go_simp
 refine (hC.small _ _ _ x.kind r0.inv hx.kind1 hx.kind2 (hne.here hM.out)).mono ?_
 intro e w1 h1
 rcases h1.split with ⟨q,hr,rfl,G,hs⟩ | ⟨y1,s1,F1,hr,rfl,hI1,hs1⟩
 ·exact xbo (xbp (hM.out.trans (xau hr)) ⟨_,r0.stp.trans hs⟩) rfl
 replace hM:Hid _:=hM.out.trans (xag hr)
 have r1:=r0.call hC hI1 hs1
 refine hK.out _ _ r1.held2 ?_
 clear hK K hr h1 hs1
 try simp only [qp,qa,qb,qc]
 refine xam _ rfl (fun K hK=>?_)
 go_simp
 refine (hC.four _ _ _ x.fr r1.inv hx.fr (hne.here hM.out)).mono ?_
 intro e w2 h2
 rcases h2.split with ⟨q,hr,rfl,G,hs⟩ | ⟨y2,s2,F2,hr,rfl,hI2,hs2⟩
 ·exact xbo (xbp (hM.out.trans (xau hr)) ⟨_,r1.stp.trans hs⟩) rfl
 replace hM:Hid _:=hM.out.trans (xag hr)
 have r2:=r1.call hC hI2 hs2
 refine hK.out _ _ r2.held2 ?_
 clear hK K hr h2 hs2
 try simp only [qp,qa,qb,qc]
 refine xam _ rfl (fun K hK=>?_)
 go_simp
 refine (wentries_any hC _ _ _ ao c x.log r2.inv hx.log.each hx.log.len (hsl.step r2.stp) (hx.log.fits _) (hne.here hM.out)).mono ?_
 intro e w3 h3
 rcases h3.split with ⟨q,hr,rfl,G,hs⟩ | ⟨y3,s3,F3,g3,hr,rfl,hn,hI3,hs3⟩
 ·exact xbo (xbp (hM.out.trans (xau hr)) ⟨_,r2.stp.trans hs⟩) rfl
 replace hM:Hid _:=hM.out.trans (xag hr)
 have hg3:w.heap.size + 1 + 1 < g3:=Nat.lt_of_lt_of_le (r2.get 2 rfl).lt hn.new
 have r3:=r2.takeE hC hI3 hs3 hn
 refine hK.out _ _ r3.held2 ?_
 clear hK K hr h3 hs3 hn
 try simp only [qp,qa,qb,qc]
 refine xam _ rfl (fun K hK=>?_)
 go_simp
 refine (wstate_any hC _ _ _ x.whole bo d r3.inv hx.whole (hsw.step r3.stp) (hne.here hM.out)).mono ?_
 intro e w4 h4
 rcases h4.split with ⟨q,hr,rfl,G,hs⟩ | ⟨y4,s4,F4,g4,hr,rfl,hn,hI4,hs4⟩
 ·exact xbo (xbp (hM.out.trans (xau hr)) ⟨_,r3.stp.trans hs⟩) rfl
 replace hM:Hid _:=hM.out.trans (xag hr)
 have hg4:w.heap.size + 1 + 1 < g4:=Nat.lt_of_lt_of_le (r3.get 2 rfl).lt hn.new
 have r4:=r3.takeE hC hI4 hs4 hn
 refine hK.out _ _ r4.held2 ?_
 clear hK K hr h4 hs4 hn
 try simp only [qp,qa,qb,qc]
 refine xaa _ _ rfl (xat (by rfl) 46 _ rfl [(0,.int .i64 y1),(1,.int .u32 y2),(2,.slice (some ⟨g3,0,none⟩) y3.length y3.length),(3,.agg (stC y4 (some ⟨g4,0,none⟩) y4.log.length))] rfl (diffC ⟨y1,y2,y3,y4⟩ (some ⟨g3,0,none⟩) y3.length (some ⟨g4,0,none⟩) y4.log.length) (wb_diff y1 y2 y3 y4 g3 g4)) ?_
 try simp only [qp,qa,qb,qc]
 have r9:=r4.third' hC (fun e he=>by
  rcases List.mem_cons.1 he with rfl | he
  ·exact hg3
  ·rw [List.mem_singleton.1 he];exact hg4) (diffC ⟨y1,y2,y3,y4⟩ (some ⟨g3,0,none⟩) y3.length (some ⟨g4,0,none⟩) y4.log.length)
 refine xbs _ rfl (by rfl) 46 _ _ rfl (w.heap.size + 1 + 1) rfl (diffC ⟨y1,y2,y3,y4⟩ (some ⟨g3,0,none⟩) y3.length (some ⟨g4,0,none⟩) y4.log.length) rfl 46 (diffC diff0 none 0 none 0) (xdw _ _ _ _ _) (diff_same _ _ _ _ _ _ _ _ _ _) (diff_one _ _ _ _ _) (r4.get 2 rfl) r9.held2 ?_
 try simp only [qp,qa,qb,qc]
 refine xcd ?_
 go_wp2
 refine xba rfl (w.heap.size + 1 + 1) rfl 46 (diffC ⟨y1,y2,y3,y4⟩ (some ⟨g3,0,none⟩) y3.length (some ⟨g4,0,none⟩) y4.log.length) _ Tryz.underlying46 rfl (xdw _ _ _ _ _) (r9.get 2 rfl) rfl (endsD_ok hM.out rfl (r9.newE 3 rfl) (r9.newE 4 rfl) r9.inv r9.stp)
end Go.Proofs.YtecilienolabfaaGreatDoor
