/- What goes through messages, by a coder. Written by tools/mgen2.py. -/
import Derived.Test.YtecilienolabfaaGreatDoorWireMem
import Derived.Deep.Cut
namespace Go.Proofs.YtecilienolabfaaGreatDoor
set_option linter.unusedSimpArgs false
set_option linter.unusedVariables false
set_option maxRecDepth 100000
open Go.RowKit
structure PartsW (C:CodM) (sh:ShV) (m:MsgV):Prop where
 st:sh.st = true → StW C m.st
 dif:sh.dif = true → DifW C m.diff
 ent:sh.ent = true → EntG m.ent
 op:sh.op ≠ 0 → OpG m.op
 res:sh.res = true → m.r.code < 256 ∧ m.r.data.length ≤ 80
def LogIn (R F':Nat → Prop) (w w':World) (ao:Option Addr) (c:Nat) (l:List EntV):Prop:=(ao = none ∧ c = 0 ∧ l = []) ∨ ∃ g,ao = some ⟨g,0,none⟩ ∧ c = l.length ∧ NewE R F' w w' g l
def LogAt (lg:List Var) (ao:Option Addr) (c:Nat) (l:List EntV):Prop:=(ao = none ∧ c = 0 ∧ l = []) ∨ ∃ g,ao = some ⟨g,0,none⟩ ∧ c = l.length ∧ (g,41,(entF l).toArray) ∈ lg
theorem LogAt.more {lg lg':List Var} {ao:Option Addr} {c:Nat} {l:List EntV} (h:LogAt lg ao c l) (hl:∀ e ∈ lg,e ∈ lg'):LogAt lg' ao c l:=by
 rcases h with h | ⟨g,h1,h2,h3⟩
 ·exact .inl h
 ·exact .inr ⟨g,h1,h2,hl _ h3⟩
def EndsM (I:Inv) (R F:Nat → Prop) (w:World) (r:Except Nat (MsgV × List UInt8)) (e:Ending) (w':World):Prop:=match r with
 | .ok (x,s)=>∃ F' b1 d1 b2 d2 b3 d3,e = .returned (.agg (msgC x b1 d1 b2 d2 b3 d3)) ∧ LogIn R F' w w' b1 d1 x.st.log ∧ LogIn R F' w w' b2 d2 x.diff.log ∧ LogIn R F' w w' b3 d3 x.diff.whole.log ∧ I w' s F' ∧ Stp F F' w w'
 | .error n=>e = thrown n ∧ ∃ F',Stp F F' w w'
section
variable {B:Prop} {C:CodM} {cv:Value} {I:Inv} {R F F' F0:Nat → Prop} {w w' w0:World} {s s':List UInt8}
theorem xee {r:Except Nat (MsgV × List UInt8)} {e:Ending} {n:Nat} (h:r = .error n) (he:e = thrown n) (hs:∃ F',Stp F F' w w'):EndsM I R F w r e w':=by
 subst h
 exact ⟨he,hs⟩
theorem Thr.endsM {r:Except Nat (MsgV × List UInt8)} {c:List PanicEntry} (h:Thr F w r c w'):EndsM I R F w r (.panicked c) w':=by
 obtain ⟨n,h1,h2,h3⟩:=h
 exact xee h1 h2 h3
theorem Run.logIn {l lg:List Var} (h:Run I R F0 w0 F w s l) (hl:∀ e ∈ lg,e ∈ l) {ao:Option Addr} {c:Nat} {es:List EntV} (ha:LogAt lg ao c es):LogIn R F w0 w ao c es:=by
 rcases ha with ha | ⟨g,h1,h2,h3⟩
 ·exact .inl ha
 ·exact .inr ⟨g,h1,h2,h.hold _ (hl _ h3),h.clear _ (hl _ h3),h.new _ (hl _ h3)⟩
theorem Run.made (hC:Coder B C cv I R) {t1 t2 t3 t4 t5:TypeId} {c1 c2 c3 c4 c5 c':Array Value} {g k j:Nat} {lg:List Var} (h:Run I R F0 w0 F w s ((g,t1,c1) :: (g + 1,t2,c2) :: (g + 1 + 1,t3,c3) :: (k,t4,c4) :: (j,t5,c5) :: lg)) (hk:g + 1 + 1 < k) (hj:k < j) (hl:∀ e ∈ lg,j < e.1) (hB:But k w w') (hg:Has w' k t4 c') :
  Run I R F0 w0 F w' s ((g,t1,c1) :: (g + 1,t2,c2) :: (g + 1 + 1,t3,c3) :: (k,t4,c') :: (j,t5,c5) :: lg) :=
 h.wrote hC 3 rfl (fun i e hi hne=>by
  match i,hi with
  | 0,hi=>obtain rfl:=Option.some.inj hi;show g ≠ _;omega
  | 1,hi=>obtain rfl:=Option.some.inj hi;show g + 1 ≠ _;omega
  | 2,hi=>obtain rfl:=Option.some.inj hi;show g + 1 + 1 ≠ _;omega
  | 3,_=>exact absurd rfl hne
  | 4,hi=>obtain rfl:=Option.some.inj hi;show j ≠ _;omega
  | i + 5,hi=>have:=hl e (List.mem_of_getElem? hi);omega) hB hg
theorem xew {α:Type} {t:Bool} {z x:α} {m:Wk α} {s s':List UInt8} (ht:t = true) (h:m s = .ok (x,s')):onlyIf t z m s = .ok (x,s'):=by
 subst ht
 exact h
theorem xcx {α:Type} {t:Bool} {z:α} {m:Wk α} {s:List UInt8} {n:Nat} (ht:t = true) (h:m s = .error n):onlyIf t z m s = .error n:=by
 subst ht
 exact h
theorem xgc {α:Type} {t:Bool} {z:α} {m:Wk α} {s:List UInt8} (ht:t = false):onlyIf t z m s = .ok (z,s):=by
 subst ht
 rfl
theorem one_lt {n k:Nat} {t:List UInt8} (h:oneM C n s = .ok (k,t)):k < 256:=by
 unfold oneM at h
 obtain ⟨x,r,_,h⟩:=xaw.1 h
 obtain ⟨rfl,_⟩:=ret_ok.1 h
 exact Nat.mod_lt _ (by decide)
end
def mR14 (C:CodM) (m:MsgV) (sh:ShV) (k:Nat) (f:Nat) (t:Nat) (e:Nat) (b:BalV) (a:BalV) (h:Bool) (i:IncV) (g:Nat) (u:StV) (d:DiffV) (x:EntV) (n:Nat) (o:OpV):Wk MsgV:=(onlyIf (sh.res) res0 (resM C m.r)).bind fun r=>.ret ⟨k,f,t,e,b,a,h,i,g,u,d,x,n,o,r⟩
def mR13 (C:CodM) (m:MsgV) (sh:ShV) (k:Nat) (f:Nat) (t:Nat) (e:Nat) (b:BalV) (a:BalV) (h:Bool) (i:IncV) (g:Nat) (u:StV) (d:DiffV) (x:EntV) (n:Nat):Wk MsgV:=(onlyIf (decide (sh.op ≠ 0)) op0 (opM C m.op)).bind fun o=>mR14 C m sh k f t e b a h i g u d x n o
def mR12 (C:CodM) (m:MsgV) (sh:ShV) (k:Nat) (f:Nat) (t:Nat) (e:Nat) (b:BalV) (a:BalV) (h:Bool) (i:IncV) (g:Nat) (u:StV) (d:DiffV) (x:EntV):Wk MsgV:=(onlyIf (decide (0 < sh.mostN)) 0 (fourM C m.n)).bind fun n=>mR13 C m sh k f t e b a h i g u d x n
def mR11 (C:CodM) (m:MsgV) (sh:ShV) (k:Nat) (f:Nat) (t:Nat) (e:Nat) (b:BalV) (a:BalV) (h:Bool) (i:IncV) (g:Nat) (u:StV) (d:DiffV):Wk MsgV:=(onlyIf (sh.ent) ent0 (entM C m.ent)).bind fun x=>mR12 C m sh k f t e b a h i g u d x
def mR10 (C:CodM) (m:MsgV) (sh:ShV) (k:Nat) (f:Nat) (t:Nat) (e:Nat) (b:BalV) (a:BalV) (h:Bool) (i:IncV) (g:Nat) (u:StV):Wk MsgV:=(onlyIf (sh.dif) diff0 (difM C m.diff)).bind fun d=>mR11 C m sh k f t e b a h i g u d
def mR9 (C:CodM) (m:MsgV) (sh:ShV) (k:Nat) (f:Nat) (t:Nat) (e:Nat) (b:BalV) (a:BalV) (h:Bool) (i:IncV) (g:Nat):Wk MsgV:=(onlyIf (sh.st) st0 (statM C m.st)).bind fun u=>mR10 C m sh k f t e b a h i g u
def mR8 (C:CodM) (m:MsgV) (sh:ShV) (k:Nat) (f:Nat) (t:Nat) (e:Nat) (b:BalV) (a:BalV) (h:Bool) (i:IncV):Wk MsgV:=(onlyIf (sh.grp) 0 (oneM C m.group)).bind fun g=>mR9 C m sh k f t e b a h i g
def mR7 (C:CodM) (m:MsgV) (sh:ShV) (k:Nat) (f:Nat) (t:Nat) (e:Nat) (b:BalV) (a:BalV) (h:Bool):Wk MsgV:=(onlyIf (sh.inc) inc0 (incM C m.inc)).bind fun i=>mR8 C m sh k f t e b a h i
def mR6 (C:CodM) (m:MsgV) (sh:ShV) (k:Nat) (f:Nat) (t:Nat) (e:Nat) (b:BalV) (a:BalV):Wk MsgV:=(onlyIf (sh.pro) false (flagM C m.has)).bind fun h=>mR7 C m sh k f t e b a h
def mR5 (C:CodM) (m:MsgV) (sh:ShV) (k:Nat) (f:Nat) (t:Nat) (e:Nat) (b:BalV):Wk MsgV:=(onlyIf (sh.pro) bal0 (balM C m.acc)).bind fun a=>mR6 C m sh k f t e b a
def mR4 (C:CodM) (m:MsgV) (sh:ShV) (k:Nat) (f:Nat) (t:Nat) (e:Nat):Wk MsgV:=(onlyIf (decide (sh.bal ≠ 0)) bal0 (balM C m.b)).bind fun b=>mR5 C m sh k f t e b
set_option maxHeartbeats 40000000 in
theorem wmsg_any {B:Prop} {C:CodM} {cv:Value} {I:Inv} {R:Nat → Prop} (hC:Coder B C cv I R) (w:World) (s:List UInt8) (F:Nat → Prop) (m:MsgV) (a1 a2 a3:Option Addr) (c1 c2 c3:Nat) (hI:I w s F) (hm:MsgOk m) (hP:∀ k t,oneM C m.kind s = .ok (k,t) → PartsW C (shapeM k) m)
  (hs1:SlF w F a1 c1 m.st.log) (hs2:SlF w F a2 c2 m.diff.log) (hs3:SlF w F a3 c3 m.diff.whole.log) (hne:Bare B (msgM C m s)):Calls Tryz.prog 26 #[.agg #[cv],.agg (msgC m a1 c1 a2 c2 a3 c3)] w (EndsM I R F w (msgM C m s)):=by
 have hM:Hid (msgM C m s = ((oneM C m.kind).bind fun k=>(oneM C m.src).bind fun f=>(oneM C m.dst).bind fun t=>(fourM C m.epoch).bind fun e=>mR4 C m (shapeM k) k f t e) s):=rfl
 replace hP:Hid _:=hP
 obtain ⟨W,hW,r⟩:=xdr hC hI 82 48 48 #[cv] (msgC m a1 c1 a2 c2 a3 c3) (msgC msg0 none 0 none 0 none 0)
 go_enter Tryz.func26,Tryz.ntmps26
 go_wp2_with (first
  | (refine xac (by rfl) 48 rfl (msgC msg0 none 0 none 0 none 0) xbg ?_;rw [hW];clear hW;simp only [xgs]))
 have r0:=r.drew hC
 clear r
 let F5:Act → Act → World → Prop:=fun a a' w'=>∃ (gm k f t e:Nat) (s4:List UInt8) (F4:Nat → Prop),a' = (((((((((((((((((((a.put (some 7) (.agg #[cv])).put (some 8) (.pointer (some ⟨w.heap.size + 1,0,none⟩))).put (some 9) (.int .u8 (m.kind:Nat))).put (some 11) (.agg #[cv])).put (some 12) (.pointer (some ⟨w.heap.size + 1,1,none⟩))).put (some 13) (.int .u8 (m.src:Nat))).put (some 15) (.agg #[cv])).put (some 16) (.pointer (some ⟨w.heap.size + 1,2,none⟩))).put (some 17) (.int .u8 (m.dst:Nat))).put (some 19) (.agg #[cv])).put (some 20) (.pointer (some ⟨w.heap.size + 1,3,none⟩))).put (some 21) (.int .u32 (m.epoch:Nat))).put (some 10) (.int .u8 (k:Nat))).put (some 14) (.int .u8 (f:Nat))).put (some 18) (.int .u8 (t:Nat))).put (some 22) (.int .u32 (e:Nat))).put (some 23) (.agg (msgC ⟨k,f,t,e,bal0,bal0,false,inc0,0,st0,diff0,ent0,0,op0,res0⟩ none 0 none 0 none 0))).put (some 5) (.pointer (some ⟨gm,0,none⟩))).put none undef) ∧
  Run I R F w F4 w' s4 [(w.heap.size,82,#[cv]),(w.heap.size + 1,48,msgC m a1 c1 a2 c2 a3 c3),(w.heap.size + 1 + 1,48,msgC msg0 none 0 none 0 none 0),(gm,48,msgC ⟨k,f,t,e,bal0,bal0,false,inc0,0,st0,diff0,ent0,0,op0,res0⟩ none 0 none 0 none 0)] ∧ w.heap.size + 1 + 1 < gm ∧ k < 256 ∧ Hid (PartsW C (shapeM k) m) ∧ Hid (msgM C m s = mR4 C m (shapeM k) k f t e s4)
 refine xgt (Held I R F w [(w.heap.size,82,#[cv]),(w.heap.size + 1,48,msgC m a1 c1 a2 c2 a3 c3)]) (Plan.of [(0,true),(1,true),(2,true),(4,true),(5,true),(6,true),(8,true),(9,true),(10,true),(12,true),(13,true),(14,true)] (.either 3 (.either 7 (.either 11 (.either 15 (Plan.of [(16,true),(17,false),(18,false)] .done) 17 (Plan.of [(15,false),(16,true),(18,false)] .done)) 17 (Plan.of [(11,false),(15,false),(16,true),(18,false)] .done)) 17 (Plan.of [(7,false),(11,false),(15,false),(16,true),(18,false)] .done)) 17 (Plan.of [(3,false),(7,false),(11,false),(15,false),(16,true),(18,false)] .done))) (Thr F w (msgM C m s)) F5 (by kernel_rfl) (by kernel_rfl) (by kernel_rfl) (by kernel_rfl) r0.held2 (fun c a' w' h hd=>⟨hd,h.endsM⟩) ?_ ?_
 ·generalize W.drew = w0 at *
  refine xaa _ _ rfl (xan (by rfl) 82 _ rfl w.heap.size rfl 82 #[cv] _ Tryz.underlying82 rfl (xav cv) (fun W hS=>hS.get 0 rfl)) ?_
  try simp only [qp,qa,qb,qc]
  iterate 1
   first
    | (refine xad _ rfl (by rfl) ?_)
    | (refine xaa _ _ rfl (.inl ⟨by rfl,fun W hS=>by clear hS;go_simp;try with_reducible rfl⟩) ?_)
   try simp only [qp,qa,qb,qc]
  iterate 1
   first
    | (refine xad _ rfl (by rfl) ?_)
    | (refine xaa _ _ rfl (.inl ⟨by rfl,fun W hS=>by have z:=hS.cell 1 rfl 0 (v:=.int .u8 m.kind) rfl;go_simp;try with_reducible rfl⟩) ?_)
   try simp only [qp,qa,qb,qc]
  refine xaa _ _ rfl (xan (by rfl) 82 _ rfl w.heap.size rfl 82 #[cv] _ Tryz.underlying82 rfl (xav cv) (fun W hS=>hS.get 0 rfl)) ?_
  try simp only [qp,qa,qb,qc]
  iterate 1
   first
    | (refine xad _ rfl (by rfl) ?_)
    | (refine xaa _ _ rfl (.inl ⟨by rfl,fun W hS=>by clear hS;go_simp;try with_reducible rfl⟩) ?_)
   try simp only [qp,qa,qb,qc]
  iterate 1
   first
    | (refine xad _ rfl (by rfl) ?_)
    | (refine xaa _ _ rfl (.inl ⟨by rfl,fun W hS=>by have z:=hS.cell 1 rfl 1 (v:=.int .u8 m.src) rfl;go_simp;try with_reducible rfl⟩) ?_)
   try simp only [qp,qa,qb,qc]
  refine xaa _ _ rfl (xan (by rfl) 82 _ rfl w.heap.size rfl 82 #[cv] _ Tryz.underlying82 rfl (xav cv) (fun W hS=>hS.get 0 rfl)) ?_
  try simp only [qp,qa,qb,qc]
  iterate 1
   first
    | (refine xad _ rfl (by rfl) ?_)
    | (refine xaa _ _ rfl (.inl ⟨by rfl,fun W hS=>by clear hS;go_simp;try with_reducible rfl⟩) ?_)
   try simp only [qp,qa,qb,qc]
  iterate 1
   first
    | (refine xad _ rfl (by rfl) ?_)
    | (refine xaa _ _ rfl (.inl ⟨by rfl,fun W hS=>by have z:=hS.cell 1 rfl 2 (v:=.int .u8 m.dst) rfl;go_simp;try with_reducible rfl⟩) ?_)
   try simp only [qp,qa,qb,qc]
  refine xaa _ _ rfl (xan (by rfl) 82 _ rfl w.heap.size rfl 82 #[cv] _ Tryz.underlying82 rfl (xav cv) (fun W hS=>hS.get 0 rfl)) ?_
  try simp only [qp,qa,qb,qc]
  iterate 1
   first
    | (refine xad _ rfl (by rfl) ?_)
    | (refine xaa _ _ rfl (.inl ⟨by rfl,fun W hS=>by clear hS;go_simp;try with_reducible rfl⟩) ?_)
   try simp only [qp,qa,qb,qc]
  iterate 1
   first
    | (refine xad _ rfl (by rfl) ?_)
    | (refine xaa _ _ rfl (.inl ⟨by rfl,fun W hS=>by have z:=hS.cell 1 rfl 3 (v:=.int .u32 m.epoch) rfl;go_simp;try with_reducible rfl⟩) ?_)
   try simp only [qp,qa,qb,qc]
  refine xek ?_ ?_
  ·refine xam _ rfl (fun K hK=>?_)
   go_simp
   refine (hC.one _ _ _ m.kind r0.inv hm.kind (hne.here hM.out)).mono ?_
   intro e w1 h1
   rcases h1.split with ⟨q,hr,rfl,G,hs⟩ | ⟨y1,s1,F1,hr,rfl,hI1,hs1⟩
   ·exact xbo (xbp (hM.out.trans (xau hr)) ⟨_,r0.stp.trans hs⟩) rfl
   replace hM:Hid _:=hM.out.trans (xag hr)
   have hk256:=one_lt hr
   have hPk:Hid _:=hP.out _ _ hr
   have r1:=r0.call hC hI1 hs1
   refine hK.out _ _ r1.held2 ?_
   clear hK K hr h1 hs1
   try simp only [qp,qa,qb,qc]
   refine xek ?_ ?_
   ·refine xam _ rfl (fun K hK=>?_)
    go_simp
    refine (hC.one _ _ _ m.src r1.inv hm.src (hne.here hM.out)).mono ?_
    intro e w2 h2
    rcases h2.split with ⟨q,hr,rfl,G,hs⟩ | ⟨y2,s2,F2,hr,rfl,hI2,hs2⟩
    ·exact xbo (xbp (hM.out.trans (xau hr)) ⟨_,r1.stp.trans hs⟩) rfl
    replace hM:Hid _:=hM.out.trans (xag hr)
    have r2:=r1.call hC hI2 hs2
    refine hK.out _ _ r2.held2 ?_
    clear hK K hr h2 hs2
    try simp only [qp,qa,qb,qc]
    refine xek ?_ ?_
    ·refine xam _ rfl (fun K hK=>?_)
     go_simp
     refine (hC.one _ _ _ m.dst r2.inv hm.dst (hne.here hM.out)).mono ?_
     intro e w3 h3
     rcases h3.split with ⟨q,hr,rfl,G,hs⟩ | ⟨y3,s3,F3,hr,rfl,hI3,hs3⟩
     ·exact xbo (xbp (hM.out.trans (xau hr)) ⟨_,r2.stp.trans hs⟩) rfl
     replace hM:Hid _:=hM.out.trans (xag hr)
     have r3:=r2.call hC hI3 hs3
     refine hK.out _ _ r3.held2 ?_
     clear hK K hr h3 hs3
     try simp only [qp,qa,qb,qc]
     refine xek ?_ ?_
     ·refine xam _ rfl (fun K hK=>?_)
      go_simp
      refine (hC.four _ _ _ m.epoch r3.inv hm.epoch (hne.here hM.out)).mono ?_
      intro e w4 h4
      rcases h4.split with ⟨q,hr,rfl,G,hs⟩ | ⟨y4,s4,F4,hr,rfl,hI4,hs4⟩
      ·exact xbo (xbp (hM.out.trans (xau hr)) ⟨_,r3.stp.trans hs⟩) rfl
      replace hM:Hid _:=hM.out.trans (xag hr)
      have r4:=r3.call hC hI4 hs4
      refine hK.out _ _ r4.held2 ?_
      clear hK K hr h4 hs4
      try simp only [qp,qa,qb,qc]
      refine xaa _ _ rfl (xat (by rfl) 48 _ rfl [(0,.int .u8 (y1:Nat)),(1,.int .u8 (y2:Nat)),(2,.int .u8 (y3:Nat)),(3,.int .u32 (y4:Nat))] rfl (msgC ⟨y1,y2,y3,y4,bal0,bal0,false,inc0,0,st0,diff0,ent0,0,op0,res0⟩ none 0 none 0 none 0) (msg_built y1 y2 y3 y4)) ?_
      try simp only [qp,qa,qb,qc]
      have hgl:=(r4.get 2 rfl).lt
      have r8:=r4.alloc hC 48 (msgC msg0 none 0 none 0 none 0)
      refine xdh _ rfl (by rfl) 48 rfl (msgC msg0 none 0 none 0 none 0) xbg r8.held2 ?_
      try simp only [qp,qa,qb,qc]
      have r9:=r8.fourth hC hgl (xbb _ (msgC ⟨y1,y2,y3,y4,bal0,bal0,false,inc0,0,st0,diff0,ent0,0,op0,res0⟩ none 0 none 0 none 0)) ((r8.get 3 rfl).row _)
      refine xbs _ rfl (by rfl) 48 _ _ rfl _ rfl (msgC ⟨y1,y2,y3,y4,bal0,bal0,false,inc0,0,st0,diff0,ent0,0,op0,res0⟩ none 0 none 0 none 0) rfl 48 (msgC msg0 none 0 none 0 none 0) (xah _ _ _ _ _ _ _) (xbe _ _ _ _ _ _ _ _ _ _ _ _ _ _) (xbn _ _ _ _ _ _ _) (r8.get 3 rfl) r9.held2 ?_
      try simp only [qp,qa,qb,qc]
      refine xcd (xgp ?_)
      exact ⟨_,y1,y2,y3,y4,_,_,(by simp only [qp,qa,qb,qc]),r9,hgl,hk256,hPk,hM⟩
     ·have hgl:=(r3.get 2 rfl).lt
      have r8:=r3.alloc hC 48 (msgC msg0 none 0 none 0 none 0)
      refine xdh _ rfl (by rfl) 48 rfl (msgC msg0 none 0 none 0 none 0) xbg r8.held2 ?_
      try simp only [qp,qa,qb,qc]
      refine xam _ rfl (fun K hK=>?_)
      go_simp
      refine (hC.four _ _ _ m.epoch r8.inv hm.epoch (hne.here hM.out)).mono ?_
      intro e w4 h4
      rcases h4.split with ⟨q,hr,rfl,G,hs⟩ | ⟨y4,s4,F4,hr,rfl,hI4,hs4⟩
      ·exact xbo (xbp (hM.out.trans (xau hr)) ⟨_,r8.stp.trans hs⟩) rfl
      replace hM:Hid _:=hM.out.trans (xag hr)
      have r4:=r8.call hC hI4 hs4
      refine hK.out _ _ r4.held2 ?_
      clear hK K hr h4 hs4
      try simp only [qp,qa,qb,qc]
      refine xaa _ _ rfl (xat (by rfl) 48 _ rfl [(0,.int .u8 (y1:Nat)),(1,.int .u8 (y2:Nat)),(2,.int .u8 (y3:Nat)),(3,.int .u32 (y4:Nat))] rfl (msgC ⟨y1,y2,y3,y4,bal0,bal0,false,inc0,0,st0,diff0,ent0,0,op0,res0⟩ none 0 none 0 none 0) (msg_built y1 y2 y3 y4)) ?_
      try simp only [qp,qa,qb,qc]
      have r9:=r4.fourth hC hgl (xbb _ (msgC ⟨y1,y2,y3,y4,bal0,bal0,false,inc0,0,st0,diff0,ent0,0,op0,res0⟩ none 0 none 0 none 0)) ((r4.get 3 rfl).row _)
      refine xbs _ rfl (by rfl) 48 _ _ rfl _ rfl (msgC ⟨y1,y2,y3,y4,bal0,bal0,false,inc0,0,st0,diff0,ent0,0,op0,res0⟩ none 0 none 0 none 0) rfl 48 (msgC msg0 none 0 none 0 none 0) (xah _ _ _ _ _ _ _) (xbe _ _ _ _ _ _ _ _ _ _ _ _ _ _) (xbn _ _ _ _ _ _ _) (r4.get 3 rfl) r9.held2 ?_
      try simp only [qp,qa,qb,qc]
      refine xcd (xgp ?_)
      exact ⟨_,y1,y2,y3,y4,_,_,(by simp only [qp,qa,qb,qc]),r9,hgl,hk256,hPk,hM⟩
    ·have hgl:=(r2.get 2 rfl).lt
     have r8:=r2.alloc hC 48 (msgC msg0 none 0 none 0 none 0)
     refine xdh _ rfl (by rfl) 48 rfl (msgC msg0 none 0 none 0 none 0) xbg r8.held2 ?_
     try simp only [qp,qa,qb,qc]
     refine xam _ rfl (fun K hK=>?_)
     go_simp
     refine (hC.one _ _ _ m.dst r8.inv hm.dst (hne.here hM.out)).mono ?_
     intro e w3 h3
     rcases h3.split with ⟨q,hr,rfl,G,hs⟩ | ⟨y3,s3,F3,hr,rfl,hI3,hs3⟩
     ·exact xbo (xbp (hM.out.trans (xau hr)) ⟨_,r8.stp.trans hs⟩) rfl
     replace hM:Hid _:=hM.out.trans (xag hr)
     have r3:=r8.call hC hI3 hs3
     refine hK.out _ _ r3.held2 ?_
     clear hK K hr h3 hs3
     try simp only [qp,qa,qb,qc]
     refine xam _ rfl (fun K hK=>?_)
     go_simp
     refine (hC.four _ _ _ m.epoch r3.inv hm.epoch (hne.here hM.out)).mono ?_
     intro e w4 h4
     rcases h4.split with ⟨q,hr,rfl,G,hs⟩ | ⟨y4,s4,F4,hr,rfl,hI4,hs4⟩
     ·exact xbo (xbp (hM.out.trans (xau hr)) ⟨_,r3.stp.trans hs⟩) rfl
     replace hM:Hid _:=hM.out.trans (xag hr)
     have r4:=r3.call hC hI4 hs4
     refine hK.out _ _ r4.held2 ?_
     clear hK K hr h4 hs4
     try simp only [qp,qa,qb,qc]
     refine xaa _ _ rfl (xat (by rfl) 48 _ rfl [(0,.int .u8 (y1:Nat)),(1,.int .u8 (y2:Nat)),(2,.int .u8 (y3:Nat)),(3,.int .u32 (y4:Nat))] rfl (msgC ⟨y1,y2,y3,y4,bal0,bal0,false,inc0,0,st0,diff0,ent0,0,op0,res0⟩ none 0 none 0 none 0) (msg_built y1 y2 y3 y4)) ?_
     try simp only [qp,qa,qb,qc]
     have r9:=r4.fourth hC hgl (xbb _ (msgC ⟨y1,y2,y3,y4,bal0,bal0,false,inc0,0,st0,diff0,ent0,0,op0,res0⟩ none 0 none 0 none 0)) ((r4.get 3 rfl).row _)
     refine xbs _ rfl (by rfl) 48 _ _ rfl _ rfl (msgC ⟨y1,y2,y3,y4,bal0,bal0,false,inc0,0,st0,diff0,ent0,0,op0,res0⟩ none 0 none 0 none 0) rfl 48 (msgC msg0 none 0 none 0 none 0) (xah _ _ _ _ _ _ _) (xbe _ _ _ _ _ _ _ _ _ _ _ _ _ _) (xbn _ _ _ _ _ _ _) (r4.get 3 rfl) r9.held2 ?_
     try simp only [qp,qa,qb,qc]
     refine xcd (xgp ?_)
     exact ⟨_,y1,y2,y3,y4,_,_,(by simp only [qp,qa,qb,qc]),r9,hgl,hk256,hPk,hM⟩
   ·have hgl:=(r1.get 2 rfl).lt
    have r8:=r1.alloc hC 48 (msgC msg0 none 0 none 0 none 0)
    refine xdh _ rfl (by rfl) 48 rfl (msgC msg0 none 0 none 0 none 0) xbg r8.held2 ?_
    try simp only [qp,qa,qb,qc]
    refine xam _ rfl (fun K hK=>?_)
    go_simp
    refine (hC.one _ _ _ m.src r8.inv hm.src (hne.here hM.out)).mono ?_
    intro e w2 h2
    rcases h2.split with ⟨q,hr,rfl,G,hs⟩ | ⟨y2,s2,F2,hr,rfl,hI2,hs2⟩
    ·exact xbo (xbp (hM.out.trans (xau hr)) ⟨_,r8.stp.trans hs⟩) rfl
    replace hM:Hid _:=hM.out.trans (xag hr)
    have r2:=r8.call hC hI2 hs2
    refine hK.out _ _ r2.held2 ?_
    clear hK K hr h2 hs2
    try simp only [qp,qa,qb,qc]
    refine xam _ rfl (fun K hK=>?_)
    go_simp
    refine (hC.one _ _ _ m.dst r2.inv hm.dst (hne.here hM.out)).mono ?_
    intro e w3 h3
    rcases h3.split with ⟨q,hr,rfl,G,hs⟩ | ⟨y3,s3,F3,hr,rfl,hI3,hs3⟩
    ·exact xbo (xbp (hM.out.trans (xau hr)) ⟨_,r2.stp.trans hs⟩) rfl
    replace hM:Hid _:=hM.out.trans (xag hr)
    have r3:=r2.call hC hI3 hs3
    refine hK.out _ _ r3.held2 ?_
    clear hK K hr h3 hs3
    try simp only [qp,qa,qb,qc]
    refine xam _ rfl (fun K hK=>?_)
    go_simp
    refine (hC.four _ _ _ m.epoch r3.inv hm.epoch (hne.here hM.out)).mono ?_
    intro e w4 h4
    rcases h4.split with ⟨q,hr,rfl,G,hs⟩ | ⟨y4,s4,F4,hr,rfl,hI4,hs4⟩
    ·exact xbo (xbp (hM.out.trans (xau hr)) ⟨_,r3.stp.trans hs⟩) rfl
    replace hM:Hid _:=hM.out.trans (xag hr)
    have r4:=r3.call hC hI4 hs4
    refine hK.out _ _ r4.held2 ?_
    clear hK K hr h4 hs4
    try simp only [qp,qa,qb,qc]
    refine xaa _ _ rfl (xat (by rfl) 48 _ rfl [(0,.int .u8 (y1:Nat)),(1,.int .u8 (y2:Nat)),(2,.int .u8 (y3:Nat)),(3,.int .u32 (y4:Nat))] rfl (msgC ⟨y1,y2,y3,y4,bal0,bal0,false,inc0,0,st0,diff0,ent0,0,op0,res0⟩ none 0 none 0 none 0) (msg_built y1 y2 y3 y4)) ?_
    try simp only [qp,qa,qb,qc]
    have r9:=r4.fourth hC hgl (xbb _ (msgC ⟨y1,y2,y3,y4,bal0,bal0,false,inc0,0,st0,diff0,ent0,0,op0,res0⟩ none 0 none 0 none 0)) ((r4.get 3 rfl).row _)
    refine xbs _ rfl (by rfl) 48 _ _ rfl _ rfl (msgC ⟨y1,y2,y3,y4,bal0,bal0,false,inc0,0,st0,diff0,ent0,0,op0,res0⟩ none 0 none 0 none 0) rfl 48 (msgC msg0 none 0 none 0 none 0) (xah _ _ _ _ _ _ _) (xbe _ _ _ _ _ _ _ _ _ _ _ _ _ _) (xbn _ _ _ _ _ _ _) (r4.get 3 rfl) r9.held2 ?_
    try simp only [qp,qa,qb,qc]
    refine xcd (xgp ?_)
    exact ⟨_,y1,y2,y3,y4,_,_,(by simp only [qp,qa,qb,qc]),r9,hgl,hk256,hPk,hM⟩
  ·have hgl:=(r0.get 2 rfl).lt
   have r8:=r0.alloc hC 48 (msgC msg0 none 0 none 0 none 0)
   refine xdh _ rfl (by rfl) 48 rfl (msgC msg0 none 0 none 0 none 0) xbg r8.held2 ?_
   try simp only [qp,qa,qb,qc]
   refine xam _ rfl (fun K hK=>?_)
   go_simp
   refine (hC.one _ _ _ m.kind r8.inv hm.kind (hne.here hM.out)).mono ?_
   intro e w1 h1
   rcases h1.split with ⟨q,hr,rfl,G,hs⟩ | ⟨y1,s1,F1,hr,rfl,hI1,hs1⟩
   ·exact xbo (xbp (hM.out.trans (xau hr)) ⟨_,r8.stp.trans hs⟩) rfl
   replace hM:Hid _:=hM.out.trans (xag hr)
   have hk256:=one_lt hr
   have hPk:Hid _:=hP.out _ _ hr
   have r1:=r8.call hC hI1 hs1
   refine hK.out _ _ r1.held2 ?_
   clear hK K hr h1 hs1
   try simp only [qp,qa,qb,qc]
   refine xam _ rfl (fun K hK=>?_)
   go_simp
   refine (hC.one _ _ _ m.src r1.inv hm.src (hne.here hM.out)).mono ?_
   intro e w2 h2
   rcases h2.split with ⟨q,hr,rfl,G,hs⟩ | ⟨y2,s2,F2,hr,rfl,hI2,hs2⟩
   ·exact xbo (xbp (hM.out.trans (xau hr)) ⟨_,r1.stp.trans hs⟩) rfl
   replace hM:Hid _:=hM.out.trans (xag hr)
   have r2:=r1.call hC hI2 hs2
   refine hK.out _ _ r2.held2 ?_
   clear hK K hr h2 hs2
   try simp only [qp,qa,qb,qc]
   refine xam _ rfl (fun K hK=>?_)
   go_simp
   refine (hC.one _ _ _ m.dst r2.inv hm.dst (hne.here hM.out)).mono ?_
   intro e w3 h3
   rcases h3.split with ⟨q,hr,rfl,G,hs⟩ | ⟨y3,s3,F3,hr,rfl,hI3,hs3⟩
   ·exact xbo (xbp (hM.out.trans (xau hr)) ⟨_,r2.stp.trans hs⟩) rfl
   replace hM:Hid _:=hM.out.trans (xag hr)
   have r3:=r2.call hC hI3 hs3
   refine hK.out _ _ r3.held2 ?_
   clear hK K hr h3 hs3
   try simp only [qp,qa,qb,qc]
   refine xam _ rfl (fun K hK=>?_)
   go_simp
   refine (hC.four _ _ _ m.epoch r3.inv hm.epoch (hne.here hM.out)).mono ?_
   intro e w4 h4
   rcases h4.split with ⟨q,hr,rfl,G,hs⟩ | ⟨y4,s4,F4,hr,rfl,hI4,hs4⟩
   ·exact xbo (xbp (hM.out.trans (xau hr)) ⟨_,r3.stp.trans hs⟩) rfl
   replace hM:Hid _:=hM.out.trans (xag hr)
   have r4:=r3.call hC hI4 hs4
   refine hK.out _ _ r4.held2 ?_
   clear hK K hr h4 hs4
   try simp only [qp,qa,qb,qc]
   refine xaa _ _ rfl (xat (by rfl) 48 _ rfl [(0,.int .u8 (y1:Nat)),(1,.int .u8 (y2:Nat)),(2,.int .u8 (y3:Nat)),(3,.int .u32 (y4:Nat))] rfl (msgC ⟨y1,y2,y3,y4,bal0,bal0,false,inc0,0,st0,diff0,ent0,0,op0,res0⟩ none 0 none 0 none 0) (msg_built y1 y2 y3 y4)) ?_
   try simp only [qp,qa,qb,qc]
   have r9:=r4.fourth hC hgl (xbb _ (msgC ⟨y1,y2,y3,y4,bal0,bal0,false,inc0,0,st0,diff0,ent0,0,op0,res0⟩ none 0 none 0 none 0)) ((r4.get 3 rfl).row _)
   refine xbs _ rfl (by rfl) 48 _ _ rfl _ rfl (msgC ⟨y1,y2,y3,y4,bal0,bal0,false,inc0,0,st0,diff0,ent0,0,op0,res0⟩ none 0 none 0 none 0) rfl 48 (msgC msg0 none 0 none 0 none 0) (xah _ _ _ _ _ _ _) (xbe _ _ _ _ _ _ _ _ _ _ _ _ _ _) (xbn _ _ _ _ _ _ _) (r4.get 3 rfl) r9.held2 ?_
   try simp only [qp,qa,qb,qc]
   refine xcd (xgp ?_)
   exact ⟨_,y1,y2,y3,y4,_,_,(by simp only [qp,qa,qb,qc]),r9,hgl,hk256,hPk,hM⟩
 ·rintro a' w1 ⟨gm,k,f,t,e,s4,F4,rfl,r4,hgm,hk,hPk,hM⟩
  clear hP r0
  have hk0:=(r4.get 3 rfl).mc_kind
  go_wp2_with fail
  refine (shapeOf_any k _ hk).mono ?_
  rintro en w2 ⟨rfl,hq⟩
  obtain ⟨sh,hsh⟩:∃ sh,shapeM k = sh:=⟨_,rfl⟩
  rw [hsh] at hM hPk ⊢
  clear hk0 hsh
  have r5:=r4.later hC hq
  obtain ⟨w3,hw3,hS3,hq3⟩:=xcm w2 100 (shC sh0) (shC sh)
  have r6:=r5.fresh hC hq3 hS3
  obtain ⟨gs,hgs⟩:∃ gs,w2.heap.size = gs:=⟨_,rfl⟩
  have hgg:gm < gs:=by rw [← hgs];exact (r5.get 3 rfl).lt
  rw [hgs] at r6 hS3 hw3
  have r7:Run I R F w F4 w3 s4 ([(w.heap.size,82,#[cv]),(w.heap.size + 1,48,msgC m a1 c1 a2 c2 a3 c3),(w.heap.size + 1 + 1,48,msgC msg0 none 0 none 0 none 0),(gm,48,msgC ⟨k,f,t,e,bal0,bal0,false,inc0,0,st0,diff0,ent0,0,op0,res0⟩ none 0 none 0 none 0),(gs,100,shC sh)] ++ []):=r6
  have hst3:(w2.alloc (.cells (shC sh0) 100)).setRow gs (shC sh) = w3:=hw3
  have hnew3:Has (w2.alloc (.cells (shC sh0) 100)) gs 100 (shC sh0):=by rw [← hgs];exact Has.new _ _ _
  clear r4 r5 r6 hq hq3 hw3 hS3
  obtain ⟨x1,x2,x3,bal,pro,inc,grp,st,dif,ent,mostN,op,res⟩:=sh
  have hc0:w3.cell? ⟨gs,3,none⟩ = some (.int .u8 (bal:Int)):=((r7.get 4 rfl).cell 3).trans rfl
  go_upto_if 29 with (first
   | (refine xac (by rfl) 100 rfl (shC sh0) xdn ?_;simp only [hgs])
   | (refine xai (by rfl) 100 _ _ rfl gs rfl (shC ⟨x1,x2,x3,bal,pro,inc,grp,st,dif,ent,mostN,op,res⟩) rfl 100 (shC sh0) (xby _) rfl (sh_one _) ?hg w3 ?hW ?_;(case hg=>exact hnew3);(case hW=>exact hst3);clear hst3 hnew3 hgs))
  go_cut [] from 7 (fun wc=>∃ (b:BalV) (F':Nat → Prop) (s':List UInt8),Run I R F w F' wc s' ([(w.heap.size,82,#[cv]),(w.heap.size + 1,48,msgC m a1 c1 a2 c2 a3 c3),(w.heap.size + 1 + 1,48,msgC msg0 none 0 none 0 none 0),(gm,48,msgC ⟨k,f,t,e,b,bal0,false,inc0,0,st0,diff0,ent0,0,op0,res0⟩ none 0 none 0 none 0),(gs,100,shC ⟨x1,x2,x3,bal,pro,inc,grp,st,dif,ent,mostN,op,res⟩)] ++ []) ∧ Hid (msgM C m s = mR5 C m ⟨x1,x2,x3,bal,pro,inc,grp,st,dif,ent,mostN,op,res⟩ k f t e b s'))
  case first =>
   by_cases hb:bal = 0
   ·subst hb
    have hN:Hid _:=(hM.out).trans (xag (xgc (by simp)))
    go_wp2
    go_meet
    case rel =>
     exact ⟨bal0,_,_,r7,hN⟩
   ·have hbI:¬ (bal:Int) = 0:=by omega
    have hL:=r7.get 0 rfl
    have hG:=(r7.get 1 rfl).m_b
    go_wp2_with (first
     | (refine xab (by rfl) 82 _ rfl w.heap.size rfl 82 #[cv] _ Tryz.underlying82 rfl (xav cv) ?hg ?_;(case hg=>exact hL))
     | (refine xae (by rfl) 24 _ rfl (w.heap.size + 1) 4 rfl ((balC m.b).toList) _ ?hg Tryz.underlying24 rfl (xbx _) ?_;(case hg=>exact hG)))
    clear hL hG
    refine (ballot_any hC _ _ _ m.b r7.inv hm.b (fun b9 q9=>hne b9 (hM.out.trans (xau (xcx (by simpa using hb) q9))))).mono ?_
    intro e9 w9b h9
    rcases h9.split with ⟨q,hr,rfl,G,hs⟩ | ⟨yb,s9b,F9b,hr,rfl,hI9,hs9⟩
    ·unfold thrown
     have hE:Hid _:=hM.out.trans (xau (xcx (by simpa using hb) hr))
     have hs':Hid _:=r7.stp.trans hs
     clear h9 hM hr hs
     go_wp2
     exact ⟨rfl,xee hE.out rfl ⟨_,hs'.out⟩⟩
    replace hM:Hid _:=hM.out.trans (xag (xew (by simpa using hb) hr))
    have q1b:=r7.call hC hI9 hs9
    clear h9 hr hs9 hI9
    have hth:=(q1b.get 3 rfl).there 4 2 (show 4 + 2 ≤ 131 by decide)
    have hput:=(show Has w9b gm 48 (msgL ⟨k,f,t,e,bal0,bal0,false,inc0,0,st0,diff0,ent0,0,op0,res0⟩ none 0 none 0 none 0).toArray from q1b.get 3 rfl).putCells ((balC yb).toList) 4 (show 4 + 2 ≤ 131 by decide)
    rw [mput_b] at hput
    have q2b:Run I R F w F9b (w9b.setCells gm 4 ((balC yb).toList)) s9b ([(w.heap.size,82,#[cv]),(w.heap.size + 1,48,msgC m a1 c1 a2 c2 a3 c3),(w.heap.size + 1 + 1,48,msgC msg0 none 0 none 0 none 0),(gm,48,msgC ⟨k,f,t,e,yb,bal0,false,inc0,0,st0,diff0,ent0,0,op0,res0⟩ none 0 none 0 none 0),(gs,100,shC ⟨x1,x2,x3,bal,pro,inc,grp,st,dif,ent,mostN,op,res⟩)] ++ []):=q1b.made hC hgm hgg (fun e he=>by cases he) (xap ((balC yb).toList) 4) hput
    obtain ⟨v9b,hv9⟩:∃ W,w9b.setCells gm 4 ((balC yb).toList) = W:=⟨_,rfl⟩
    rw [hv9] at q2b
    clear q1b hput
    go_wp2_with (first
     | (refine xak (by rfl) 24 _ _ rfl gm 4 (balC yb) rfl rfl ?ht (xbx _) (xhm _) ?_;(case ht=>exact hth);rw [show w9b.setCells gm 4 (balC yb).toList = v9b from hv9];clear hv9 hth))
    go_meet
    case rel =>
     exact ⟨yb,_,_,q2b,hM⟩
  case rest =>
   obtain ⟨b,F0,t0,z0,hM⟩:=hcut
   clear hc0 r7
   obtain ⟨wz0,hwz⟩:∃ W,wc = W:=⟨_,rfl⟩
   subst hwz
   have hc1:wc.cell? ⟨gs,4,none⟩ = some (.bool pro):=((z0.get 4 rfl).cell 4).trans rfl
   go_upto_if 36 with (first
    | fail)
   go_cut [] from 7 (fun wc=>∃ (a:BalV) (h:Bool) (F':Nat → Prop) (s':List UInt8),Run I R F w F' wc s' ([(w.heap.size,82,#[cv]),(w.heap.size + 1,48,msgC m a1 c1 a2 c2 a3 c3),(w.heap.size + 1 + 1,48,msgC msg0 none 0 none 0 none 0),(gm,48,msgC ⟨k,f,t,e,b,a,h,inc0,0,st0,diff0,ent0,0,op0,res0⟩ none 0 none 0 none 0),(gs,100,shC ⟨x1,x2,x3,bal,pro,inc,grp,st,dif,ent,mostN,op,res⟩)] ++ []) ∧ Hid (msgM C m s = mR7 C m ⟨x1,x2,x3,bal,pro,inc,grp,st,dif,ent,mostN,op,res⟩ k f t e b a h s'))
   case first =>
    cases pro with
    | false =>
     have hN:Hid _:=((hM.out).trans (xag (xgc rfl))).trans (xag (xgc rfl))
     go_wp2
     go_meet
     case rel =>
      exact ⟨bal0,false,_,_,z0,hN⟩
    | true =>
     have hL:=z0.get 0 rfl
     have hG:=(z0.get 1 rfl).m_acc
     go_wp2_with (first
      | (refine xab (by rfl) 82 _ rfl w.heap.size rfl 82 #[cv] _ Tryz.underlying82 rfl (xav cv) ?hg ?_;(case hg=>exact hL))
      | (refine xae (by rfl) 24 _ rfl (w.heap.size + 1) 6 rfl ((balC m.acc).toList) _ ?hg Tryz.underlying24 rfl (xbx _) ?_;(case hg=>exact hG)))
     clear hL hG
     refine (ballot_any hC _ _ _ m.acc z0.inv hm.acc (fun b9 q9=>hne b9 (hM.out.trans (xau (xcx rfl q9))))).mono ?_
     intro e9 w9a h9
     rcases h9.split with ⟨q,hr,rfl,G,hs⟩ | ⟨ya,s9a,F9a,hr,rfl,hI9,hs9⟩
     ·unfold thrown
      have hE:Hid _:=hM.out.trans (xau (xcx rfl hr))
      have hs':Hid _:=z0.stp.trans hs
      clear h9 hM hr hs
      go_wp2
      exact ⟨rfl,xee hE.out rfl ⟨_,hs'.out⟩⟩
     replace hM:Hid _:=hM.out.trans (xag (xew rfl hr))
     have q1a:=z0.call hC hI9 hs9
     clear h9 hr hs9 hI9
     have hth:=(q1a.get 3 rfl).there 6 2 (show 6 + 2 ≤ 131 by decide)
     have hput:=(show Has w9a gm 48 (msgL ⟨k,f,t,e,b,bal0,false,inc0,0,st0,diff0,ent0,0,op0,res0⟩ none 0 none 0 none 0).toArray from q1a.get 3 rfl).putCells ((balC ya).toList) 6 (show 6 + 2 ≤ 131 by decide)
     rw [mput_acc] at hput
     have q2a:Run I R F w F9a (w9a.setCells gm 6 ((balC ya).toList)) s9a ([(w.heap.size,82,#[cv]),(w.heap.size + 1,48,msgC m a1 c1 a2 c2 a3 c3),(w.heap.size + 1 + 1,48,msgC msg0 none 0 none 0 none 0),(gm,48,msgC ⟨k,f,t,e,b,ya,false,inc0,0,st0,diff0,ent0,0,op0,res0⟩ none 0 none 0 none 0),(gs,100,shC ⟨x1,x2,x3,bal,true,inc,grp,st,dif,ent,mostN,op,res⟩)] ++ []):=q1a.made hC hgm hgg (fun e he=>by cases he) (xap ((balC ya).toList) 6) hput
     obtain ⟨v9a,hv9⟩:∃ W,w9a.setCells gm 6 ((balC ya).toList) = W:=⟨_,rfl⟩
     rw [hv9] at q2a
     clear q1a hput
     have hG:=(q2a.get 1 rfl).mc_has
     go_wp2_with (first
      | (refine xak (by rfl) 24 _ _ rfl gm 6 (balC ya) rfl rfl ?ht (xbx _) (xhm _) ?_;(case ht=>exact hth);rw [show w9a.setCells gm 6 (balC ya).toList = v9a from hv9];clear hv9 hth)
      | (refine xab (by rfl) 82 _ rfl w.heap.size rfl 82 #[cv] _ Tryz.underlying82 rfl (xav cv) ?hg ?_;(case hg=>exact q2a.get 0 rfl)))
     clear hG
     refine (wflag_any hC _ _ _ m.has q2a.inv (fun b9 q9=>hne b9 (hM.out.trans (xau (xcx rfl q9))))).mono ?_
     intro e9 w9h h9
     rcases h9.split with ⟨q,hr,rfl,G,hs⟩ | ⟨yh,s9h,F9h,hr,rfl,hI9,hs9⟩
     ·unfold thrown
      have hE:Hid _:=hM.out.trans (xau (xcx rfl hr))
      have hs':Hid _:=q2a.stp.trans hs
      clear h9 hM hr hs
      go_wp2
      exact ⟨rfl,xee hE.out rfl ⟨_,hs'.out⟩⟩
     replace hM:Hid _:=hM.out.trans (xag (xew rfl hr))
     have q1h:=q2a.call hC hI9 hs9
     clear h9 hr hs9 hI9
     have hc:w9h.cell? ⟨gm,8,none⟩ = some (.bool false):=((q1h.get 3 rfl).cell 8).trans rfl
     have hz:w9h.frozen? ⟨gm,8,none⟩ = false:=(q1h.get 3 rfl).free 8
     have hput:=(q1h.get 3 rfl).set 8 (.bool yh)
     rw [mset_has] at hput
     have q2h:Run I R F w F9h (w9h.setCell ⟨gm,8,none⟩ (.bool yh)) s9h ([(w.heap.size,82,#[cv]),(w.heap.size + 1,48,msgC m a1 c1 a2 c2 a3 c3),(w.heap.size + 1 + 1,48,msgC msg0 none 0 none 0 none 0),(gm,48,msgC ⟨k,f,t,e,b,ya,yh,inc0,0,st0,diff0,ent0,0,op0,res0⟩ none 0 none 0 none 0),(gs,100,shC ⟨x1,x2,x3,bal,true,inc,grp,st,dif,ent,mostN,op,res⟩)] ++ []):=q1h.made hC hgm hgg (fun e he=>by cases he) (xaq w9h 8 (.bool yh)) hput
     obtain ⟨v9h,hv9⟩:∃ W,w9h.setCell ⟨gm,8,none⟩ (.bool yh) = W:=⟨_,rfl⟩
     rw [hv9] at q2h
     clear q1h hput
     go_wp2
     clear hc hz hv9
     go_meet
     case rel =>
      exact ⟨ya,yh,_,_,q2h,hM⟩
   case rest =>
    obtain ⟨a,h,F1,t1,z1,hM⟩:=hcut
    clear hc1 z0
    obtain ⟨wz1,hwz⟩:∃ W,wc = W:=⟨_,rfl⟩
    subst hwz
    have hc2:wc.cell? ⟨gs,5,none⟩ = some (.bool inc):=((z1.get 4 rfl).cell 5).trans rfl
    go_upto_if 48 with (first
     | fail)
    go_cut [] from 7 (fun wc=>∃ (i:IncV) (F':Nat → Prop) (s':List UInt8),Run I R F w F' wc s' ([(w.heap.size,82,#[cv]),(w.heap.size + 1,48,msgC m a1 c1 a2 c2 a3 c3),(w.heap.size + 1 + 1,48,msgC msg0 none 0 none 0 none 0),(gm,48,msgC ⟨k,f,t,e,b,a,h,i,0,st0,diff0,ent0,0,op0,res0⟩ none 0 none 0 none 0),(gs,100,shC ⟨x1,x2,x3,bal,pro,inc,grp,st,dif,ent,mostN,op,res⟩)] ++ []) ∧ Hid (msgM C m s = mR8 C m ⟨x1,x2,x3,bal,pro,inc,grp,st,dif,ent,mostN,op,res⟩ k f t e b a h i s'))
    case first =>
     cases inc with
     | false =>
      have hN:Hid _:=(hM.out).trans (xag (xgc rfl))
      go_wp2
      go_meet
      case rel =>
       exact ⟨inc0,_,_,z1,hN⟩
     | true =>
      have hL:=z1.get 0 rfl
      have hG:=(z1.get 1 rfl).m_inc
      go_wp2_with (first
       | (refine xab (by rfl) 82 _ rfl w.heap.size rfl 82 #[cv] _ Tryz.underlying82 rfl (xav cv) ?hg ?_;(case hg=>exact hL))
       | (refine xae (by rfl) 26 _ rfl (w.heap.size + 1) 9 rfl ((incC m.inc).toList) _ ?hg Tryz.underlying26 rfl (ws_inc _) ?_;(case hg=>exact hG)))
      clear hL hG
      refine (wincr_any hC _ _ _ m.inc z1.inv hm.inc (fun b9 q9=>hne b9 (hM.out.trans (xau (xcx rfl q9))))).mono ?_
      intro e9 w9i h9
      rcases h9.split with ⟨q,hr,rfl,G,hs⟩ | ⟨yi,s9i,F9i,hr,rfl,hI9,hs9⟩
      ·unfold thrown
       have hE:Hid _:=hM.out.trans (xau (xcx rfl hr))
       have hs':Hid _:=z1.stp.trans hs
       clear h9 hM hr hs
       go_wp2
       exact ⟨rfl,xee hE.out rfl ⟨_,hs'.out⟩⟩
      replace hM:Hid _:=hM.out.trans (xag (xew rfl hr))
      have q1i:=z1.call hC hI9 hs9
      clear h9 hr hs9 hI9
      have hth:=(q1i.get 3 rfl).there 9 3 (show 9 + 3 ≤ 131 by decide)
      have hput:=(show Has w9i gm 48 (msgL ⟨k,f,t,e,b,a,h,inc0,0,st0,diff0,ent0,0,op0,res0⟩ none 0 none 0 none 0).toArray from q1i.get 3 rfl).putCells ((incC yi).toList) 9 (show 9 + 3 ≤ 131 by decide)
      rw [xhh] at hput
      have q2i:Run I R F w F9i (w9i.setCells gm 9 ((incC yi).toList)) s9i ([(w.heap.size,82,#[cv]),(w.heap.size + 1,48,msgC m a1 c1 a2 c2 a3 c3),(w.heap.size + 1 + 1,48,msgC msg0 none 0 none 0 none 0),(gm,48,msgC ⟨k,f,t,e,b,a,h,yi,0,st0,diff0,ent0,0,op0,res0⟩ none 0 none 0 none 0),(gs,100,shC ⟨x1,x2,x3,bal,pro,true,grp,st,dif,ent,mostN,op,res⟩)] ++ []):=q1i.made hC hgm hgg (fun e he=>by cases he) (xap ((incC yi).toList) 9) hput
      obtain ⟨v9i,hv9⟩:∃ W,w9i.setCells gm 9 ((incC yi).toList) = W:=⟨_,rfl⟩
      rw [hv9] at q2i
      clear q1i hput
      go_wp2_with (first
       | (refine xak (by rfl) 26 _ _ rfl gm 9 (incC yi) rfl rfl ?ht (ws_inc _) (wo_inc _) ?_;(case ht=>exact hth);rw [show w9i.setCells gm 9 (incC yi).toList = v9i from hv9];clear hv9 hth))
      go_meet
      case rel =>
       exact ⟨yi,_,_,q2i,hM⟩
    case rest =>
     obtain ⟨i,F2,t2,z2,hM⟩:=hcut
     clear hc2 z1
     obtain ⟨wz2,hwz⟩:∃ W,wc = W:=⟨_,rfl⟩
     subst hwz
     have hc3:wc.cell? ⟨gs,6,none⟩ = some (.bool grp):=((z2.get 4 rfl).cell 6).trans rfl
     go_upto_if 55 with (first
      | fail)
     go_cut [] from 7 (fun wc=>∃ (g:Nat) (F':Nat → Prop) (s':List UInt8),Run I R F w F' wc s' ([(w.heap.size,82,#[cv]),(w.heap.size + 1,48,msgC m a1 c1 a2 c2 a3 c3),(w.heap.size + 1 + 1,48,msgC msg0 none 0 none 0 none 0),(gm,48,msgC ⟨k,f,t,e,b,a,h,i,g,st0,diff0,ent0,0,op0,res0⟩ none 0 none 0 none 0),(gs,100,shC ⟨x1,x2,x3,bal,pro,inc,grp,st,dif,ent,mostN,op,res⟩)] ++ []) ∧ Hid (msgM C m s = mR9 C m ⟨x1,x2,x3,bal,pro,inc,grp,st,dif,ent,mostN,op,res⟩ k f t e b a h i g s'))
     case first =>
      cases grp with
      | false =>
       have hN:Hid _:=(hM.out).trans (xag (xgc rfl))
       go_wp2
       go_meet
       case rel =>
        exact ⟨0,_,_,z2,hN⟩
      | true =>
       have hL:=z2.get 0 rfl
       have hG:=(z2.get 1 rfl).mc_group
       go_wp2_with (first
        | (refine xab (by rfl) 82 _ rfl w.heap.size rfl 82 #[cv] _ Tryz.underlying82 rfl (xav cv) ?hg ?_;(case hg=>exact hL)))
       clear hL hG
       refine (hC.one _ _ _ m.group z2.inv hm.group (fun b9 q9=>hne b9 (hM.out.trans (xau (xcx rfl q9))))).mono ?_
       intro e9 w9g h9
       rcases h9.split with ⟨q,hr,rfl,G,hs⟩ | ⟨yg,s9g,F9g,hr,rfl,hI9,hs9⟩
       ·unfold thrown
        have hE:Hid _:=hM.out.trans (xau (xcx rfl hr))
        have hs':Hid _:=z2.stp.trans hs
        clear h9 hM hr hs
        go_wp2
        exact ⟨rfl,xee hE.out rfl ⟨_,hs'.out⟩⟩
       replace hM:Hid _:=hM.out.trans (xag (xew rfl hr))
       have q1g:=z2.call hC hI9 hs9
       clear h9 hr hs9 hI9
       have hc:w9g.cell? ⟨gm,12,none⟩ = some (.int .u8 0):=((q1g.get 3 rfl).cell 12).trans rfl
       have hz:w9g.frozen? ⟨gm,12,none⟩ = false:=(q1g.get 3 rfl).free 12
       have hput:=(q1g.get 3 rfl).set 12 (.int .u8 (yg:Int))
       rw [xem] at hput
       have q2g:Run I R F w F9g (w9g.setCell ⟨gm,12,none⟩ (.int .u8 (yg:Int))) s9g ([(w.heap.size,82,#[cv]),(w.heap.size + 1,48,msgC m a1 c1 a2 c2 a3 c3),(w.heap.size + 1 + 1,48,msgC msg0 none 0 none 0 none 0),(gm,48,msgC ⟨k,f,t,e,b,a,h,i,yg,st0,diff0,ent0,0,op0,res0⟩ none 0 none 0 none 0),(gs,100,shC ⟨x1,x2,x3,bal,pro,inc,true,st,dif,ent,mostN,op,res⟩)] ++ []):=q1g.made hC hgm hgg (fun e he=>by cases he) (xaq w9g 12 (.int .u8 (yg:Int))) hput
       obtain ⟨v9g,hv9⟩:∃ W,w9g.setCell ⟨gm,12,none⟩ (.int .u8 (yg:Int)) = W:=⟨_,rfl⟩
       rw [hv9] at q2g
       clear q1g hput
       go_wp2
       clear hc hz hv9
       go_meet
       case rel =>
        exact ⟨yg,_,_,q2g,hM⟩
     case rest =>
      obtain ⟨g,F3,t3,z3,hM⟩:=hcut
      clear hc3 z2
      obtain ⟨wz3,hwz⟩:∃ W,wc = W:=⟨_,rfl⟩
      subst hwz
      have hc4:wc.cell? ⟨gs,7,none⟩ = some (.bool st):=((z3.get 4 rfl).cell 7).trans rfl
      go_upto_if 62 with (first
       | fail)
      go_cut [] from 7 (fun wc=>∃ (u:StV) (b1:Option Addr) (d1:Nat) (lg:List Var) (F':Nat → Prop) (s':List UInt8),Run I R F w F' wc s' ([(w.heap.size,82,#[cv]),(w.heap.size + 1,48,msgC m a1 c1 a2 c2 a3 c3),(w.heap.size + 1 + 1,48,msgC msg0 none 0 none 0 none 0),(gm,48,msgC ⟨k,f,t,e,b,a,h,i,g,u,diff0,ent0,0,op0,res0⟩ b1 d1 none 0 none 0),(gs,100,shC ⟨x1,x2,x3,bal,pro,inc,grp,st,dif,ent,mostN,op,res⟩)] ++ lg) ∧ Hid (msgM C m s = mR10 C m ⟨x1,x2,x3,bal,pro,inc,grp,st,dif,ent,mostN,op,res⟩ k f t e b a h i g u s') ∧ (∀ e ∈ lg,gs < e.1) ∧ LogAt lg b1 d1 u.log)
      case first =>
       cases st with
       | false =>
        have hN:Hid _:=(hM.out).trans (xag (xgc rfl))
        go_wp2
        go_meet
        case rel =>
         exact ⟨st0,none,0,[],_,_,z3,hN,(fun e he=>by cases he),.inl ⟨rfl,rfl,rfl⟩⟩
       | true =>
        have hL:=z3.get 0 rfl
        have hG:=(z3.get 1 rfl).m_st
        go_wp2_with (first
         | (refine xab (by rfl) 82 _ rfl w.heap.size rfl 82 #[cv] _ Tryz.underlying82 rfl (xav cv) ?hg ?_;(case hg=>exact hL))
         | (refine xae (by rfl) 44 _ rfl (w.heap.size + 1) 13 rfl (stL m.st a1 c1) _ ?hg Tryz.underlying44 rfl (xcg _ _ _) ?_;(case hg=>exact hG)))
        clear hL hG
        refine (wstate_any hC _ _ _ m.st a1 c1 z3.inv (hPk.out.st rfl) (hs1.step z3.stp) (fun b9 q9=>hne b9 (hM.out.trans (xau (xcx rfl q9))))).mono ?_
        intro e9 w9u h9
        rcases h9.split with ⟨q,hr,rfl,G,hs⟩ | ⟨yu,s9u,F9u,gyu,hr,rfl,hn,hI9,hs9⟩
        ·unfold thrown
         have hE:Hid _:=hM.out.trans (xau (xcx rfl hr))
         have hs':Hid _:=z3.stp.trans hs
         clear h9 hM hr hs
         go_wp2
         exact ⟨rfl,xee hE.out rfl ⟨_,hs'.out⟩⟩
        replace hM:Hid _:=hM.out.trans (xag (xew rfl hr))
        have hgy:gs < gyu:=Nat.lt_of_lt_of_le (z3.get 4 rfl).lt hn.new
        have q1u:=z3.takeE hC hI9 hs9 hn
        clear h9 hr hs9 hI9 hn
        have hth:=(q1u.get 3 rfl).there 13 49 (show 13 + 49 ≤ 131 by decide)
        have hput:=(show Has w9u gm 48 (msgL ⟨k,f,t,e,b,a,h,i,g,st0,diff0,ent0,0,op0,res0⟩ none 0 none 0 none 0).toArray from q1u.get 3 rfl).putCells (stL yu (some ⟨gyu,0,none⟩) yu.log.length) 13 (show 13 + 49 ≤ 131 by decide)
        rw [mput_st] at hput
        have q2u:Run I R F w F9u (w9u.setCells gm 13 (stL yu (some ⟨gyu,0,none⟩) yu.log.length)) s9u ([(w.heap.size,82,#[cv]),(w.heap.size + 1,48,msgC m a1 c1 a2 c2 a3 c3),(w.heap.size + 1 + 1,48,msgC msg0 none 0 none 0 none 0),(gm,48,msgC ⟨k,f,t,e,b,a,h,i,g,yu,diff0,ent0,0,op0,res0⟩ (some ⟨gyu,0,none⟩) yu.log.length none 0 none 0),(gs,100,shC ⟨x1,x2,x3,bal,pro,inc,grp,true,dif,ent,mostN,op,res⟩)] ++ [(gyu,41,(entF yu.log).toArray)]):=q1u.made hC hgm hgg (fun e he=>by rw [List.mem_singleton.1 he];exact hgy) (xap (stL yu (some ⟨gyu,0,none⟩) yu.log.length) 13) hput
        obtain ⟨v9u,hv9⟩:∃ W,w9u.setCells gm 13 (stL yu (some ⟨gyu,0,none⟩) yu.log.length) = W:=⟨_,rfl⟩
        rw [hv9] at q2u
        clear q1u hput
        go_wp2_with (first
         | (refine xak (by rfl) 44 _ _ rfl gm 13 (stC yu (some ⟨gyu,0,none⟩) yu.log.length) rfl rfl ?ht (xcg _ _ _) (st_one _ _ _) ?_;(case ht=>exact hth);rw [show w9u.setCells gm 13 (stC yu (some ⟨gyu,0,none⟩) yu.log.length).toList = v9u from hv9];clear hv9 hth))
        go_meet
        case rel =>
         exact ⟨yu,_,_,_,_,_,q2u,hM,(fun e he=>by rw [List.mem_singleton.1 he];exact hgy),.inr ⟨gyu,rfl,rfl,by simp⟩⟩
      case rest =>
       obtain ⟨u,b1,d1,lg,F4,t4,z4,hM,hlg,hl1⟩:=hcut
       clear hc4 z3
       obtain ⟨wz4,hwz⟩:∃ W,wc = W:=⟨_,rfl⟩
       subst hwz
       have hc5:wc.cell? ⟨gs,8,none⟩ = some (.bool dif):=((z4.get 4 rfl).cell 8).trans rfl
       go_upto_if 69 with (first
        | fail)
       go_cut [] from 7 (fun wc=>∃ (d:DiffV) (b2:Option Addr) (d2:Nat) (b3:Option Addr) (d3:Nat) (lg:List Var) (F':Nat → Prop) (s':List UInt8),Run I R F w F' wc s' ([(w.heap.size,82,#[cv]),(w.heap.size + 1,48,msgC m a1 c1 a2 c2 a3 c3),(w.heap.size + 1 + 1,48,msgC msg0 none 0 none 0 none 0),(gm,48,msgC ⟨k,f,t,e,b,a,h,i,g,u,d,ent0,0,op0,res0⟩ b1 d1 b2 d2 b3 d3),(gs,100,shC ⟨x1,x2,x3,bal,pro,inc,grp,st,dif,ent,mostN,op,res⟩)] ++ lg) ∧ Hid (msgM C m s = mR11 C m ⟨x1,x2,x3,bal,pro,inc,grp,st,dif,ent,mostN,op,res⟩ k f t e b a h i g u d s') ∧ (∀ e ∈ lg,gs < e.1) ∧ LogAt lg b1 d1 u.log ∧ LogAt lg b2 d2 d.log ∧ LogAt lg b3 d3 d.whole.log)
       case first =>
        cases dif with
        | false =>
         have hN:Hid _:=(hM.out).trans (xag (xgc rfl))
         go_wp2
         go_meet
         case rel =>
          exact ⟨diff0,none,0,none,0,lg,_,_,z4,hN,hlg,hl1,.inl ⟨rfl,rfl,rfl⟩,.inl ⟨rfl,rfl,rfl⟩⟩
        | true =>
         have hL:=z4.get 0 rfl
         have hG:=(z4.get 1 rfl).m_diff
         go_wp2_with (first
          | (refine xab (by rfl) 82 _ rfl w.heap.size rfl 82 #[cv] _ Tryz.underlying82 rfl (xav cv) ?hg ?_;(case hg=>exact hL))
          | (refine xae (by rfl) 46 _ rfl (w.heap.size + 1) 62 rfl (diffL m.diff a2 c2 a3 c3) _ ?hg Tryz.underlying46 rfl (xdw _ _ _ _ _) ?_;(case hg=>exact hG)))
         clear hL hG
         refine (wdiff_any hC _ _ _ m.diff a2 a3 c2 c3 z4.inv (hPk.out.dif rfl) (hs2.step z4.stp) (hs3.step z4.stp) (fun b9 q9=>hne b9 (hM.out.trans (xau (xcx rfl q9))))).mono ?_
         intro e9 w9d h9
         rcases h9.split with ⟨q,hr,rfl,G,hs⟩ | ⟨yd,s9d,F9d,gyd,kyd,hr,rfl,hn,hn2,hI9,hs9⟩
         ·unfold thrown
          have hE:Hid _:=hM.out.trans (xau (xcx rfl hr))
          have hs':Hid _:=z4.stp.trans hs
          clear h9 hM hr hs
          go_wp2
          exact ⟨rfl,xee hE.out rfl ⟨_,hs'.out⟩⟩
         replace hM:Hid _:=hM.out.trans (xag (xew rfl hr))
         have hgy:gs < gyd:=Nat.lt_of_lt_of_le (z4.get 4 rfl).lt hn.new
         have hky:gs < kyd:=Nat.lt_of_lt_of_le (z4.get 4 rfl).lt hn2.new
         have q1d:=(z4.takeE hC hI9 hs9 hn).also hn2.has hn2.clear (Nat.le_trans z4.stp.off.size hn2.new)
         have hlg9:∀ e ∈ lg ++ [(gyd,41,(entF yd.log).toArray),(kyd,41,(entF yd.whole.log).toArray)],gs < e.1:=fun e he=>by
          rcases List.mem_append.1 he with he | he
          ·exact hlg e he
          ·rcases List.mem_cons.1 he with rfl | he
           ·exact hgy
           ·rw [List.mem_singleton.1 he];exact hky
         have q1d:Run I R F w F9d w9d s9d ([(w.heap.size,82,#[cv]),(w.heap.size + 1,48,msgC m a1 c1 a2 c2 a3 c3),(w.heap.size + 1 + 1,48,msgC msg0 none 0 none 0 none 0),(gm,48,msgC ⟨k,f,t,e,b,a,h,i,g,u,diff0,ent0,0,op0,res0⟩ b1 d1 none 0 none 0),(gs,100,shC ⟨x1,x2,x3,bal,pro,inc,grp,st,true,ent,mostN,op,res⟩)] ++ (lg ++ [(gyd,41,(entF yd.log).toArray),(kyd,41,(entF yd.whole.log).toArray)])):=by simpa using q1d
         clear h9 hr hs9 hI9 hn hn2
         have hth:=(q1d.get 3 rfl).there 62 52 (show 62 + 52 ≤ 131 by decide)
         have hput:=(show Has w9d gm 48 (msgL ⟨k,f,t,e,b,a,h,i,g,u,diff0,ent0,0,op0,res0⟩ b1 d1 none 0 none 0).toArray from q1d.get 3 rfl).putCells (diffL yd (some ⟨gyd,0,none⟩) yd.log.length (some ⟨kyd,0,none⟩) yd.whole.log.length) 62 (show 62 + 52 ≤ 131 by decide)
         rw [mput_diff] at hput
         have q2d:Run I R F w F9d (w9d.setCells gm 62 (diffL yd (some ⟨gyd,0,none⟩) yd.log.length (some ⟨kyd,0,none⟩) yd.whole.log.length)) s9d ([(w.heap.size,82,#[cv]),(w.heap.size + 1,48,msgC m a1 c1 a2 c2 a3 c3),(w.heap.size + 1 + 1,48,msgC msg0 none 0 none 0 none 0),(gm,48,msgC ⟨k,f,t,e,b,a,h,i,g,u,yd,ent0,0,op0,res0⟩ b1 d1 (some ⟨gyd,0,none⟩) yd.log.length (some ⟨kyd,0,none⟩) yd.whole.log.length),(gs,100,shC ⟨x1,x2,x3,bal,pro,inc,grp,st,true,ent,mostN,op,res⟩)] ++ (lg ++ [(gyd,41,(entF yd.log).toArray),(kyd,41,(entF yd.whole.log).toArray)])):=q1d.made hC hgm hgg hlg9 (xap (diffL yd (some ⟨gyd,0,none⟩) yd.log.length (some ⟨kyd,0,none⟩) yd.whole.log.length) 62) hput
         obtain ⟨v9d,hv9⟩:∃ W,w9d.setCells gm 62 (diffL yd (some ⟨gyd,0,none⟩) yd.log.length (some ⟨kyd,0,none⟩) yd.whole.log.length) = W:=⟨_,rfl⟩
         rw [hv9] at q2d
         clear q1d hput
         go_wp2_with (first
          | (refine xak (by rfl) 46 _ _ rfl gm 62 (diffC yd (some ⟨gyd,0,none⟩) yd.log.length (some ⟨kyd,0,none⟩) yd.whole.log.length) rfl rfl ?ht (xdw _ _ _ _ _) (diff_one _ _ _ _ _) ?_;(case ht=>exact hth);rw [show w9d.setCells gm 62 (diffC yd (some ⟨gyd,0,none⟩) yd.log.length (some ⟨kyd,0,none⟩) yd.whole.log.length).toList = v9d from hv9];clear hv9 hth))
         go_meet
         case rel =>
          exact ⟨yd,_,_,_,_,_,_,_,q2d,hM,hlg9,hl1.more (fun e he=>by simp [he]),.inr ⟨gyd,rfl,rfl,by simp⟩,.inr ⟨kyd,rfl,rfl,by simp⟩⟩
       case rest =>
        obtain ⟨d,b2,d2,b3,d3,lg,F5,t5,z5,hM,hlg,hl1,hl2,hl3⟩:=hcut
        clear hc5 z4
        obtain ⟨wz5,hwz⟩:∃ W,wc = W:=⟨_,rfl⟩
        subst hwz
        have hc6:wc.cell? ⟨gs,9,none⟩ = some (.bool ent):=((z5.get 4 rfl).cell 9).trans rfl
        go_upto_if 76 with (first
         | fail)
        go_cut [] from 7 (fun wc=>∃ (x:EntV) (F':Nat → Prop) (s':List UInt8),Run I R F w F' wc s' ([(w.heap.size,82,#[cv]),(w.heap.size + 1,48,msgC m a1 c1 a2 c2 a3 c3),(w.heap.size + 1 + 1,48,msgC msg0 none 0 none 0 none 0),(gm,48,msgC ⟨k,f,t,e,b,a,h,i,g,u,d,x,0,op0,res0⟩ b1 d1 b2 d2 b3 d3),(gs,100,shC ⟨x1,x2,x3,bal,pro,inc,grp,st,dif,ent,mostN,op,res⟩)] ++ lg) ∧ Hid (msgM C m s = mR12 C m ⟨x1,x2,x3,bal,pro,inc,grp,st,dif,ent,mostN,op,res⟩ k f t e b a h i g u d x s'))
        case first =>
         cases ent with
         | false =>
          have hN:Hid _:=(hM.out).trans (xag (xgc rfl))
          go_wp2
          go_meet
          case rel =>
           exact ⟨ent0,_,_,z5,hN⟩
         | true =>
          have hL:=z5.get 0 rfl
          have hG:=(z5.get 1 rfl).m_ent
          go_wp2_with (first
           | (refine xab (by rfl) 82 _ rfl w.heap.size rfl 82 #[cv] _ Tryz.underlying82 rfl (xav cv) ?hg ?_;(case hg=>exact hL))
           | (refine xae (by rfl) 41 _ rfl (w.heap.size + 1) 114 rfl (entL m.ent) _ ?hg Tryz.underlying41 rfl (xax _) ?_;(case hg=>exact hG)))
          clear hL hG
          refine (wentry_any hC _ _ _ m.ent z5.inv (hPk.out.ent rfl) (fun b9 q9=>hne b9 (hM.out.trans (xau (xcx rfl q9))))).mono ?_
          intro e9 w9x h9
          rcases h9.split with ⟨q,hr,rfl,G,hs⟩ | ⟨yx,s9x,F9x,hr,rfl,hI9,hs9⟩
          ·unfold thrown
           have hE:Hid _:=hM.out.trans (xau (xcx rfl hr))
           have hs':Hid _:=z5.stp.trans hs
           clear h9 hM hr hs
           go_wp2
           exact ⟨rfl,xee hE.out rfl ⟨_,hs'.out⟩⟩
          replace hM:Hid _:=hM.out.trans (xag (xew rfl hr))
          have q1x:=z5.call hC hI9 hs9
          clear h9 hr hs9 hI9
          have hth:=(q1x.get 3 rfl).there 114 8 (show 114 + 8 ≤ 131 by decide)
          have hput:=(show Has w9x gm 48 (msgL ⟨k,f,t,e,b,a,h,i,g,u,d,ent0,0,op0,res0⟩ b1 d1 b2 d2 b3 d3).toArray from q1x.get 3 rfl).putCells (entL yx) 114 (show 114 + 8 ≤ 131 by decide)
          rw [mput_ent] at hput
          have q2x:Run I R F w F9x (w9x.setCells gm 114 (entL yx)) s9x ([(w.heap.size,82,#[cv]),(w.heap.size + 1,48,msgC m a1 c1 a2 c2 a3 c3),(w.heap.size + 1 + 1,48,msgC msg0 none 0 none 0 none 0),(gm,48,msgC ⟨k,f,t,e,b,a,h,i,g,u,d,yx,0,op0,res0⟩ b1 d1 b2 d2 b3 d3),(gs,100,shC ⟨x1,x2,x3,bal,pro,inc,grp,st,dif,true,mostN,op,res⟩)] ++ lg):=q1x.made hC hgm hgg hlg (xap (entL yx) 114) hput
          obtain ⟨v9x,hv9⟩:∃ W,w9x.setCells gm 114 (entL yx) = W:=⟨_,rfl⟩
          rw [hv9] at q2x
          clear q1x hput
          go_wp2_with (first
           | (refine xak (by rfl) 41 _ _ rfl gm 114 (entC yx) rfl rfl ?ht (xax _) (xet _) ?_;(case ht=>exact hth);rw [show w9x.setCells gm 114 (entC yx).toList = v9x from hv9];clear hv9 hth))
          go_meet
          case rel =>
           exact ⟨yx,_,_,q2x,hM⟩
        case rest =>
         obtain ⟨x,F6,t6,z6,hM⟩:=hcut
         clear hc6 z5
         obtain ⟨wz6,hwz⟩:∃ W,wc = W:=⟨_,rfl⟩
         subst hwz
         have hc7:wc.cell? ⟨gs,10,none⟩ = some (.int .u32 (mostN:Int)):=((z6.get 4 rfl).cell 10).trans rfl
         go_upto_if 84 with (first
          | fail)
         go_cut [] from 7 (fun wc=>∃ (n:Nat) (F':Nat → Prop) (s':List UInt8),Run I R F w F' wc s' ([(w.heap.size,82,#[cv]),(w.heap.size + 1,48,msgC m a1 c1 a2 c2 a3 c3),(w.heap.size + 1 + 1,48,msgC msg0 none 0 none 0 none 0),(gm,48,msgC ⟨k,f,t,e,b,a,h,i,g,u,d,x,n,op0,res0⟩ b1 d1 b2 d2 b3 d3),(gs,100,shC ⟨x1,x2,x3,bal,pro,inc,grp,st,dif,ent,mostN,op,res⟩)] ++ lg) ∧ Hid (msgM C m s = mR13 C m ⟨x1,x2,x3,bal,pro,inc,grp,st,dif,ent,mostN,op,res⟩ k f t e b a h i g u d x n s'))
         case first =>
          by_cases hb:mostN = 0
          ·subst hb
           have hN:Hid _:=(hM.out).trans (xag (xgc (by simp)))
           go_wp2
           go_meet
           case rel =>
            exact ⟨0,_,_,z6,hN⟩
          ·have hbI:(0:Int) < (mostN:Int):=by omega
           have hL:=z6.get 0 rfl
           have hG:=(z6.get 1 rfl).mc_n
           go_wp2_with (first
            | (refine xab (by rfl) 82 _ rfl w.heap.size rfl 82 #[cv] _ Tryz.underlying82 rfl (xav cv) ?hg ?_;(case hg=>exact hL)))
           clear hL hG
           refine (hC.four _ _ _ m.n z6.inv hm.n (fun b9 q9=>hne b9 (hM.out.trans (xau (xcx (by simp;omega) q9))))).mono ?_
           intro e9 w9n h9
           rcases h9.split with ⟨q,hr,rfl,G,hs⟩ | ⟨yn,s9n,F9n,hr,rfl,hI9,hs9⟩
           ·unfold thrown
            have hE:Hid _:=hM.out.trans (xau (xcx (by simp;omega) hr))
            have hs':Hid _:=z6.stp.trans hs
            clear h9 hM hr hs
            go_wp2
            exact ⟨rfl,xee hE.out rfl ⟨_,hs'.out⟩⟩
           replace hM:Hid _:=hM.out.trans (xag (xew (by simp;omega) hr))
           have q1n:=z6.call hC hI9 hs9
           clear h9 hr hs9 hI9
           have hc:w9n.cell? ⟨gm,122,none⟩ = some (.int .u32 0):=((q1n.get 3 rfl).cell 122).trans rfl
           have hz:w9n.frozen? ⟨gm,122,none⟩ = false:=(q1n.get 3 rfl).free 122
           have hput:=(q1n.get 3 rfl).set 122 (.int .u32 (yn:Int))
           rw [mset_n] at hput
           have q2n:Run I R F w F9n (w9n.setCell ⟨gm,122,none⟩ (.int .u32 (yn:Int))) s9n ([(w.heap.size,82,#[cv]),(w.heap.size + 1,48,msgC m a1 c1 a2 c2 a3 c3),(w.heap.size + 1 + 1,48,msgC msg0 none 0 none 0 none 0),(gm,48,msgC ⟨k,f,t,e,b,a,h,i,g,u,d,x,yn,op0,res0⟩ b1 d1 b2 d2 b3 d3),(gs,100,shC ⟨x1,x2,x3,bal,pro,inc,grp,st,dif,ent,mostN,op,res⟩)] ++ lg):=q1n.made hC hgm hgg hlg (xaq w9n 122 (.int .u32 (yn:Int))) hput
           obtain ⟨v9n,hv9⟩:∃ W,w9n.setCell ⟨gm,122,none⟩ (.int .u32 (yn:Int)) = W:=⟨_,rfl⟩
           rw [hv9] at q2n
           clear q1n hput
           go_wp2
           clear hc hz hv9
           go_meet
           case rel =>
            exact ⟨yn,_,_,q2n,hM⟩
         case rest =>
          obtain ⟨n,F7,t7,z7,hM⟩:=hcut
          clear hc7 z6
          obtain ⟨wz7,hwz⟩:∃ W,wc = W:=⟨_,rfl⟩
          subst hwz
          have hc8:wc.cell? ⟨gs,11,none⟩ = some (.int .u8 (op:Int)):=((z7.get 4 rfl).cell 11).trans rfl
          go_upto_if 92 with (first
           | fail)
          go_cut [] from 7 (fun wc=>∃ (o:OpV) (F':Nat → Prop) (s':List UInt8),Run I R F w F' wc s' ([(w.heap.size,82,#[cv]),(w.heap.size + 1,48,msgC m a1 c1 a2 c2 a3 c3),(w.heap.size + 1 + 1,48,msgC msg0 none 0 none 0 none 0),(gm,48,msgC ⟨k,f,t,e,b,a,h,i,g,u,d,x,n,o,res0⟩ b1 d1 b2 d2 b3 d3),(gs,100,shC ⟨x1,x2,x3,bal,pro,inc,grp,st,dif,ent,mostN,op,res⟩)] ++ lg) ∧ Hid (msgM C m s = mR14 C m ⟨x1,x2,x3,bal,pro,inc,grp,st,dif,ent,mostN,op,res⟩ k f t e b a h i g u d x n o s'))
          case first =>
           by_cases hb:op = 0
           ·subst hb
            have hN:Hid _:=(hM.out).trans (xag (xgc (by simp)))
            go_wp2
            go_meet
            case rel =>
             exact ⟨op0,_,_,z7,hN⟩
           ·have hbI:¬ (op:Int) = 0:=by omega
            have hL:=z7.get 0 rfl
            have hG:=(z7.get 1 rfl).m_op
            go_wp2_with (first
             | (refine xab (by rfl) 82 _ rfl w.heap.size rfl 82 #[cv] _ Tryz.underlying82 rfl (xav cv) ?hg ?_;(case hg=>exact hL))
             | (refine xae (by rfl) 39 _ rfl (w.heap.size + 1) 123 rfl (opL m.op) _ ?hg Tryz.underlying39 rfl (xca _) ?_;(case hg=>exact hG)))
            clear hL hG
            refine (wop_any hC _ _ _ m.op z7.inv (hPk.out.op hb) (fun b9 q9=>hne b9 (hM.out.trans (xau (xcx (by simpa using hb) q9))))).mono ?_
            intro e9 w9o h9
            rcases h9.split with ⟨q,hr,rfl,G,hs⟩ | ⟨yo,s9o,F9o,hr,rfl,hI9,hs9⟩
            ·unfold thrown
             have hE:Hid _:=hM.out.trans (xau (xcx (by simpa using hb) hr))
             have hs':Hid _:=z7.stp.trans hs
             clear h9 hM hr hs
             go_wp2
             exact ⟨rfl,xee hE.out rfl ⟨_,hs'.out⟩⟩
            replace hM:Hid _:=hM.out.trans (xag (xew (by simpa using hb) hr))
            have q1o:=z7.call hC hI9 hs9
            clear h9 hr hs9 hI9
            have hth:=(q1o.get 3 rfl).there 123 6 (show 123 + 6 ≤ 131 by decide)
            have hput:=(show Has w9o gm 48 (msgL ⟨k,f,t,e,b,a,h,i,g,u,d,x,n,op0,res0⟩ b1 d1 b2 d2 b3 d3).toArray from q1o.get 3 rfl).putCells (opL yo) 123 (show 123 + 6 ≤ 131 by decide)
            rw [xhg] at hput
            have q2o:Run I R F w F9o (w9o.setCells gm 123 (opL yo)) s9o ([(w.heap.size,82,#[cv]),(w.heap.size + 1,48,msgC m a1 c1 a2 c2 a3 c3),(w.heap.size + 1 + 1,48,msgC msg0 none 0 none 0 none 0),(gm,48,msgC ⟨k,f,t,e,b,a,h,i,g,u,d,x,n,yo,res0⟩ b1 d1 b2 d2 b3 d3),(gs,100,shC ⟨x1,x2,x3,bal,pro,inc,grp,st,dif,ent,mostN,op,res⟩)] ++ lg):=q1o.made hC hgm hgg hlg (xap (opL yo) 123) hput
            obtain ⟨v9o,hv9⟩:∃ W,w9o.setCells gm 123 (opL yo) = W:=⟨_,rfl⟩
            rw [hv9] at q2o
            clear q1o hput
            go_wp2_with (first
             | (refine xak (by rfl) 39 _ _ rfl gm 123 (opC yo) rfl rfl ?ht (xca _) (op_one _) ?_;(case ht=>exact hth);rw [show w9o.setCells gm 123 (opC yo).toList = v9o from hv9];clear hv9 hth))
            go_meet
            case rel =>
             exact ⟨yo,_,_,q2o,hM⟩
          case rest =>
           obtain ⟨o,F8,t8,z8,hM⟩:=hcut
           clear hc8 z7
           obtain ⟨wz8,hwz⟩:∃ W,wc = W:=⟨_,rfl⟩
           subst hwz
           have hc9:wc.cell? ⟨gs,12,none⟩ = some (.bool res):=((z8.get 4 rfl).cell 12).trans rfl
           go_upto_if 99 with (first
            | fail)
           go_cut [] from 7 (fun wc=>∃ (r:ResV) (F':Nat → Prop) (s':List UInt8),Run I R F w F' wc s' ([(w.heap.size,82,#[cv]),(w.heap.size + 1,48,msgC m a1 c1 a2 c2 a3 c3),(w.heap.size + 1 + 1,48,msgC msg0 none 0 none 0 none 0),(gm,48,msgC ⟨k,f,t,e,b,a,h,i,g,u,d,x,n,o,r⟩ b1 d1 b2 d2 b3 d3),(gs,100,shC ⟨x1,x2,x3,bal,pro,inc,grp,st,dif,ent,mostN,op,res⟩)] ++ lg) ∧ Hid (msgM C m s = (Wk.ret ⟨k,f,t,e,b,a,h,i,g,u,d,x,n,o,r⟩:Wk MsgV) s'))
           case first =>
            cases res with
            | false =>
             have hN:Hid _:=(hM.out).trans (xag (xgc rfl))
             go_wp2
             go_meet
             case rel =>
              exact ⟨res0,_,_,z8,hN⟩
            | true =>
             have hL:=z8.get 0 rfl
             have hG:=(z8.get 1 rfl).m_r
             go_wp2_with (first
              | (refine xab (by rfl) 82 _ rfl w.heap.size rfl 82 #[cv] _ Tryz.underlying82 rfl (xav cv) ?hg ?_;(case hg=>exact hL))
              | (refine xae (by rfl) 32 _ rfl (w.heap.size + 1) 129 rfl (resL m.r) _ ?hg Tryz.underlying32 rfl (xeb _) ?_;(case hg=>exact hG)))
             clear hL hG
             refine (hC.res _ _ _ m.r z8.inv (hPk.out.res rfl).1 (hPk.out.res rfl).2 (fun b9 q9=>hne b9 (hM.out.trans (xau (xcx rfl q9))))).mono ?_
             intro e9 w9r h9
             rcases h9.split with ⟨q,hr,rfl,G,hs⟩ | ⟨yr,s9r,F9r,hr,rfl,hI9,hs9⟩
             ·unfold thrown
              have hE:Hid _:=hM.out.trans (xau (xcx rfl hr))
              have hs':Hid _:=z8.stp.trans hs
              clear h9 hM hr hs
              go_wp2
              exact ⟨rfl,xee hE.out rfl ⟨_,hs'.out⟩⟩
             replace hM:Hid _:=hM.out.trans (xag (xew rfl hr))
             have q1r:=z8.call hC hI9 hs9
             clear h9 hr hs9 hI9
             have hth:=(q1r.get 3 rfl).there 129 2 (show 129 + 2 ≤ 131 by decide)
             have hput:=(show Has w9r gm 48 (msgL ⟨k,f,t,e,b,a,h,i,g,u,d,x,n,o,res0⟩ b1 d1 b2 d2 b3 d3).toArray from q1r.get 3 rfl).putCells (resL yr) 129 (show 129 + 2 ≤ 131 by decide)
             rw [mput_r] at hput
             have q2r:Run I R F w F9r (w9r.setCells gm 129 (resL yr)) s9r ([(w.heap.size,82,#[cv]),(w.heap.size + 1,48,msgC m a1 c1 a2 c2 a3 c3),(w.heap.size + 1 + 1,48,msgC msg0 none 0 none 0 none 0),(gm,48,msgC ⟨k,f,t,e,b,a,h,i,g,u,d,x,n,o,yr⟩ b1 d1 b2 d2 b3 d3),(gs,100,shC ⟨x1,x2,x3,bal,pro,inc,grp,st,dif,ent,mostN,op,true⟩)] ++ lg):=q1r.made hC hgm hgg hlg (xap (resL yr) 129) hput
             obtain ⟨v9r,hv9⟩:∃ W,w9r.setCells gm 129 (resL yr) = W:=⟨_,rfl⟩
             rw [hv9] at q2r
             clear q1r hput
             go_wp2_with (first
              | (refine xak (by rfl) 32 _ _ rfl gm 129 (resC yr) rfl rfl ?ht (xeb _) (res_one _) ?_;(case ht=>exact hth);rw [show w9r.setCells gm 129 (resC yr).toList = v9r from hv9];clear hv9 hth))
             go_meet
             case rel =>
              exact ⟨yr,_,_,q2r,hM⟩
           case rest =>
            obtain ⟨r,F9,t9,z9,hM⟩:=hcut
            clear hc9 z8
            obtain ⟨wz9,hwz⟩:∃ W,wc = W:=⟨_,rfl⟩
            subst hwz
            have hX:=z9.get 3 rfl
            have hR:=z9.get 2 rfl
            have r99:=z9.third' hC (fun e he=>by
             rcases List.mem_cons.1 he with rfl | he
             ·exact hgm
             ·rcases List.mem_cons.1 he with rfl | he
              ·show w.heap.size + 1 + 1 < gs;omega
              ·have:=hlg e he;omega) (msgC ⟨k,f,t,e,b,a,h,i,g,u,d,x,n,o,r⟩ b1 d1 b2 d2 b3 d3)
            go_wp2_with (first
             | (refine xab (by rfl) 48 _ rfl gm rfl 48 (msgC ⟨k,f,t,e,b,a,h,i,g,u,d,x,n,o,r⟩ b1 d1 b2 d2 b3 d3) _ Tryz.underlying48 rfl (xah _ _ _ _ _ _ _) ?hg ?_;(case hg=>exact hX))
             | (refine xao (by rfl) 48 _ _ rfl (w.heap.size + 1 + 1) rfl (msgC ⟨k,f,t,e,b,a,h,i,g,u,d,x,n,o,r⟩ b1 d1 b2 d2 b3 d3) rfl 48 (msgC msg0 none 0 none 0 none 0) (xah _ _ _ _ _ _ _) (xbe _ _ _ _ _ _ _ _ _ _ _ _ _ _) (xbn _ _ _ _ _ _ _) ?hg ?_;(case hg=>exact hR)))
            refine xba rfl (w.heap.size + 1 + 1) rfl 48 (msgC ⟨k,f,t,e,b,a,h,i,g,u,d,x,n,o,r⟩ b1 d1 b2 d2 b3 d3) _ Tryz.underlying48 rfl (xah _ _ _ _ _ _ _) (r99.get 2 rfl) rfl ?_
            have hsub:∀ vv ∈ lg,vv ∈ [(w.heap.size,82,#[cv]),(w.heap.size + 1,48,msgC m a1 c1 a2 c2 a3 c3),(w.heap.size + 1 + 1,48,msgC ⟨k,f,t,e,b,a,h,i,g,u,d,x,n,o,r⟩ b1 d1 b2 d2 b3 d3),(gm,48,msgC ⟨k,f,t,e,b,a,h,i,g,u,d,x,n,o,r⟩ b1 d1 b2 d2 b3 d3),(gs,100,shC ⟨x1,x2,x3,bal,pro,inc,grp,st,dif,ent,mostN,op,res⟩)] ++ lg:=fun vv he=>by simp [he]
            show EndsM I R F w (msgM C m s) _ _
            rw [hM.out]
            exact ⟨_,b1,d1,b2,d2,b3,d3,rfl,r99.logIn hsub hl1,r99.logIn hsub hl2,r99.logIn hsub hl3,r99.inv,r99.stp⟩
end Go.Proofs.YtecilienolabfaaGreatDoor
