/- Messages and shapes in variables; the contract of wire.shapeOf. Written by tools/mgen.py. -/
import Derived.Test.YtecilienolabfaaGreatDoorPackWalk
namespace Go.Proofs.YtecilienolabfaaGreatDoor
set_option linter.unusedSimpArgs false
set_option linter.unusedVariables false
set_option maxRecDepth 100000
open Go.RowKit
def msgL (m:MsgV) (a1:Option Addr) (c1:Nat) (a2:Option Addr) (c2:Nat) (a3:Option Addr) (c3:Nat):List Value :=
 .int .u8 (m.kind:Int) :: .int .u8 (m.src:Int) :: .int .u8 (m.dst:Int) :: .int .u32 (m.epoch:Int) :: .int .u32 (m.b.n:Int) :: .int .u8 (m.b.who:Int) :: .int .u32 (m.acc.n:Int) :: .int .u8 (m.acc.who:Int) :: .bool m.has ::
 .int .u8 (m.inc.kind:Int) :: .int .u8 (m.inc.osd:Int) :: .int .i64 m.inc.n :: .int .u8 (m.group:Int) :: (stL m.st a1 c1 ++ (diffL m.diff a2 c2 a3 c3 ++ (entL m.ent ++ (.int .u32 (m.n:Int) :: (opL m.op ++ resL m.r)))))
def msgC (m:MsgV) (a1:Option Addr) (c1:Nat) (a2:Option Addr) (c2:Nat) (a3:Option Addr) (c3:Nat):Array Value:=(msgL m a1 c1 a2 c2 a3 c3).toArray
def shL (s:ShV):List Value:=[.int .u8 (s.fr:Int),.int .u8 (s.dst:Int),.int .u32 (s.least:Int),.int .u8 (s.bal:Int),.bool s.pro,.bool s.inc,.bool s.grp,.bool s.st,.bool s.dif,.bool s.ent,.int .u32 (s.mostN:Int),.int .u8 (s.op:Int),.bool s.res]
def shC (s:ShV):Array Value:=(shL s).toArray
theorem xby (s:ShV):(Tryz.prog.info? 100).map (·.size) = some (shC s).size:=by show _ = some 13;kernel_rfl
theorem xdn:(Tryz.prog.info? 100).map (·.zero) = some (some (.agg (shC sh0))):=by kernel_rfl
theorem sh_one (s:ShV):(shC s).all (·.oneCell') = true:=by
 unfold shC shL
 simp [Value.oneCell']
section
variable (m:MsgV) (a1 a2 a3:Option Addr) (c1 c2 c3:Nat)
theorem xah:(Tryz.prog.info? 48).map (·.size) = some (msgC m a1 c1 a2 c2 a3 c3).size:=by show _ = some 131;kernel_rfl
theorem xbe (m n:MsgV) (a1 a2 a3 b1 b2 b3:Option Addr) (c1 c2 c3 d1 d2 d3:Nat):(msgC m a1 c1 a2 c2 a3 c3).size = (msgC n b1 d1 b2 d2 b3 d3).size:=rfl
theorem xbg:(Tryz.prog.info? 48).map (·.zero) = some (some (.agg (msgC msg0 none 0 none 0 none 0))):=by kernel_rfl
theorem xbn:(msgC m a1 c1 a2 c2 a3 c3).all (·.oneCell') = true:=by
 refine all_oneCell_toArray fun u hu=>?_
 unfold msgL at hu
 simp only [List.mem_cons,List.mem_append] at hu
 rcases hu with rfl | rfl | rfl | rfl | rfl | rfl | rfl | rfl | rfl | rfl | rfl | rfl | rfl | h | h | h | rfl | h | h
 all_goals first | rfl | skip
 ·exact stL_one _ _ _ u h
 ·have:=diff_one m.diff a2 a3 c2 c3
  unfold diffC at this
  simp only [List.all_toArray,List.all_eq_true] at this
  exact this u h
 ·exact entL_one _ u h
 ·have:=op_one m.op
  unfold opC at this
  simp only [List.all_toArray,List.all_eq_true] at this
  exact this u h
 ·have:=res_one m.r
  unfold resC at this
  simp only [List.all_toArray,List.all_eq_true] at this
  exact this u h
end
theorem msg_built (k f t e:Nat):Tryz.prog.built 48 [(0,.int .u8 (k:Int)),(1,.int .u8 (f:Int)),(2,.int .u8 (t:Int)),(3,.int .u32 (e:Int))] = some (msgC ⟨k,f,t,e,bal0,bal0,false,inc0,0,st0,diff0,ent0,0,op0,res0⟩ none 0 none 0 none 0):=by kernel_rfl
theorem xfi:Tryz.prog.built 48 [] = some (msgC msg0 none 0 none 0 none 0):=by kernel_rfl
section
variable {w:World} {g:Nat} {t:TypeId} {m:MsgV} {a1 a2 a3:Option Addr} {c1 c2 c3:Nat}
theorem xez (A X B:List Value) (k:Nat) (hk:k = A.length) (h:Has w g t (A ++ (X ++ B)).toArray):w.rangeAt g k X:=h.range k X fun j v hj=>by
 have hl:j < X.length:=(List.getElem?_eq_some_iff.1 hj).1
 rw [List.getElem?_toArray,hk,List.getElem?_append_right (Nat.le_add_right _ _),Nat.add_sub_cancel_left,List.getElem?_append_left hl]
 exact hj
theorem Has.m_b (h:Has w g t (msgC m a1 c1 a2 c2 a3 c3)):w.rangeAt g 4 ((balC m.b).toList):=xez ((msgL m a1 c1 a2 c2 a3 c3).take 4) ((balC m.b).toList) ((msgL m a1 c1 a2 c2 a3 c3).drop 6) 4 rfl h
theorem Has.m_acc (h:Has w g t (msgC m a1 c1 a2 c2 a3 c3)):w.rangeAt g 6 ((balC m.acc).toList):=xez ((msgL m a1 c1 a2 c2 a3 c3).take 6) ((balC m.acc).toList) ((msgL m a1 c1 a2 c2 a3 c3).drop 8) 6 rfl h
theorem Has.m_inc (h:Has w g t (msgC m a1 c1 a2 c2 a3 c3)):w.rangeAt g 9 ((incC m.inc).toList):=xez ((msgL m a1 c1 a2 c2 a3 c3).take 9) ((incC m.inc).toList) ((msgL m a1 c1 a2 c2 a3 c3).drop 12) 9 rfl h
theorem Has.m_st (h:Has w g t (msgC m a1 c1 a2 c2 a3 c3)):w.rangeAt g 13 (stL m.st a1 c1):=xez ((msgL m a1 c1 a2 c2 a3 c3).take 13) (stL m.st a1 c1) ((msgL m a1 c1 a2 c2 a3 c3).drop 62) 13 rfl h
theorem Has.m_diff (h:Has w g t (msgC m a1 c1 a2 c2 a3 c3)):w.rangeAt g 62 (diffL m.diff a2 c2 a3 c3):=xez ((msgL m a1 c1 a2 c2 a3 c3).take 62) (diffL m.diff a2 c2 a3 c3) ((msgL m a1 c1 a2 c2 a3 c3).drop 114) 62 rfl h
theorem Has.m_ent (h:Has w g t (msgC m a1 c1 a2 c2 a3 c3)):w.rangeAt g 114 (entL m.ent):=xez ((msgL m a1 c1 a2 c2 a3 c3).take 114) (entL m.ent) ((msgL m a1 c1 a2 c2 a3 c3).drop 122) 114 rfl h
theorem Has.m_op (h:Has w g t (msgC m a1 c1 a2 c2 a3 c3)):w.rangeAt g 123 (opL m.op):=xez ((msgL m a1 c1 a2 c2 a3 c3).take 123) (opL m.op) ((msgL m a1 c1 a2 c2 a3 c3).drop 129) 123 rfl h
theorem Has.m_r (h:Has w g t (msgC m a1 c1 a2 c2 a3 c3)):w.rangeAt g 129 (resL m.r):=xez ((msgL m a1 c1 a2 c2 a3 c3).take 129) (resL m.r) ((msgL m a1 c1 a2 c2 a3 c3).drop 131) 129 rfl h
theorem Has.mc_kind (h:Has w g t (msgC m a1 c1 a2 c2 a3 c3)):w.cell? ⟨g,0,none⟩ = some (.int .u8 (m.kind:Int)):=(h.cell 0).trans rfl
theorem Has.mc_src (h:Has w g t (msgC m a1 c1 a2 c2 a3 c3)):w.cell? ⟨g,1,none⟩ = some (.int .u8 (m.src:Int)):=(h.cell 1).trans rfl
theorem Has.mc_dst (h:Has w g t (msgC m a1 c1 a2 c2 a3 c3)):w.cell? ⟨g,2,none⟩ = some (.int .u8 (m.dst:Int)):=(h.cell 2).trans rfl
theorem Has.mc_epoch (h:Has w g t (msgC m a1 c1 a2 c2 a3 c3)):w.cell? ⟨g,3,none⟩ = some (.int .u32 (m.epoch:Int)):=(h.cell 3).trans rfl
theorem Has.mc_bwho (h:Has w g t (msgC m a1 c1 a2 c2 a3 c3)):w.cell? ⟨g,5,none⟩ = some (.int .u8 (m.b.who:Int)):=(h.cell 5).trans rfl
theorem Has.mc_has (h:Has w g t (msgC m a1 c1 a2 c2 a3 c3)):w.cell? ⟨g,8,none⟩ = some (.bool m.has):=(h.cell 8).trans rfl
theorem Has.mc_group (h:Has w g t (msgC m a1 c1 a2 c2 a3 c3)):w.cell? ⟨g,12,none⟩ = some (.int .u8 (m.group:Int)):=(h.cell 12).trans rfl
theorem Has.mc_n (h:Has w g t (msgC m a1 c1 a2 c2 a3 c3)):w.cell? ⟨g,122,none⟩ = some (.int .u32 (m.n:Int)):=(h.cell 122).trans rfl
theorem Has.mc_opclient (h:Has w g t (msgC m a1 c1 a2 c2 a3 c3)):w.cell? ⟨g,123,none⟩ = some (.int .u8 (m.op.client:Int)):=(h.cell 123).trans rfl
theorem Has.mc_opkind (h:Has w g t (msgC m a1 c1 a2 c2 a3 c3)):w.cell? ⟨g,125,none⟩ = some (.int .u8 (m.op.kind:Int)):=(h.cell 125).trans rfl
theorem Has.mc_rcode (h:Has w g t (msgC m a1 c1 a2 c2 a3 c3)):w.cell? ⟨g,129,none⟩ = some (.int .u8 (m.r.code:Int)):=(h.cell 129).trans rfl
theorem Has.mc_rdata (h:Has w g t (msgC m a1 c1 a2 c2 a3 c3)):w.cell? ⟨g,130,none⟩ = some (strV m.r.data):=(h.cell 130).trans rfl
theorem Has.mc_dlog (h:Has w g t (msgC m a1 c1 a2 c2 a3 c3)):w.cell? ⟨g,64,none⟩ = some (.slice a2 m.diff.log.length c2):=(h.cell 64).trans rfl
end
section
variable (k f t e:Nat) (b a:BalV) (h:Bool) (i:IncV) (g:Nat) (s:StV) (d:DiffV) (x:EntV) (n:Nat) (o:OpV) (r:ResV) (a1 a2 a3:Option Addr) (c1 c2 c3:Nat)
theorem mput_b (y:BalV):(putAt (msgL ⟨k,f,t,e,b,a,h,i,g,s,d,x,n,o,r⟩ a1 c1 a2 c2 a3 c3) 4 ((balC y).toList)).toArray = msgC ⟨k,f,t,e,y,a,h,i,g,s,d,x,n,o,r⟩ a1 c1 a2 c2 a3 c3:=by kernel_rfl
theorem mput_acc (y:BalV):(putAt (msgL ⟨k,f,t,e,b,a,h,i,g,s,d,x,n,o,r⟩ a1 c1 a2 c2 a3 c3) 6 ((balC y).toList)).toArray = msgC ⟨k,f,t,e,b,y,h,i,g,s,d,x,n,o,r⟩ a1 c1 a2 c2 a3 c3:=by kernel_rfl
theorem xhh (y:IncV):(putAt (msgL ⟨k,f,t,e,b,a,h,i,g,s,d,x,n,o,r⟩ a1 c1 a2 c2 a3 c3) 9 ((incC y).toList)).toArray = msgC ⟨k,f,t,e,b,a,h,y,g,s,d,x,n,o,r⟩ a1 c1 a2 c2 a3 c3:=by kernel_rfl
theorem mput_st (y:StV) (ao:Option Addr) (co:Nat):(putAt (msgL ⟨k,f,t,e,b,a,h,i,g,s,d,x,n,o,r⟩ a1 c1 a2 c2 a3 c3) 13 (stL y ao co)).toArray = msgC ⟨k,f,t,e,b,a,h,i,g,y,d,x,n,o,r⟩ ao co a2 c2 a3 c3:=by kernel_rfl
theorem mput_diff (y:DiffV) (ao bo:Option Addr) (co eo:Nat):(putAt (msgL ⟨k,f,t,e,b,a,h,i,g,s,d,x,n,o,r⟩ a1 c1 a2 c2 a3 c3) 62 (diffL y ao co bo eo)).toArray = msgC ⟨k,f,t,e,b,a,h,i,g,s,y,x,n,o,r⟩ a1 c1 ao co bo eo:=by kernel_rfl
theorem mput_ent (y:EntV):(putAt (msgL ⟨k,f,t,e,b,a,h,i,g,s,d,x,n,o,r⟩ a1 c1 a2 c2 a3 c3) 114 (entL y)).toArray = msgC ⟨k,f,t,e,b,a,h,i,g,s,d,y,n,o,r⟩ a1 c1 a2 c2 a3 c3:=by kernel_rfl
theorem xhg (y:OpV):(putAt (msgL ⟨k,f,t,e,b,a,h,i,g,s,d,x,n,o,r⟩ a1 c1 a2 c2 a3 c3) 123 (opL y)).toArray = msgC ⟨k,f,t,e,b,a,h,i,g,s,d,x,n,y,r⟩ a1 c1 a2 c2 a3 c3:=by kernel_rfl
theorem mput_r (y:ResV):(putAt (msgL ⟨k,f,t,e,b,a,h,i,g,s,d,x,n,o,r⟩ a1 c1 a2 c2 a3 c3) 129 (resL y)).toArray = msgC ⟨k,f,t,e,b,a,h,i,g,s,d,x,n,o,y⟩ a1 c1 a2 c2 a3 c3:=by kernel_rfl
theorem mset_has (y:Bool):(msgC ⟨k,f,t,e,b,a,h,i,g,s,d,x,n,o,r⟩ a1 c1 a2 c2 a3 c3).setIfInBounds 8 (.bool y) = msgC ⟨k,f,t,e,b,a,y,i,g,s,d,x,n,o,r⟩ a1 c1 a2 c2 a3 c3:=by kernel_rfl
theorem xem (y:Nat):(msgC ⟨k,f,t,e,b,a,h,i,g,s,d,x,n,o,r⟩ a1 c1 a2 c2 a3 c3).setIfInBounds 12 (.int .u8 (y:Int)) = msgC ⟨k,f,t,e,b,a,h,i,y,s,d,x,n,o,r⟩ a1 c1 a2 c2 a3 c3:=by kernel_rfl
theorem mset_n (y:Nat):(msgC ⟨k,f,t,e,b,a,h,i,g,s,d,x,n,o,r⟩ a1 c1 a2 c2 a3 c3).setIfInBounds 122 (.int .u32 (y:Int)) = msgC ⟨k,f,t,e,b,a,h,i,g,s,d,x,y,o,r⟩ a1 c1 a2 c2 a3 c3:=by kernel_rfl
end
theorem shape_other {k:Nat} (h:¬ (1 ≤ k ∧ k ≤ 18)):shapeM k = sh0:=by
 unfold shapeM
 split <;> first | omega | rfl
set_option maxHeartbeats 8000000 in
theorem shapeOf_any (k:Nat) (w:World) (hk:k < 256):Calls Tryz.prog 40 #[.int .u8 (k:Nat)] w fun e w'=>e = .returned (.agg (shC (shapeM k))) ∧ Below w.heap.size w w':=by
 obtain ⟨w1,hw1,hX,hb⟩:=xbr w 100 (shC sh0)
 by_cases e1:k = 1
 ·subst e1
  go_enter Tryz.func40,Tryz.ntmps40
  go_wp2_with (first
   | (refine xac (by rfl) 100 rfl (shC sh0) xdn ?_;rw [hw1];clear hw1)
   | (refine xar (by rfl) 100 _ rfl (shC (shapeM 1)) (by kernel_rfl) ?_)
   | (refine xao (by rfl) 100 _ _ rfl w.heap.size rfl (shC (shapeM 1)) rfl 100 (shC sh0) (xby _) rfl (sh_one _) ?hg ?_;(case hg=>exact hX)))
  exact xba rfl w.heap.size rfl 100 (shC (shapeM 1)) _ Tryz.underlying100 rfl (xby _) (hX.row _) rfl ⟨rfl,below_setRow hb (Nat.le_refl _) _⟩
 by_cases e2:k = 2
 ·subst e2
  go_enter Tryz.func40,Tryz.ntmps40
  go_wp2_with (first
   | (refine xac (by rfl) 100 rfl (shC sh0) xdn ?_;rw [hw1];clear hw1)
   | (refine xar (by rfl) 100 _ rfl (shC (shapeM 2)) (by kernel_rfl) ?_)
   | (refine xao (by rfl) 100 _ _ rfl w.heap.size rfl (shC (shapeM 2)) rfl 100 (shC sh0) (xby _) rfl (sh_one _) ?hg ?_;(case hg=>exact hX)))
  exact xba rfl w.heap.size rfl 100 (shC (shapeM 2)) _ Tryz.underlying100 rfl (xby _) (hX.row _) rfl ⟨rfl,below_setRow hb (Nat.le_refl _) _⟩
 by_cases e3:k = 3
 ·subst e3
  go_enter Tryz.func40,Tryz.ntmps40
  go_wp2_with (first
   | (refine xac (by rfl) 100 rfl (shC sh0) xdn ?_;rw [hw1];clear hw1)
   | (refine xar (by rfl) 100 _ rfl (shC (shapeM 3)) (by kernel_rfl) ?_)
   | (refine xao (by rfl) 100 _ _ rfl w.heap.size rfl (shC (shapeM 3)) rfl 100 (shC sh0) (xby _) rfl (sh_one _) ?hg ?_;(case hg=>exact hX)))
  exact xba rfl w.heap.size rfl 100 (shC (shapeM 3)) _ Tryz.underlying100 rfl (xby _) (hX.row _) rfl ⟨rfl,below_setRow hb (Nat.le_refl _) _⟩
 by_cases e4:k = 4
 ·subst e4
  go_enter Tryz.func40,Tryz.ntmps40
  go_wp2_with (first
   | (refine xac (by rfl) 100 rfl (shC sh0) xdn ?_;rw [hw1];clear hw1)
   | (refine xar (by rfl) 100 _ rfl (shC (shapeM 4)) (by kernel_rfl) ?_)
   | (refine xao (by rfl) 100 _ _ rfl w.heap.size rfl (shC (shapeM 4)) rfl 100 (shC sh0) (xby _) rfl (sh_one _) ?hg ?_;(case hg=>exact hX)))
  exact xba rfl w.heap.size rfl 100 (shC (shapeM 4)) _ Tryz.underlying100 rfl (xby _) (hX.row _) rfl ⟨rfl,below_setRow hb (Nat.le_refl _) _⟩
 by_cases e5:k = 5
 ·subst e5
  go_enter Tryz.func40,Tryz.ntmps40
  go_wp2_with (first
   | (refine xac (by rfl) 100 rfl (shC sh0) xdn ?_;rw [hw1];clear hw1)
   | (refine xar (by rfl) 100 _ rfl (shC (shapeM 5)) (by kernel_rfl) ?_)
   | (refine xao (by rfl) 100 _ _ rfl w.heap.size rfl (shC (shapeM 5)) rfl 100 (shC sh0) (xby _) rfl (sh_one _) ?hg ?_;(case hg=>exact hX)))
  exact xba rfl w.heap.size rfl 100 (shC (shapeM 5)) _ Tryz.underlying100 rfl (xby _) (hX.row _) rfl ⟨rfl,below_setRow hb (Nat.le_refl _) _⟩
 by_cases e6:k = 6
 ·subst e6
  go_enter Tryz.func40,Tryz.ntmps40
  go_wp2_with (first
   | (refine xac (by rfl) 100 rfl (shC sh0) xdn ?_;rw [hw1];clear hw1)
   | (refine xar (by rfl) 100 _ rfl (shC (shapeM 6)) (by kernel_rfl) ?_)
   | (refine xao (by rfl) 100 _ _ rfl w.heap.size rfl (shC (shapeM 6)) rfl 100 (shC sh0) (xby _) rfl (sh_one _) ?hg ?_;(case hg=>exact hX)))
  exact xba rfl w.heap.size rfl 100 (shC (shapeM 6)) _ Tryz.underlying100 rfl (xby _) (hX.row _) rfl ⟨rfl,below_setRow hb (Nat.le_refl _) _⟩
 by_cases e7:k = 7
 ·subst e7
  go_enter Tryz.func40,Tryz.ntmps40
  go_wp2_with (first
   | (refine xac (by rfl) 100 rfl (shC sh0) xdn ?_;rw [hw1];clear hw1)
   | (refine xar (by rfl) 100 _ rfl (shC (shapeM 7)) (by kernel_rfl) ?_)
   | (refine xao (by rfl) 100 _ _ rfl w.heap.size rfl (shC (shapeM 7)) rfl 100 (shC sh0) (xby _) rfl (sh_one _) ?hg ?_;(case hg=>exact hX)))
  exact xba rfl w.heap.size rfl 100 (shC (shapeM 7)) _ Tryz.underlying100 rfl (xby _) (hX.row _) rfl ⟨rfl,below_setRow hb (Nat.le_refl _) _⟩
 by_cases e8:k = 8
 ·subst e8
  go_enter Tryz.func40,Tryz.ntmps40
  go_wp2_with (first
   | (refine xac (by rfl) 100 rfl (shC sh0) xdn ?_;rw [hw1];clear hw1)
   | (refine xar (by rfl) 100 _ rfl (shC (shapeM 8)) (by kernel_rfl) ?_)
   | (refine xao (by rfl) 100 _ _ rfl w.heap.size rfl (shC (shapeM 8)) rfl 100 (shC sh0) (xby _) rfl (sh_one _) ?hg ?_;(case hg=>exact hX)))
  exact xba rfl w.heap.size rfl 100 (shC (shapeM 8)) _ Tryz.underlying100 rfl (xby _) (hX.row _) rfl ⟨rfl,below_setRow hb (Nat.le_refl _) _⟩
 by_cases e9:k = 9
 ·subst e9
  go_enter Tryz.func40,Tryz.ntmps40
  go_wp2_with (first
   | (refine xac (by rfl) 100 rfl (shC sh0) xdn ?_;rw [hw1];clear hw1)
   | (refine xar (by rfl) 100 _ rfl (shC (shapeM 9)) (by kernel_rfl) ?_)
   | (refine xao (by rfl) 100 _ _ rfl w.heap.size rfl (shC (shapeM 9)) rfl 100 (shC sh0) (xby _) rfl (sh_one _) ?hg ?_;(case hg=>exact hX)))
  exact xba rfl w.heap.size rfl 100 (shC (shapeM 9)) _ Tryz.underlying100 rfl (xby _) (hX.row _) rfl ⟨rfl,below_setRow hb (Nat.le_refl _) _⟩
 by_cases e10:k = 10
 ·subst e10
  go_enter Tryz.func40,Tryz.ntmps40
  go_wp2_with (first
   | (refine xac (by rfl) 100 rfl (shC sh0) xdn ?_;rw [hw1];clear hw1)
   | (refine xar (by rfl) 100 _ rfl (shC (shapeM 10)) (by kernel_rfl) ?_)
   | (refine xao (by rfl) 100 _ _ rfl w.heap.size rfl (shC (shapeM 10)) rfl 100 (shC sh0) (xby _) rfl (sh_one _) ?hg ?_;(case hg=>exact hX)))
  exact xba rfl w.heap.size rfl 100 (shC (shapeM 10)) _ Tryz.underlying100 rfl (xby _) (hX.row _) rfl ⟨rfl,below_setRow hb (Nat.le_refl _) _⟩
 by_cases e11:k = 11
 ·subst e11
  go_enter Tryz.func40,Tryz.ntmps40
  go_wp2_with (first
   | (refine xac (by rfl) 100 rfl (shC sh0) xdn ?_;rw [hw1];clear hw1)
   | (refine xar (by rfl) 100 _ rfl (shC (shapeM 11)) (by kernel_rfl) ?_)
   | (refine xao (by rfl) 100 _ _ rfl w.heap.size rfl (shC (shapeM 11)) rfl 100 (shC sh0) (xby _) rfl (sh_one _) ?hg ?_;(case hg=>exact hX)))
  exact xba rfl w.heap.size rfl 100 (shC (shapeM 11)) _ Tryz.underlying100 rfl (xby _) (hX.row _) rfl ⟨rfl,below_setRow hb (Nat.le_refl _) _⟩
 by_cases e12:k = 12
 ·subst e12
  go_enter Tryz.func40,Tryz.ntmps40
  go_wp2_with (first
   | (refine xac (by rfl) 100 rfl (shC sh0) xdn ?_;rw [hw1];clear hw1)
   | (refine xar (by rfl) 100 _ rfl (shC (shapeM 12)) (by kernel_rfl) ?_)
   | (refine xao (by rfl) 100 _ _ rfl w.heap.size rfl (shC (shapeM 12)) rfl 100 (shC sh0) (xby _) rfl (sh_one _) ?hg ?_;(case hg=>exact hX)))
  exact xba rfl w.heap.size rfl 100 (shC (shapeM 12)) _ Tryz.underlying100 rfl (xby _) (hX.row _) rfl ⟨rfl,below_setRow hb (Nat.le_refl _) _⟩
 by_cases e13:k = 13
 ·subst e13
  go_enter Tryz.func40,Tryz.ntmps40
  go_wp2_with (first
   | (refine xac (by rfl) 100 rfl (shC sh0) xdn ?_;rw [hw1];clear hw1)
   | (refine xar (by rfl) 100 _ rfl (shC (shapeM 13)) (by kernel_rfl) ?_)
   | (refine xao (by rfl) 100 _ _ rfl w.heap.size rfl (shC (shapeM 13)) rfl 100 (shC sh0) (xby _) rfl (sh_one _) ?hg ?_;(case hg=>exact hX)))
  exact xba rfl w.heap.size rfl 100 (shC (shapeM 13)) _ Tryz.underlying100 rfl (xby _) (hX.row _) rfl ⟨rfl,below_setRow hb (Nat.le_refl _) _⟩
 by_cases e14:k = 14
 ·subst e14
  go_enter Tryz.func40,Tryz.ntmps40
  go_wp2_with (first
   | (refine xac (by rfl) 100 rfl (shC sh0) xdn ?_;rw [hw1];clear hw1)
   | (refine xar (by rfl) 100 _ rfl (shC (shapeM 14)) (by kernel_rfl) ?_)
   | (refine xao (by rfl) 100 _ _ rfl w.heap.size rfl (shC (shapeM 14)) rfl 100 (shC sh0) (xby _) rfl (sh_one _) ?hg ?_;(case hg=>exact hX)))
  exact xba rfl w.heap.size rfl 100 (shC (shapeM 14)) _ Tryz.underlying100 rfl (xby _) (hX.row _) rfl ⟨rfl,below_setRow hb (Nat.le_refl _) _⟩
 by_cases e15:k = 15
 ·subst e15
  go_enter Tryz.func40,Tryz.ntmps40
  go_wp2_with (first
   | (refine xac (by rfl) 100 rfl (shC sh0) xdn ?_;rw [hw1];clear hw1)
   | (refine xar (by rfl) 100 _ rfl (shC (shapeM 15)) (by kernel_rfl) ?_)
   | (refine xao (by rfl) 100 _ _ rfl w.heap.size rfl (shC (shapeM 15)) rfl 100 (shC sh0) (xby _) rfl (sh_one _) ?hg ?_;(case hg=>exact hX)))
  exact xba rfl w.heap.size rfl 100 (shC (shapeM 15)) _ Tryz.underlying100 rfl (xby _) (hX.row _) rfl ⟨rfl,below_setRow hb (Nat.le_refl _) _⟩
 by_cases e16:k = 16
 ·subst e16
  go_enter Tryz.func40,Tryz.ntmps40
  go_wp2_with (first
   | (refine xac (by rfl) 100 rfl (shC sh0) xdn ?_;rw [hw1];clear hw1)
   | (refine xar (by rfl) 100 _ rfl (shC (shapeM 16)) (by kernel_rfl) ?_)
   | (refine xao (by rfl) 100 _ _ rfl w.heap.size rfl (shC (shapeM 16)) rfl 100 (shC sh0) (xby _) rfl (sh_one _) ?hg ?_;(case hg=>exact hX)))
  exact xba rfl w.heap.size rfl 100 (shC (shapeM 16)) _ Tryz.underlying100 rfl (xby _) (hX.row _) rfl ⟨rfl,below_setRow hb (Nat.le_refl _) _⟩
 by_cases e17:k = 17
 ·subst e17
  go_enter Tryz.func40,Tryz.ntmps40
  go_wp2_with (first
   | (refine xac (by rfl) 100 rfl (shC sh0) xdn ?_;rw [hw1];clear hw1)
   | (refine xar (by rfl) 100 _ rfl (shC (shapeM 17)) (by kernel_rfl) ?_)
   | (refine xao (by rfl) 100 _ _ rfl w.heap.size rfl (shC (shapeM 17)) rfl 100 (shC sh0) (xby _) rfl (sh_one _) ?hg ?_;(case hg=>exact hX)))
  exact xba rfl w.heap.size rfl 100 (shC (shapeM 17)) _ Tryz.underlying100 rfl (xby _) (hX.row _) rfl ⟨rfl,below_setRow hb (Nat.le_refl _) _⟩
 by_cases e18:k = 18
 ·subst e18
  go_enter Tryz.func40,Tryz.ntmps40
  go_wp2_with (first
   | (refine xac (by rfl) 100 rfl (shC sh0) xdn ?_;rw [hw1];clear hw1)
   | (refine xar (by rfl) 100 _ rfl (shC (shapeM 18)) (by kernel_rfl) ?_)
   | (refine xao (by rfl) 100 _ _ rfl w.heap.size rfl (shC (shapeM 18)) rfl 100 (shC sh0) (xby _) rfl (sh_one _) ?hg ?_;(case hg=>exact hX)))
  exact xba rfl w.heap.size rfl 100 (shC (shapeM 18)) _ Tryz.underlying100 rfl (xby _) (hX.row _) rfl ⟨rfl,below_setRow hb (Nat.le_refl _) _⟩
 have d1:¬ (k:Int) = 1:=by omega
 have d2:¬ (k:Int) = 2:=by omega
 have d3:¬ (k:Int) = 3:=by omega
 have d4:¬ (k:Int) = 4:=by omega
 have d5:¬ (k:Int) = 5:=by omega
 have d6:¬ (k:Int) = 6:=by omega
 have d7:¬ (k:Int) = 7:=by omega
 have d8:¬ (k:Int) = 8:=by omega
 have d9:¬ (k:Int) = 9:=by omega
 have d10:¬ (k:Int) = 10:=by omega
 have d11:¬ (k:Int) = 11:=by omega
 have d12:¬ (k:Int) = 12:=by omega
 have d13:¬ (k:Int) = 13:=by omega
 have d14:¬ (k:Int) = 14:=by omega
 have d15:¬ (k:Int) = 15:=by omega
 have d16:¬ (k:Int) = 16:=by omega
 have d17:¬ (k:Int) = 17:=by omega
 have d18:¬ (k:Int) = 18:=by omega
 rw [shape_other (by omega)]
 clear e1 e2 e3 e4 e5 e6 e7 e8 e9 e10 e11 e12 e13 e14 e15 e16 e17 e18
 go_enter Tryz.func40,Tryz.ntmps40
 go_wp2_with (first
  | (refine xac (by rfl) 100 rfl (shC sh0) xdn ?_;rw [hw1];clear hw1)
  | (refine xar (by rfl) 100 _ rfl (shC sh0) (by kernel_rfl) ?_)
  | (refine xao (by rfl) 100 _ _ rfl w.heap.size rfl (shC sh0) rfl 100 (shC sh0) (xby _) rfl (sh_one _) ?hg ?_;(case hg=>exact hX)))
 exact xba rfl w.heap.size rfl 100 (shC sh0) _ Tryz.underlying100 rfl (xby _) (hX.row _) rfl ⟨rfl,below_setRow hb (Nat.le_refl _) _⟩
end Go.Proofs.YtecilienolabfaaGreatDoor
