/- Several texts in one, in build order: ObjMath, ObjMem, RefOps, RefSeen, ObjSpec, ObjKnown, EqObj, ObjFacts, ResRow, EqOp, OpenObj, LandOps. -/
import Derived.Below
import Derived.OwnWalk
import Derived.Laws.Concat
import Derived.Laws.Slices
import Derived.Laws.Strings
import Derived.Test.YtecilienolabfaaGreatDoorChecked
import Derived.Test.YtecilienolabfaaGreatDoorPackTools
import Derived.WalkKit
import Derived.WalkSpells
import Derived.WalkLawsBesides
import Derived.DeepKeys
import Derived.Laws.StructEq
import Derived.Carry
import Derived.OpenShut
import Derived.ProofKit
import Derived.ShutString
/- ObjMath: Objects, operations, bases, as mathematics, and the cells that they are. Nothing of the program is in it. -/
namespace Go.Proofs.YtecilienolabfaaGreatDoor
set_option linter.unusedSimpArgs false
set_option linter.unusedVariables false
def mkS (l:List UInt8):ByteArray:=⟨l.toArray⟩
def strV (l:List UInt8):Value:=.string (mkS l)
theorem xde (l:List UInt8):(mkS l).size = l.length:=by
 show l.toArray.size = _
 simp
theorem mkS_isEmpty (l:List UInt8):(mkS l).toList.isEmpty = decide (l.length = 0):=by
 rw [ByteArray.toList_eq]
 cases l with
 | nil=>rfl
 | cons x xs=>rfl
section
variable {P:Program} (w:World)
end
theorem mkS_inj {a b:List UInt8} (h:mkS a = mkS b):a = b:=by
 have:=congrArg ByteArray.data h
 simpa [mkS] using this
structure ResV where
 code:Nat
 data:List UInt8
structure LastV where
 seq:Nat
 r:ResV
structure ObjV where
 there:Bool
 data:List UInt8
 a0:List UInt8
 a1:List UInt8
 a2:List UInt8
structure BaseV where
 obj:Fin 6 → ObjV
 last:Fin 3 → LastV
structure OpV where
 client:Nat
 seq:Nat
 kind:Nat
 obj:Nat
 pos:Nat
 data:List UInt8
def resL (r:ResV):List Value:=[.int .u8 (r.code:Int),strV r.data]
def lastL (l:LastV):List Value:=.int .u32 (l.seq:Int) :: resL l.r
def objL (x:ObjV):List Value:=[.bool x.there,strV x.data,strV x.a0,strV x.a1,strV x.a2]
def opL (o:OpV):List Value:=[.int .u8 (o.client:Int),.int .u32 (o.seq:Int),.int .u8 (o.kind:Int),.int .u8 (o.obj:Int),.int .u8 (o.pos:Int),strV o.data]
def objsL (f:Fin 6 → ObjV):List Value:=objL (f 0) ++ (objL (f 1) ++ (objL (f 2) ++ (objL (f 3) ++ (objL (f 4) ++ objL (f 5)))))
def lastsL (f:Fin 3 → LastV):List Value:=lastL (f 0) ++ (lastL (f 1) ++ lastL (f 2))
def baseL (b:BaseV):List Value:=objsL b.obj ++ lastsL b.last
def resC (r:ResV):Array Value:=(resL r).toArray
def lastC (l:LastV):Array Value:=(lastL l).toArray
def objC (x:ObjV):Array Value:=(objL x).toArray
def opC (o:OpV):Array Value:=(opL o).toArray
def baseC (b:BaseV):Array Value:=(baseL b).toArray
def res0:ResV:=⟨0,[]⟩
def last0:LastV:=⟨0,res0⟩
def obj0:ObjV:=⟨false,[],[],[],[]⟩
def base0:BaseV:=⟨fun _=>obj0,fun _=>last0⟩
def op0:OpV:=⟨0,0,0,0,0,[]⟩
def ObjV.attr (x:ObjV) (k:Nat):List UInt8:=if k = 0 then x.a0 else if k = 1 then x.a1 else x.a2
def isOpM (o:OpV):Bool :=
 decide (1 ≤ o.client ∧ o.client ≤ 3 ∧ 1 ≤ o.seq ∧ 1 ≤ o.kind ∧ o.kind ≤ 5 ∧ o.obj < 6 ∧ o.data.length ≤ 16 ∧ (o.kind = 1 ∨ o.kind = 3 ∨ o.data = []) ∧ (o.kind = 4 ∨ o.kind = 5 → o.pos = 0))
def xdz (o:OpV):Bool:=isOpM o && decide (o.kind ≠ 5)
theorem isOp_is (o:OpV):isOpM o = true ↔ (1 ≤ o.client ∧ o.client ≤ 3 ∧ 1 ≤ o.seq ∧ 1 ≤ o.kind ∧ o.kind ≤ 5 ∧ o.obj < 6 ∧ o.data.length ≤ 16 ∧ (o.kind = 1 ∨ o.kind = 3 ∨ o.data = []) ∧ (o.kind = 4 ∨ o.kind = 5 → o.pos = 0)):=by
 unfold isOpM
 rw [decide_eq_true_iff]
theorem writes_is (o:OpV):xdz o = true ↔ isOpM o = true ∧ o.kind ≠ 5:=by
 unfold xdz
 rw [Bool.and_eq_true,decide_eq_true_iff]
end Go.Proofs.YtecilienolabfaaGreatDoor
/- ObjMem: Bases, operations, objects, results in variables: the laws of Mem at this seat's types. -/
namespace Go.Proofs.YtecilienolabfaaGreatDoor
set_option linter.unusedSimpArgs false
set_option linter.unusedVariables false
set_option maxRecDepth 100000
open Go.RowKit
theorem retB {a b:Bool} (h:a = b):Ending.returned (Value.bool a) = .returned (.bool b):=by rw [h]
theorem xcl (b:BaseV):(Tryz.prog.info? 37).map (·.size) = some (baseC b).size:=by show _ = some 39;kernel_rfl
theorem xca (o:OpV):(Tryz.prog.info? 39).map (·.size) = some (opC o).size:=by show _ = some 6;kernel_rfl
theorem xbq (x:ObjV):(Tryz.prog.info? 29).map (·.size) = some (objC x).size:=by show _ = some 5;kernel_rfl
theorem xeb (r:ResV):(Tryz.prog.info? 32).map (·.size) = some (resC r).size:=by show _ = some 2;kernel_rfl
theorem base_zero:(Tryz.prog.info? 37).map (·.zero) = some (some (.agg (baseC base0))):=by kernel_rfl
theorem res_zero:(Tryz.prog.info? 32).map (·.zero) = some (some (.agg (resC res0))):=by kernel_rfl
theorem xdk:(Tryz.prog.info? 29).map (·.zero) = some (some (.agg (objC obj0))):=by kernel_rfl
theorem xgf:Tryz.prog.built 29 [] = some (objC obj0):=by kernel_rfl
theorem res_one (r:ResV):(resC r).all (·.oneCell') = true:=by simp [resC,resL,strV,Value.oneCell']
theorem op_one (o:OpV):(opC o).all (·.oneCell') = true:=by simp [opC,opL,strV,Value.oneCell']
theorem xhe (x:ObjV):∀ u ∈ objL x,u.oneCell' = true:=by
 intro u hu
 simp [objL,strV] at hu
 rcases hu with rfl | rfl | rfl | rfl | rfl <;> rfl
theorem lastL_one (l:LastV):∀ u ∈ lastL l,u.oneCell' = true:=by
 intro u hu
 simp [lastL,resL,strV] at hu
 rcases hu with rfl | rfl | rfl <;> rfl
theorem xdd (x:ObjV):(objC x).all (·.oneCell') = true:=all_oneCell_toArray (xhe x)
theorem last_one (l:LastV):(lastC l).all (·.oneCell') = true:=all_oneCell_toArray (lastL_one l)
theorem base_one (b:BaseV):(baseC b).all (·.oneCell') = true:=by
 refine all_oneCell_toArray ?_
 intro u hu
 unfold baseL objsL lastsL at hu
 simp only [List.mem_append] at hu
 rcases hu with (h | h | h | h | h | h) | (h | h | h)
 ·exact xhe _ u h
 ·exact xhe _ u h
 ·exact xhe _ u h
 ·exact xhe _ u h
 ·exact xhe _ u h
 ·exact xhe _ u h
 ·exact lastL_one _ u h
 ·exact lastL_one _ u h
 ·exact lastL_one _ u h
theorem baseC_obj (b:BaseV) (i:Fin 6) (k:Nat) (v:Value) (h:(objL (b.obj i))[k]? = some v):(baseC b)[i.val * 5 + k]? = some v:=by
 have hk:k < 5:=(List.getElem?_eq_some_iff.1 h).1
 unfold baseC
 rw [List.getElem?_toArray,← h]
 match i,k,hk with
 | 0,0,_=>rfl
 | 0,1,_=>rfl
 | 0,2,_=>rfl
 | 0,3,_=>rfl
 | 0,4,_=>rfl
 | 1,0,_=>rfl
 | 1,1,_=>rfl
 | 1,2,_=>rfl
 | 1,3,_=>rfl
 | 1,4,_=>rfl
 | 2,0,_=>rfl
 | 2,1,_=>rfl
 | 2,2,_=>rfl
 | 2,3,_=>rfl
 | 2,4,_=>rfl
 | 3,0,_=>rfl
 | 3,1,_=>rfl
 | 3,2,_=>rfl
 | 3,3,_=>rfl
 | 3,4,_=>rfl
 | 4,0,_=>rfl
 | 4,1,_=>rfl
 | 4,2,_=>rfl
 | 4,3,_=>rfl
 | 4,4,_=>rfl
 | 5,0,_=>rfl
 | 5,1,_=>rfl
 | 5,2,_=>rfl
 | 5,3,_=>rfl
 | 5,4,_=>rfl
theorem baseC_last (b:BaseV) (i:Fin 3) (k:Nat) (v:Value) (h:(lastL (b.last i))[k]? = some v):(baseC b)[30 + i.val * 3 + k]? = some v:=by
 have hk:k < 3:=(List.getElem?_eq_some_iff.1 h).1
 unfold baseC
 rw [List.getElem?_toArray,← h]
 match i,k,hk with
 | 0,0,_=>rfl
 | 0,1,_=>rfl
 | 0,2,_=>rfl
 | 1,0,_=>rfl
 | 1,1,_=>rfl
 | 1,2,_=>rfl
 | 2,0,_=>rfl
 | 2,1,_=>rfl
 | 2,2,_=>rfl
theorem Has.obj_at {w:World} {g:Nat} {b:BaseV} (h:Has w g 37 (baseC b)) (i:Fin 6):w.rangeAt g (i.val * 5) (objL (b.obj i)):=h.range _ _ fun j v hj=>baseC_obj b i j v hj
theorem Has.last_at {w:World} {g:Nat} {b:BaseV} (h:Has w g 37 (baseC b)) (i:Fin 3):w.rangeAt g (30 + i.val * 3) (lastL (b.last i)):=h.range _ _ fun j v hj=>baseC_last b i j v hj
end Go.Proofs.YtecilienolabfaaGreatDoor
/- RefOps: The contracts of the document's IsOp, Writes and noughts. -/
namespace Go.Proofs.YtecilienolabfaaGreatDoor
set_option linter.unusedSimpArgs false
set_option linter.unusedVariables false
set_option maxRecDepth 100000
open Go.RowKit
structure OpOk (o:OpV):Prop where
 client:o.client < 256
 seq:o.seq < 4294967296
 kind:o.kind < 256
 obj:o.obj < 256
 pos:o.pos < 256
 data:o.data.length ≤ 9223372036854775807
set_option maxHeartbeats 4000000 in
theorem xga (o:OpV) (w:World) (h:OpOk o) :
  Calls Tryz.prog 50 #[.agg (opC o)] w fun e w'=>e = .returned (.bool (isOpM o)) ∧ Below w.heap.size w w':=by
 obtain ⟨cl,sq,kd,ob,at',da⟩:=o
 obtain ⟨h1,h2,h3,h4,h5,h6⟩:=h
 have hs:=xde da
 have he:=mkS_isEmpty da
 have hm:=isOp_is ⟨cl,sq,kd,ob,at',da⟩
 simp only at h1 h2 h3 h4 h5 h6 hm
 show Calls Tryz.prog 50 #[.agg #[.int .u8 (cl:Int),.int .u32 (sq:Int),.int .u8 (kd:Int),.int .u8 (ob:Int),.int .u8 (at':Int),.string (mkS da)]] w _
 generalize mkS da = s at *
 have hd0:da = [] ↔ da.length = 0:=List.length_eq_zero_iff.symm
 rw [hd0] at hm
 have hm':Hid _:=hm
 clear hm hd0
 generalize da.length = n at *
 have he':Hid _:=he
 clear he
 go_enter Tryz.func50,Tryz.ntmps50
 go_wp2
 all_goals
  go_ret
  refine ⟨retB ?_,(Below.refl _ _).alloc (Nat.le_refl _) _⟩
  rw [Bool.eq_iff_iff,hm'.out]
  have he:=he'.out
  simp only [he,bne_iff_ne,bne_eq_false_iff_eq,beq_iff_eq,beq_eq_false_iff_ne,ne_eq,Bool.not_eq_true',Bool.not_eq_false',decide_eq_true_iff,decide_eq_false_iff_not] at *
  try simp
  omega
set_option maxHeartbeats 1000000 in
theorem refwrites_any (o:OpV) (w:World) (h:OpOk o) :
  Calls Tryz.prog 49 #[.agg (opC o)] w fun e w'=>e = .returned (.bool (xdz o)) ∧ Below w.heap.size w w':=by
 have hO:=Has.new w 39 (opC o)
 have hb0:=(Below.refl w.heap.size w).alloc (Nat.le_refl _) (.cells (opC o) 39)
 have hm:=writes_is o
 have hk:=h.kind
 go_enter Tryz.func49,Tryz.ntmps49
 go_wp2_with (first
  | (refine xab (by rfl) 39 _ rfl w.heap.size rfl 39 (opC o) _ Tryz.underlying39 rfl (xca o) ?hg ?_;(case hg=>exact hO)))
 refine (xga o _ h).mono ?_
 rintro e w1 ⟨rfl,hq⟩
 replace hO:=hO.later hq
 replace hb0:=hb0.trans (hq.mono hb0.size)
 have c2:w1.cell? ⟨w.heap.size,2,none⟩ = some (.int .u8 (o.kind:Int)):=(hO.cell 2).trans rfl
 clear hq hO
 cases hi:isOpM o with
 | false =>
  have hr:xdz o = false:=by unfold xdz;rw [hi];rfl
  go_wp2
  go_ret
  exact ⟨by rw [hr];rfl,hb0⟩
 | true =>
  have hm':Hid _:=hm
  clear hm
  go_wp2
  go_ret
  refine ⟨retB ?_,hb0⟩
  rw [Bool.eq_iff_iff,hm'.out]
  simp [hi]
  omega
end Go.Proofs.YtecilienolabfaaGreatDoor
/- RefSeen: The contract of the document's Seen. -/
namespace Go.Proofs.YtecilienolabfaaGreatDoor
set_option linter.unusedSimpArgs false
set_option linter.unusedVariables false
set_option maxRecDepth 100000
open Go.RowKit
structure BaseOk (b:BaseV):Prop where
 seq:∀ i,(b.last i).seq < 4294967296
 code:∀ i,(b.last i).r.code < 256
 rdata:∀ i,(b.last i).r.data.length ≤ 9223372036854775807
 data:∀ i,(b.obj i).data.length ≤ 1000
 a0:∀ i,(b.obj i).a0.length ≤ 1000
 a1:∀ i,(b.obj i).a1.length ≤ 1000
 a2:∀ i,(b.obj i).a2.length ≤ 1000
theorem last_size (l:LastV):(Tryz.prog.info? 34).map (·.size) = some (lastC l).size:=by show _ = some 3;kernel_rfl
theorem last_zero:(Tryz.prog.info? 34).map (·.zero) = some (some (.agg (lastC last0))):=by kernel_rfl
end Go.Proofs.YtecilienolabfaaGreatDoor
/- ObjSpec: What package objects has to answer, as one bundle; that Do keeps what a base must be. -/
namespace Go.Proofs.YtecilienolabfaaGreatDoor
set_option linter.unusedSimpArgs false
set_option linter.unusedVariables false
open Go.RowKit
structure ObjOk (x:ObjV):Prop where
 data:x.data.length ≤ 1000
 a0:x.a0.length ≤ 1000
 a1:x.a1.length ≤ 1000
 a2:x.a2.length ≤ 1000
theorem obj0_ok:ObjOk obj0:=⟨by decide,by decide,by decide,by decide⟩
theorem BaseOk.of {b:BaseV} (h1:∀ i,ObjOk (b.obj i)) (h2:∀ i,(b.last i).seq < 4294967296 ∧ (b.last i).r.code < 256 ∧ (b.last i).r.data.length ≤ 9223372036854775807):BaseOk b :=
 ⟨fun i=>(h2 i).1,fun i=>(h2 i).2.1,fun i=>(h2 i).2.2,fun i=>(h1 i).data,fun i=>(h1 i).a0,fun i=>(h1 i).a1,fun i=>(h1 i).a2⟩
theorem base0_ok:BaseOk base0:=BaseOk.of (fun _=>obj0_ok) (fun _=>⟨by show 0 < _;decide,by show 0 < _;decide,by show 0 ≤ _;decide⟩)
end Go.Proofs.YtecilienolabfaaGreatDoor
/- ObjKnown: A whole row into its variable; the world behind it has a name. (Stage 7's text in the place of stage 6's ObjKnown.) -/
namespace Go.Proofs.YtecilienolabfaaGreatDoor
set_option linter.unusedSimpArgs false
set_option linter.unusedVariables false
open Go.RowKit
theorem xai {P:Program} {ops:Array Oper} {rest:List Oper} {o:Oper} {a:Act} {w:World} {Q:Exit → Act → World → Prop} (hw:Region.wanted o (yielded ops a.tmps) = true) (ty:TypeId) (x y:Operand) (ho:o.op = .store ty x y) (g:Nat) (hx:a.eval x = .pointer (some ⟨g,0,none⟩))
  (c:Array Value) (hy:a.eval y = .agg c) (t:TypeId) (old:Array Value) (hi:(P.info? ty).map (·.size) = some c.size) (hs:old.size = c.size) (h1:c.all (·.oneCell') = true)
  (hg:Has w g t old) (W:World) (hW:w.setRow g c = W) (h:wpList P ops Q rest (a.put o.dst undef) W):wpList P ops Q (o :: rest) a w :=
 xao hw ty x y ho g hx c hy t old hi hs h1 hg (hW ▸ h)
end Go.Proofs.YtecilienolabfaaGreatDoor
/- EqObj: A base, an object, a result held against itself by '==': true. -/
namespace Go.Proofs.YtecilienolabfaaGreatDoor
set_option linter.unusedSimpArgs false
set_option linter.unusedVariables false
set_option maxRecDepth 100000
open Go.RowKit
theorem wfo_u8 {n:Nat} (h:n < 256):(Lit.int .u8 n).wf = true:=by
 simp [Lit.wf,IntKind.min,IntKind.max,IntKind.signed,IntKind.bits];omega
theorem wfo_u32 {n:Nat} (h:n < 4294967296):(Lit.int .u32 n).wf = true:=by
 simp [Lit.wf,IntKind.min,IntKind.max,IntKind.signed,IntKind.bits];omega
theorem co_u8:Tryz.prog.cellsOf 5 = 1:=by kernel_rfl
theorem co_u32:Tryz.prog.cellsOf 22 = 1:=by kernel_rfl
theorem co_bool:Tryz.prog.cellsOf 4 = 1:=by kernel_rfl
theorem co_string:Tryz.prog.cellsOf 9 = 1:=by kernel_rfl
theorem co_attrs:Tryz.prog.cellsOf 27 = 3:=by kernel_rfl
theorem co_obj:Tryz.prog.cellsOf 29 = 5:=by kernel_rfl
theorem co_objs:Tryz.prog.cellsOf 30 = 30:=by kernel_rfl
theorem co_res:Tryz.prog.cellsOf 32 = 2:=by kernel_rfl
theorem co_last:Tryz.prog.cellsOf 34 = 3:=by kernel_rfl
theorem co_lasts:Tryz.prog.cellsOf 35 = 9:=by kernel_rfl
theorem co_base:Tryz.prog.cellsOf 37 = 39:=by kernel_rfl
theorem str_lits (l:List UInt8) (h:l.length ≤ 9223372036854775807) (D:Nat):Tryz.prog.keyLits (D + 1) 9 [strV l] = some [.string l]:=by
 unfold Program.keyLits strV
 rw [Tryz.underlying9]
 have hs:(mkS l).size ≤ maxLen:=by rw [xde];unfold maxLen;omega
 simp only [hs,if_true]
 simp [mkS]
theorem key_base:Tryz.prog.keyTypeAt 8 37 = true:=by kernel_rfl
theorem key_obj:Tryz.prog.keyTypeAt 8 29 = true:=by kernel_rfl
theorem key_last:Tryz.prog.keyTypeAt 8 34 = true:=by kernel_rfl
theorem key_res:Tryz.prog.keyTypeAt 8 32 = true:=by kernel_rfl
theorem xfj:Tryz.prog.eqGuardType Tryz.prog.depth 37 = false:=by kernel_rfl
theorem guard_res:Tryz.prog.eqGuardType Tryz.prog.depth 32 = false:=by kernel_rfl
theorem xgk:Tryz.prog.eqGuardType Tryz.prog.depth 29 = false:=by kernel_rfl
end Go.Proofs.YtecilienolabfaaGreatDoor
/- ObjFacts: What doM and seenM make of bases: what is done twice is done once, elder ones are refused, what is touched, either order. -/
namespace Go.Proofs.YtecilienolabfaaGreatDoor
set_option linter.unusedSimpArgs false
set_option linter.unusedVariables false
open Go.RowKit
theorem snoc_ind {α:Type} {P:List α → Prop} (h0:P []) (h1:∀ l o,P l → P (l ++ [o])) (l:List α):P l:=by
 rw [← List.reverse_reverse l]
 induction l.reverse with
 | nil=>exact h0
 | cons o l ih=>rw [List.reverse_cons];exact h1 _ _ ih
end Go.Proofs.YtecilienolabfaaGreatDoor
/- ResRow: A row of results in one block, filled from the front. -/
namespace Go.Proofs.YtecilienolabfaaGreatDoor
set_option linter.unusedSimpArgs false
set_option linter.unusedVariables false
set_option maxRecDepth 100000
open Go.RowKit
end Go.Proofs.YtecilienolabfaaGreatDoor
/- EqOp: '==' of operations; '==' and '!=' of what is the same, as steps of a walk. -/
namespace Go.Proofs.YtecilienolabfaaGreatDoor
set_option linter.unusedSimpArgs false
set_option linter.unusedVariables false
set_option maxRecDepth 100000
open Go.RowKit
def opK (o:OpV):List Lit:=[.int .u8 (o.client:Int),.int .u32 (o.seq:Int),.int .u8 (o.kind:Int),.int .u8 (o.obj:Int),.int .u8 (o.pos:Int),.string o.data]
theorem opK_inj {o p:OpV} (h:opK o = opK p):o = p:=by
 obtain ⟨a,b,c,d,e,f⟩:=o
 obtain ⟨a',b',c',d',e',f'⟩:=p
 simp [opK] at h
 obtain ⟨h1,h2,h3,h4,h5,rfl⟩:=h
 have e1:a = a':=by omega
 have e2:b = b':=by omega
 have e3:c = c':=by omega
 have e4:d = d':=by omega
 have e5:e = e':=by omega
 subst e1 e2 e3 e4 e5
 rfl
theorem op_lits (o:OpV) (h:OpOk o) (D:Nat):Tryz.prog.keyLits (D + 2) 39 (opL o) = some (opK o):=by
 have w0:=wfo_u8 h.client
 have w1:=wfo_u32 h.seq
 have w2:=wfo_u8 h.kind
 have w3:=wfo_u8 h.obj
 have w4:=wfo_u8 h.pos
 have e:=str_lits o.data h.data D
 have eb:∀ n:Nat,(Lit.int .u8 (n:Int)).wf = true → Tryz.prog.keyLits (D + 1) 5 [.int .u8 (n:Int)] = some [.int .u8 (n:Int)]:=fun n hn=>by
  unfold Program.keyLits
  rw [Tryz.underlying5]
  simp [hn]
 have e4:Tryz.prog.keyLits (D + 1) 22 [.int .u32 (o.seq:Int)] = some [.int .u32 (o.seq:Int)]:=by
  unfold Program.keyLits
  rw [Tryz.underlying22]
  simp [w1]
 unfold Program.keyLits
 rw [Tryz.underlying39]
 have co:Tryz.prog.cellsOf 39 = 6:=by kernel_rfl
 simp [opL,opK,co,co_u8,co_u32,co_string,e,e4,eb _ w0,eb _ w2,eb _ w3,eb _ w4]
def sameOp (o p:OpV):Bool:=decide (o.client = p.client) && (decide (o.seq = p.seq) && (decide (o.kind = p.kind) && (decide (o.obj = p.obj) && (decide (o.pos = p.pos) && decide (o.data = p.data)))))
theorem sameOp_is (o p:OpV):sameOp o p = true ↔ o = p:=by
 unfold sameOp
 simp only [Bool.and_eq_true,decide_eq_true_iff]
 constructor
 ·rintro ⟨h1,h2,h3,h4,h5,h6⟩
  obtain ⟨a,b,c,d,e,f⟩:=o
  obtain ⟨a',b',c',d',e',f'⟩:=p
  simp_all
 ·rintro rfl
  exact ⟨rfl,rfl,rfl,rfl,rfl,rfl⟩
theorem key_op:Tryz.prog.keyTypeAt 8 39 = true:=by kernel_rfl
theorem xgq:Tryz.prog.eqGuardType Tryz.prog.depth 39 = false:=by kernel_rfl
theorem eq_op (o p:OpV) (ho:OpOk o) (hp:OpOk p) (w:World):(binOp .eql 39 (.agg (opC o)) (.agg (opC p))).run Tryz.prog w = .ok (.bool (sameOp o p)) w:=by
 have co:Tryz.prog.cellsOf 39 = 6:=by kernel_rfl
 have fa:(Value.agg (opC o)).formed Tryz.prog 39 = true:=by simp [Value.formed,Tryz.underlying39,co];rfl
 have fb:(Value.agg (opC p)).formed Tryz.prog 39 = true:=by simp [Value.formed,Tryz.underlying39,co];rfl
 obtain ⟨r,hr,hiff⟩:=run_equalIn_deep 9992 8 39 key_op w 8 8 (.agg (opC o)) (.agg (opC p)) (opK o) (opK p) fa fb (op_lits o ho 6) (op_lits p hp 6)
 have hr:(Op.equalIn 10000 39 (.agg (opC o)) (.agg (opC p))).run Tryz.prog w = .ok r w:=hr
 have hs:r = sameOp o p:=by
  rw [Bool.eq_iff_iff,sameOp_is]
  exact hiff.trans ⟨opK_inj,fun h=>by rw [h]⟩
 rw [run_eql_struct,hr,hs]
 rfl
end Go.Proofs.YtecilienolabfaaGreatDoor
/- OpenObj: What comes in, opened: operations by value and in rows. -/
namespace Go.Proofs.YtecilienolabfaaGreatDoor
set_option linter.unusedSimpArgs false
set_option linter.unusedVariables false
set_option maxRecDepth 100000
open Go.ChangeShapes Go.WideShapes Go.ChangeAt Go.RowKit
section
variable {H:Type} {enc:TypeId × Value → H} {W:World} {base:Nat} {spare:Nat → Bool} {held:Bool} {fuel:Nat} {y:DataW H × List MemPlace}
end
end Go.Proofs.YtecilienolabfaaGreatDoor
/- LandOps: The contracts of objects.IsOp and objects.Writes. -/
namespace Go.Proofs.YtecilienolabfaaGreatDoor
set_option linter.unusedSimpArgs false
set_option linter.unusedVariables false
set_option maxRecDepth 100000
open Go.RowKit
theorem op_zero:(Tryz.prog.info? 39).map (·.zero) = some (some (.agg (opC op0))):=by kernel_rfl
theorem bare_built (a b c d:Nat):Tryz.prog.built 39 [(0,.int .u8 (a:Int)),(1,.int .u32 (b:Int)),(2,.int .u8 (c:Int)),(3,.int .u8 (d:Int))] = some (opC ⟨a,b,c,d,0,[]⟩):=by kernel_rfl
theorem wpList_build_four {P:Program} {ops:Array Oper} {rest:List Oper} {o:Oper} {a:Act} {w:World} {Q:Exit → Act → World → Prop} (hw:Region.wanted o (yielded ops a.tmps) = true) (t:TypeId) (i j k l:Nat) (x y z u:Operand) (ho:o.op = .build t #[(i,x),(j,y),(k,z),(l,u)]) (p q r s:Value) (hx:a.eval x = p) (hy:a.eval y = q) (hz:a.eval z = r) (hu:a.eval u = s) (c:Array Value) (hf:P.built t [(i,p),(j,q),(k,r),(l,s)] = some c)
  (h:wpList P ops Q rest (a.put o.dst (.agg c)) w):wpList P ops Q (o :: rest) a w :=
 xar hw t _ ho c (by simpa [hx,hy,hz,hu] using hf) h
theorem same_bare {cl sq kd ob p:Nat} {d:List UInt8} (q:Nat):sameOp ⟨cl,sq,kd,ob,p,d⟩ ⟨cl,sq,kd,ob,q,[]⟩ = true ↔ p = q ∧ d.length = 0:=by
 rw [sameOp_is,List.length_eq_zero_iff]
 constructor
 ·intro h
  cases h
  exact ⟨rfl,rfl⟩
 ·rintro ⟨rfl,rfl⟩
  rfl
set_option maxHeartbeats 8000000 in
theorem isop_any (o:OpV) (w:World) (h:OpOk o) :
  Calls Tryz.prog 117 #[.agg (opC o)] w fun e w'=>e = .returned (.bool (isOpM o)) ∧ Below w.heap.size w w':=by
 obtain ⟨cl,sq,kd,ob,ps,da⟩:=o
 have hm:Hid _:=isOp_is ⟨cl,sq,kd,ob,ps,da⟩
 generalize isOpM ⟨cl,sq,kd,ob,ps,da⟩ = m at hm ⊢
 have hO:=Has.new w 39 (opC ⟨cl,sq,kd,ob,ps,da⟩)
 have hb0:=(Below.refl w.heap.size w).alloc (Nat.le_refl _) (.cells (opC ⟨cl,sq,kd,ob,ps,da⟩) 39)
 obtain ⟨w0,hw0⟩:∃ W,w.alloc (.cells (opC ⟨cl,sq,kd,ob,ps,da⟩) 39) = W:=⟨_,rfl⟩
 have hs0:w0.heap.size = w.heap.size + 1:=by rw [← hw0];simp
 rw [hw0] at hO hb0
 obtain ⟨w2,hw2⟩:∃ W,(w0.alloc (.cells (opC op0) 39)).setRow (w.heap.size + 1) (opC ⟨cl,sq,kd,ob,0,[]⟩) = W:=⟨_,rfl⟩
 have hN:Has (w0.alloc (.cells (opC op0) 39)) (w.heap.size + 1) 39 (opC op0):=hs0 ▸ Has.new w0 39 (opC op0)
 have hB2:Has w2 (w.heap.size + 1) 39 (opC ⟨cl,sq,kd,ob,0,[]⟩):=hw2 ▸ hN.row _
 have hO2:Has w2 w.heap.size 39 (opC ⟨cl,sq,kd,ob,ps,da⟩):=hw2 ▸ (hO.alloc _).row_other (by omega) _
 have hb2:Below w.heap.size w w2:=hw2 ▸ below_setRow (hb0.alloc (by omega) _) (by omega) _
 obtain ⟨w3,hw3⟩:∃ W,w2.setCell ⟨w.heap.size + 1,4,none⟩ (.int .u8 (ps:Int)) = W:=⟨_,rfl⟩
 have hB3:Has w3 (w.heap.size + 1) 39 (opC ⟨cl,sq,kd,ob,ps,[]⟩):=hw3 ▸ hB2.set 4 (.int .u8 (ps:Int))
 have hO3:Has w3 w.heap.size 39 (opC ⟨cl,sq,kd,ob,ps,da⟩):=hw3 ▸ hO2.set_other (a:=⟨w.heap.size + 1,4,none⟩) (show w.heap.size ≠ w.heap.size + 1 by omega) _
 have hb3:Below w.heap.size w w3:=hw3 ▸ hb2.setCell (show w.heap.size ≤ (⟨w.heap.size + 1,4,none⟩:Addr).block by show _ ≤ w.heap.size + 1;omega) _
 have k1:OpOk ⟨cl,sq,kd,ob,0,[]⟩:=⟨h.client,h.seq,h.kind,h.obj,by show 0 < 256;decide,by show 0 ≤ _;decide⟩
 have k2:OpOk ⟨cl,sq,kd,ob,ps,[]⟩:=⟨h.client,h.seq,h.kind,h.obj,h.pos,by show 0 ≤ _;decide⟩
 have e1:=eq_op _ _ h k1
 have e2:=eq_op _ _ h k2
 have q1:Hid _:=same_bare (cl:=cl) (sq:=sq) (kd:=kd) (ob:=ob) (p:=ps) (d:=da) 0
 have q2:Hid _:=same_bare (cl:=cl) (sq:=sq) (kd:=kd) (ob:=ob) (p:=ps) (d:=da) ps
 obtain ⟨h1,h2,h3,h4,h5,h6⟩:=h
 simp only at h1 h2 h3 h4 h5 h6
 generalize sameOp ⟨cl,sq,kd,ob,ps,da⟩ ⟨cl,sq,kd,ob,0,[]⟩ = s1 at *
 generalize sameOp ⟨cl,sq,kd,ob,ps,da⟩ ⟨cl,sq,kd,ob,ps,[]⟩ = s2 at *
 have hs:=xde da
 have hd0:Hid (da = [] ↔ da.length = 0):=List.length_eq_zero_iff.symm
 have c0:w0.cell? ⟨w.heap.size,0,none⟩ = some (.int .u8 (cl:Int)):=(hO.cell 0).trans rfl
 have c1:w0.cell? ⟨w.heap.size,1,none⟩ = some (.int .u32 (sq:Int)):=(hO.cell 1).trans rfl
 have c2:w0.cell? ⟨w.heap.size,2,none⟩ = some (.int .u8 (kd:Int)):=(hO.cell 2).trans rfl
 have c3:w0.cell? ⟨w.heap.size,3,none⟩ = some (.int .u8 (ob:Int)):=(hO.cell 3).trans rfl
 have d2:w2.cell? ⟨w.heap.size,2,none⟩ = some (.int .u8 (kd:Int)):=(hO2.cell 2).trans rfl
 have d4:w2.cell? ⟨w.heap.size,4,none⟩ = some (.int .u8 (ps:Int)):=(hO2.cell 4).trans rfl
 have d5:w2.cell? ⟨w.heap.size,5,none⟩ = some (.string (mkS da)):=(hO2.cell 5).trans rfl
 have x4:w2.cell? ⟨w.heap.size + 1,4,none⟩ = some (.int .u8 0):=(hB2.cell 4).trans rfl
 have x4f:=hB2.free 4
 go_enter Tryz.func117,Tryz.ntmps117
 go_wp2_with (first
  | (refine wpList_build_four (by rfl) 39 0 1 2 3 _ _ _ _ rfl (.int .u8 (cl:Int)) (.int .u32 (sq:Int)) (.int .u8 (kd:Int)) (.int .u8 (ob:Int)) rfl rfl rfl rfl (opC ⟨cl,sq,kd,ob,0,[]⟩) (bare_built cl sq kd ob) ?_)
  | (refine xac (by rfl) 39 rfl (opC op0) op_zero ?_;rw [hs0])
  | (refine xai (by rfl) 39 _ _ rfl (w.heap.size + 1) rfl (opC ⟨cl,sq,kd,ob,0,[]⟩) rfl 39 (opC op0) (xca ⟨cl,sq,kd,ob,0,[]⟩) rfl (op_one ⟨cl,sq,kd,ob,0,[]⟩) ?hg w2 ?hW ?_;(case hg=>exact hN);(case hW=>exact hw2))
  | (refine xab (by rfl) 39 _ rfl w.heap.size rfl 39 (opC ⟨cl,sq,kd,ob,ps,da⟩) _ Tryz.underlying39 rfl (xca _) ?hg ?_;(case hg=>first | exact hO2 | exact hO3))
  | (refine xab (by rfl) 39 _ rfl (w.heap.size + 1) rfl 39 (opC ⟨cl,sq,kd,ob,0,[]⟩) _ Tryz.underlying39 rfl (xca _) ?hg ?_;(case hg=>exact hB2))
  | (refine xab (by rfl) 39 _ rfl (w.heap.size + 1) rfl 39 (opC ⟨cl,sq,kd,ob,ps,[]⟩) _ Tryz.underlying39 rfl (xca _) ?hg ?_;(case hg=>exact hB3))
  | (refine xbc (by rfl) .eql 39 _ _ _ rfl (opC ⟨cl,sq,kd,ob,ps,da⟩) (opC ⟨cl,sq,kd,ob,0,[]⟩) rfl rfl (.bool s1) xgq ?hg ?_;(case hg=>exact e1 _))
  | (refine xbc (by rfl) .eql 39 _ _ _ rfl (opC ⟨cl,sq,kd,ob,ps,da⟩) (opC ⟨cl,sq,kd,ob,ps,[]⟩) rfl rfl (.bool s2) xgq ?hg ?_;(case hg=>exact e2 _)))
 all_goals
  go_ret
  refine ⟨retB ?_,by first | exact hb0 | exact hb2 | exact hb3⟩
  replace hm:=hm.out
  replace q1:=q1.out
  replace q2:=q2.out
  rw [hd0.out] at hm
  rw [Bool.eq_iff_iff,hm]
  try rw [q1]
  try rw [q2]
  clear q1 q2 hd0
  generalize da.length = n at *
  simp only [bne_iff_ne,bne_eq_false_iff_eq,beq_iff_eq,beq_eq_false_iff_ne,ne_eq,Bool.not_eq_true',Bool.not_eq_false',decide_eq_true_iff,decide_eq_false_iff_not,Bool.false_eq_true,true_and] at *
  try simp
  omega
set_option maxHeartbeats 1000000 in
theorem writes_any (o:OpV) (w:World) (h:OpOk o) :
  Calls Tryz.prog 116 #[.agg (opC o)] w fun e w'=>e = .returned (.bool (xdz o)) ∧ Below w.heap.size w w':=by
 have hO:=Has.new w 39 (opC o)
 have hb0:=(Below.refl w.heap.size w).alloc (Nat.le_refl _) (.cells (opC o) 39)
 have hm:=writes_is o
 have hk:=h.kind
 go_enter Tryz.func116,Tryz.ntmps116
 go_wp2_with (first
  | (refine xab (by rfl) 39 _ rfl w.heap.size rfl 39 (opC o) _ Tryz.underlying39 rfl (xca o) ?hg ?_;(case hg=>exact hO)))
 refine (isop_any o _ h).mono ?_
 rintro e w1 ⟨rfl,hq⟩
 replace hO:=hO.later hq
 replace hb0:=hb0.trans (hq.mono hb0.size)
 have c2:w1.cell? ⟨w.heap.size,2,none⟩ = some (.int .u8 (o.kind:Int)):=(hO.cell 2).trans rfl
 clear hq hO
 cases hi:isOpM o with
 | false =>
  have hr:xdz o = false:=by unfold xdz;rw [hi];rfl
  go_wp2
  go_ret
  exact ⟨by rw [hr];rfl,hb0⟩
 | true =>
  have hm':Hid _:=hm
  clear hm
  go_wp2
  go_ret
  refine ⟨retB ?_,hb0⟩
  rw [Bool.eq_iff_iff,hm'.out]
  simp [hi]
  omega
end Go.Proofs.YtecilienolabfaaGreatDoor
