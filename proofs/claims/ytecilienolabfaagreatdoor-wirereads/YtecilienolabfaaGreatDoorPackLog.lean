/- Several texts in one, in build order: LogMath, LogFacts, LogMem, LogEq, LogSmall, LogBase, LogIs. -/
import Derived.Test.YtecilienolabfaaGreatDoorPackObj
import Derived.Test.YtecilienolabfaaGreatDoorPackTools
import Derived.DeepKeys
import Derived.Laws.StructEq
/- LogMath: Entries and states as mathematics, the cells that they are, and what the document asks of them (layer 7). -/
namespace Go.Proofs.YtecilienolabfaaGreatDoor
set_option linter.unusedSimpArgs false
set_option linter.unusedVariables false
open Go.RowKit
structure EntV where
 since:Nat
 n:Nat
 op:OpV
structure StV where
 started:Nat
 base:BaseV
 tail:EntV
 log:List EntV
def entL (e:EntV):List Value:=.int .u32 (e.since:Int) :: .int .u32 (e.n:Int) :: opL e.op
def entC (e:EntV):Array Value:=(entL e).toArray
def entR (l:List EntV):List (List Value):=l.map entL
def stL (s:StV) (ao:Option Addr) (c:Nat):List Value:=.int .u32 (s.started:Int) :: (baseL s.base ++ (entL s.tail ++ [.slice ao s.log.length c]))
def stC (s:StV) (ao:Option Addr) (c:Nat):Array Value:=(stL s ao c).toArray
def ent0:EntV:=⟨0,0,op0⟩
def st0:StV:=⟨0,base0,ent0,[]⟩
structure EntOk (e:EntV):Prop where
 since:e.since < 4294967296
 n:e.n < 4294967296
 op:OpOk e.op
structure BaseIn (b:BaseV):Prop where
 seq:∀ i,(b.last i).seq < 4294967296
 code:∀ i,(b.last i).r.code < 256
 rdata:∀ i,(b.last i).r.data.length ≤ 9223372036854775807
 data:∀ i,(b.obj i).data.length ≤ 9223372036854775807
 a0:∀ i,(b.obj i).a0.length ≤ 9223372036854775807
 a1:∀ i,(b.obj i).a1.length ≤ 9223372036854775807
 a2:∀ i,(b.obj i).a2.length ≤ 9223372036854775807
theorem BaseOk.in' {b:BaseV} (h:BaseOk b):BaseIn b :=
 ⟨h.seq,h.code,h.rdata,fun i=>by have:=h.data i;omega,fun i=>by have:=h.a0 i;omega,fun i=>by have:=h.a1 i;omega,fun i=>by have:=h.a2 i;omega⟩
structure StOk (s:StV):Prop where
 started:s.started < 4294967296
 base:BaseIn s.base
 tail:EntOk s.tail
 log:∀ e ∈ s.log,EntOk e
 len:s.log.length ≤ 1000
def isObjM (x:ObjV):Bool:=decide ((x.there = false → x.data = [] ∧ x.a0 = [] ∧ x.a1 = [] ∧ x.a2 = []) ∧ x.data.length ≤ 16 ∧ x.a0.length ≤ 16 ∧ x.a1.length ≤ 16 ∧ x.a2.length ≤ 16)
def xec (l:LastV):Bool:=decide (l.r.data = [] ∧ l.r.code ≤ 3 ∧ (l.seq = 0 → l.r.code = 0))
def xdu (b:BaseV):Bool:=decide (∀ i:Fin 6,isObjM (b.obj i) = true) && decide (∀ i:Fin 3,xec (b.last i) = true)
def xfl (o:OpV):Bool:=decide (o.client = 0 ∧ o.seq = 0 ∧ o.kind = 0 ∧ o.obj = 0 ∧ o.pos = 0 ∧ o.data = [])
def xgi (t:EntV):Bool:=decide (t.since ≤ 60) && xfl t.op
def xdf (p e:EntV):Bool:=xdz e.op && decide (e.n = p.n + 1 ∧ p.since ≤ e.since ∧ e.since ≤ 60)
def posE (e:EntV):EntV:=⟨e.since,e.n,op0⟩
def lastE (t:EntV) (l:List EntV):EntV:=match l.getLast? with
 | none=>t
 | some e=>posE e
def chainM:EntV → List EntV → Bool
 | _,[]=>true
 | p,e :: l=>xdf p e && chainM (posE e) l
def isLogM (t:EntV) (l:List EntV):Bool:=decide (l.length ≤ 6) && chainM t l
def isSt (s:StV):Bool:=decide (s.started ≤ 60) && (xgi s.tail && (xdu s.base && isLogM s.tail s.log))
theorem xgy (t:EntV) (l:List EntV) (e:EntV):lastE t (l ++ [e]) = posE e:=by
 unfold lastE
 rw [List.getLast?_append]
 rfl
theorem lastE_cons (t e:EntV) (l:List EntV):lastE t (e :: l) = lastE (posE e) l:=by
 induction l using snoc_ind with
 | h0=>rfl
 | h1 l x ih=>rw [xgy,← List.cons_append,xgy]
theorem chain_snoc (p:EntV) (l:List EntV) (e:EntV):chainM p (l ++ [e]) = (chainM p l && xdf (lastE p l) e):=by
 induction l generalizing p with
 | nil=>show (xdf p e && true) = (true && xdf p e);rw [Bool.and_true,Bool.true_and]
 | cons x l ih =>
  show (xdf p x && chainM (posE x) (l ++ [e])) = (xdf p x && chainM (posE x) l && xdf (lastE p (x :: l)) e)
  rw [ih,lastE_cons,Bool.and_assoc]
theorem chain_app (p:EntV) (a b:List EntV):chainM p (a ++ b) = (chainM p a && chainM (lastE p a) b):=by
 induction a generalizing p with
 | nil=>rfl
 | cons x a ih =>
  show (xdf p x && chainM (posE x) (a ++ b)) = (xdf p x && chainM (posE x) a && chainM (lastE p (x :: a)) b)
  rw [ih,lastE_cons,Bool.and_assoc]
theorem xhb {p e:EntV}:xdf p e = true ↔ xdz e.op = true ∧ e.n = p.n + 1 ∧ p.since ≤ e.since ∧ e.since ≤ 60:=by
 unfold xdf
 rw [Bool.and_eq_true,decide_eq_true_iff]
theorem is_is (s:StV):isSt s = true ↔ s.started ≤ 60 ∧ xgi s.tail = true ∧ xdu s.base = true ∧ s.log.length ≤ 6 ∧ chainM s.tail s.log = true:=by
 unfold isSt isLogM
 simp only [Bool.and_eq_true,decide_eq_true_iff]
theorem isBase_is (b:BaseV):xdu b = true ↔ (∀ i,isObjM (b.obj i) = true) ∧ ∀ i,xec (b.last i) = true:=by
 unfold xdu
 simp only [Bool.and_eq_true,decide_eq_true_iff]
theorem isObj_is (x:ObjV):isObjM x = true ↔ ((x.there = false → x.data = [] ∧ x.a0 = [] ∧ x.a1 = [] ∧ x.a2 = []) ∧ x.data.length ≤ 16 ∧ x.a0.length ≤ 16 ∧ x.a1.length ≤ 16 ∧ x.a2.length ≤ 16):=by
 unfold isObjM
 rw [decide_eq_true_iff]
theorem xgj (l:LastV):xec l = true ↔ (l.r.data = [] ∧ l.r.code ≤ 3 ∧ (l.seq = 0 → l.r.code = 0)):=by
 unfold xec
 rw [decide_eq_true_iff]
theorem isZero_is (o:OpV):xfl o = true ↔ o = op0:=by
 unfold xfl
 rw [decide_eq_true_iff]
 obtain ⟨a,b,c,d,e,f⟩:=o
 simp [op0]
theorem isTail_is (t:EntV):xgi t = true ↔ t.since ≤ 60 ∧ t.op = op0:=by
 unfold xgi
 rw [Bool.and_eq_true,decide_eq_true_iff,isZero_is]
end Go.Proofs.YtecilienolabfaaGreatDoor
/- LogFacts: What comes of states: rows of operations as states, cutting, folding, adding; that what is added, cut, folded is a state. -/
namespace Go.Proofs.YtecilienolabfaaGreatDoor
set_option linter.unusedSimpArgs false
set_option linter.unusedVariables false
open Go.RowKit
theorem op0_ok:OpOk op0:=⟨by decide,by decide,by decide,by decide,by decide,by decide⟩
section
variable {q:Nat} {D:List OpV} {k:Nat}
end
end Go.Proofs.YtecilienolabfaaGreatDoor
/- LogMem: States and entries in variables: the laws of Mem at this seat's types; slices of entries, cut. -/
namespace Go.Proofs.YtecilienolabfaaGreatDoor
set_option linter.unusedSimpArgs false
set_option linter.unusedVariables false
set_option maxRecDepth 100000
open Go.RowKit
theorem xax (e:EntV):(Tryz.prog.info? 41).map (·.size) = some (entC e).size:=by show _ = some 8;kernel_rfl
theorem xcg (s:StV) (ao:Option Addr) (c:Nat):(Tryz.prog.info? 44).map (·.size) = some (stC s ao c).size:=by show _ = some 49;kernel_rfl
theorem st_same (s t:StV) (ao bo:Option Addr) (c d:Nat):(stC s ao c).size = (stC t bo d).size:=rfl
theorem xff:(Tryz.prog.info? 41).map (·.zero) = some (some (.agg (entC ent0))):=by kernel_rfl
theorem st_zero:(Tryz.prog.info? 44).map (·.zero) = some (some (.agg (stC st0 none 0))):=by kernel_rfl
theorem pos_built (a b:Nat):Tryz.prog.built 41 [(0,.int .u32 (a:Int)),(1,.int .u32 (b:Int))] = some (entC ⟨a,b,op0⟩):=by kernel_rfl
theorem entL_one (e:EntV):∀ u ∈ entL e,u.oneCell' = true:=by
 intro u hu
 simp [entL,opL,strV] at hu
 rcases hu with rfl | rfl | rfl | rfl | rfl | rfl | rfl | rfl <;> rfl
theorem xet (e:EntV):(entC e).all (·.oneCell') = true:=all_oneCell_toArray (entL_one e)
theorem baseL_one (b:BaseV):∀ u ∈ baseL b,u.oneCell' = true:=by
 intro u hu
 have h:=base_one b
 unfold baseC at h
 simp only [List.all_toArray,List.all_eq_true] at h
 exact h u hu
theorem st_one (s:StV) (ao:Option Addr) (c:Nat):(stC s ao c).all (·.oneCell') = true:=by
 refine all_oneCell_toArray ?_
 intro u hu
 unfold stL at hu
 rcases List.mem_cons.1 hu with rfl | hu
 ·rfl
 ·rcases List.mem_append.1 hu with hu | hu
  ·exact baseL_one _ u hu
  ·rcases List.mem_append.1 hu with hu | hu
   ·exact entL_one _ u hu
   ·rw [List.mem_singleton.1 hu];rfl
def putAt (l:List Value) (k:Nat) (vs:List Value):List Value:=l.take k ++ (vs ++ l.drop (k + vs.length))
theorem putAt_mid (A X B vs:List Value) (k:Nat) (hk:k = A.length) (h:X.length = vs.length):putAt (A ++ (X ++ B)) k vs = A ++ (vs ++ B):=by
 subst hk
 unfold putAt
 rw [List.take_left,← h,← List.append_assoc A X B,← List.length_append,List.drop_left]
theorem putAt_cons (l:List Value) (k:Nat) (v:Value) (vs:List Value) (h:k < l.length):putAt (l.set k v) (k + 1) vs = putAt l k (v :: vs):=by
 unfold putAt
 have e1:(l.set k v).take (k + 1) = l.take k ++ [v]:=by
  rw [List.take_succ_eq_append_getElem (by rw [List.length_set];exact h),List.take_set_of_le (Nat.le_refl _)]
  simp
 have e2:(l.set k v).drop (k + 1 + vs.length) = l.drop (k + (v :: vs).length):=by
  rw [List.drop_set_of_lt (by omega),List.length_cons,show k + 1 + vs.length = k + (vs.length + 1) by omega]
 rw [e1,e2,List.append_assoc]
 rfl
theorem Has.putCells {w:World} {g:Nat} {t:TypeId} {l:List Value} (h:Has w g t l.toArray) (vs:List Value) (k:Nat) (hk:k + vs.length ≤ l.length):Has (w.setCells g k vs) g t (putAt l k vs).toArray:=by
 induction vs generalizing w k l with
 | nil =>
  have e:putAt l k [] = l:=by unfold putAt;simp
  rw [e]
  exact h
 | cons v vs ih =>
  have h1:=h.set k v
  rw [List.setIfInBounds_toArray] at h1
  rw [List.length_cons] at hk
  have:=ih h1 (k + 1) (by rw [List.length_set];omega)
  rw [putAt_cons l k v vs (by omega)] at this
  exact this
theorem baseL_len (b:BaseV):(baseL b).length = 39:=rfl
theorem entL_len (e:EntV):(entL e).length = 8:=rfl
section
variable {w:World} {g:Nat} {s:StV} {ao:Option Addr} {c:Nat}
theorem Has.st_started (h:Has w g 44 (stC s ao c)):w.cell? ⟨g,0,none⟩ = some (.int .u32 (s.started:Int)):=(h.cell 0).trans rfl
theorem Has.st_base (h:Has w g 44 (stC s ao c)):w.rangeAt g 1 (baseL s.base):=h.range _ _ fun j v hj=>by
 have hl:j < 39:=(List.getElem?_eq_some_iff.1 hj).1
 unfold stC stL
 rw [List.getElem?_toArray,show 1 + j = j + 1 by omega,List.getElem?_cons_succ,List.getElem?_append_left (show j < (baseL s.base).length from hl)]
 exact hj
theorem stC_tail (j:Nat) (hj:j < 8):(stC s ao c)[40 + j]? = (entL s.tail)[j]?:=by
 unfold stC stL
 rw [List.getElem?_toArray,show 40 + j = (39 + j) + 1 by omega,List.getElem?_cons_succ,List.getElem?_append_right (by rw [baseL_len];omega),baseL_len,show 39 + j - 39 = j by omega,List.getElem?_append_left (by rw [entL_len];exact hj)]
theorem Has.st_tail (h:Has w g 44 (stC s ao c)):w.rangeAt g 40 (entL s.tail):=h.range _ _ fun j v hj=>by
 have hl:j < 8:=(List.getElem?_eq_some_iff.1 hj).1
 rw [stC_tail j hl]
 exact hj
theorem Has.st_tail_since (h:Has w g 44 (stC s ao c)):w.cell? ⟨g,40,none⟩ = some (.int .u32 (s.tail.since:Int)):=(h.cell 40).trans (stC_tail (s:=s) (ao:=ao) (c:=c) 0 (by decide))
theorem Has.st_tail_n (h:Has w g 44 (stC s ao c)):w.cell? ⟨g,41,none⟩ = some (.int .u32 (s.tail.n:Int)):=(h.cell 41).trans (stC_tail (s:=s) (ao:=ao) (c:=c) 1 (by decide))
theorem Has.st_log (h:Has w g 44 (stC s ao c)):w.cell? ⟨g,48,none⟩ = some (.slice ao s.log.length c):=(h.cell 48).trans (by
 unfold stC stL
 rw [List.getElem?_toArray,List.getElem?_cons_succ,List.getElem?_append_right (by rw [baseL_len];omega),baseL_len,List.getElem?_append_right (by rw [entL_len];omega),entL_len]
 rfl)
theorem Has.ent_since {e:EntV} (h:Has w g 41 (entC e)):w.cell? ⟨g,0,none⟩ = some (.int .u32 (e.since:Int)):=(h.cell 0).trans rfl
theorem Has.ent_n {e:EntV} (h:Has w g 41 (entC e)):w.cell? ⟨g,1,none⟩ = some (.int .u32 (e.n:Int)):=(h.cell 1).trans rfl
theorem Has.ent_op {e:EntV} (h:Has w g 41 (entC e)):w.rangeAt g 2 (opL e.op):=h.range _ _ fun j v hj=>by
 unfold entC entL
 rw [List.getElem?_toArray,show 2 + j = j + 1 + 1 by omega,List.getElem?_cons_succ,List.getElem?_cons_succ]
 exact hj
end
theorem ent_at {w:World} {ad:Addr} {c:Nat} {l:List EntV} (h:Sl w (some ad) c 8 (entR l)) (i:Nat) (hi:i < l.length) :
  ∀ j v,(entL l[i])[j]? = some v → w.cell? ((ad.add (i * 8)).add j) = some v:=by
 intro j v hj
 have hj8:j < 8:=(List.getElem?_eq_some_iff.1 hj).1
 have h0:=h.at' ad rfl i (by unfold entR;rw [List.length_map];exact hi) j hj8
 unfold entR at h0
 rw [List.getElem_map,hj] at h0
 rw [Go.Deep.add_add]
 exact h0
theorem xgr (l:List EntV):(entR l).length = l.length:=by unfold entR;rw [List.length_map]
theorem Sl.ent_le {w:World} {ao:Option Addr} {c:Nat} {l:List EntV} (h:Sl w ao c 8 (entR l)):l.length ≤ c:=by have:=h.le;rw [xgr] at this;exact this
theorem Sl.take {w:World} {ao:Option Addr} {c:Nat} {l:List EntV} (h:Sl w ao c 8 (entR l)) (k:Nat):Sl w ao c 8 (entR (l.take k)):=by
 have hle:=h.ent_le
 refine ⟨by rw [xgr,List.length_take];omega,h.cap,h.nil,?_,fun ad had i hi j hj=>?_⟩
 ·intro r hr
  obtain ⟨x,_,rfl⟩:=List.mem_map.1 hr
  rfl
 ·rw [xgr,List.length_take] at hi
  have:=h.at' ad had i (by rw [xgr];omega) j hj
  rw [this]
  unfold entR
  simp
section
variable {w:World}
theorem ents_elem:Tryz.prog.elem 42 = 41:=by kernel_rfl
theorem ents_under:Tryz.prog.underlying 42 = some (.slice (Tryz.prog.elem 42)):=by rw [ents_elem];exact Tryz.underlying42
theorem ent_sizeOf (w:World):(sizeOf 41).run Tryz.prog w = .ok 8 w:=by
 have h:(Tryz.prog.info? 41).map (·.size) = some 8:=by kernel_rfl
 cases hq:Tryz.prog.info? 41 with
 | none=>simp [hq] at h
 | some i =>
  have hs:i.size = 8:=by simpa [hq] using h
  simp [sizeOf,typeInfo,hq,hs,Sem.run_bind]
theorem run_head (w:World) (ao:Option Addr) (n c k:Nat) (h:k ≤ c):(Instr.slice 42 (.slice ao n c) none (some (.int .i64 (k:Int))) none).run Tryz.prog w = .ok (.slice ao k c) w:=by
 rw [run_slice_h w 42 ao n c ents_under .i64 (k:Int) (by omega) (by omega),ents_elem,ent_sizeOf]
 have e:(ao.map (fun x:Addr=>x.add 0)) = ao:=by
  cases ao with
  | none=>rfl
  | some a=>exact congrArg some (by unfold Addr.add;split <;> simp_all)
 simp [sliced,Result.andThen,e]
end
theorem Sl.row_other {w:World} {ao:Option Addr} {c sz:Nat} {rows:List (List Value)} (h:Sl w ao c sz rows) {k:Nat} (hk:∀ d,ao = some d → d.block ≠ k) (c':Array Value):Sl (w.setRow k c') ao c sz rows:=by
 refine ⟨h.le,h.cap,h.nil,h.each,fun ad had i hi j hj=>?_⟩
 have hc:=h.at' ad had i hi j hj
 rw [← hc]
 have hb:(ad.add (i * sz + j)).block = ad.block:=by simp [Addr.add];split <;> rfl
 have hne:(ad.add (i * sz + j)).block ≠ k:=by rw [hb];exact hk ad had
 unfold World.cell?
 rw [setRow_other w k _ c' hne]
theorem Sl.cell_other {w:World} {ao:Option Addr} {c sz:Nat} {rows:List (List Value)} (h:Sl w ao c sz rows) {a:Addr} (hk:∀ d,ao = some d → d.block ≠ a.block) (v:Value):Sl (w.setCell a v) ao c sz rows:=by
 refine ⟨h.le,h.cap,h.nil,h.each,fun ad had i hi j hj=>?_⟩
 have hc:=h.at' ad had i hi j hj
 rw [← hc]
 have hb:(ad.add (i * sz + j)).block = ad.block:=by simp [Addr.add];split <;> rfl
 have hne:(ad.add (i * sz + j)).block ≠ a.block:=by rw [hb];exact hk ad had
 unfold World.cell?
 rw [Below.heap_setCell w a v _ hne]
theorem Sl.cells_other {sz c:Nat} {rows:List (List Value)} {ao:Option Addr} {k:Nat} (hk:∀ d,ao = some d → d.block ≠ k):∀ (vs:List Value) (o:Nat) {w:World},Sl w ao c sz rows → Sl (w.setCells k o vs) ao c sz rows:=by
 intro vs
 induction vs with
 | nil=>intro o w h;exact h
 | cons v vs ih=>intro o w h;exact ih (o + 1) (h.cell_other (a:=⟨k,o,none⟩) hk v)
end Go.Proofs.YtecilienolabfaaGreatDoor
/- LogEq: '==' and '!=' of bases, objects, last ones, results, entries, whatever they are: true just if nothing in them is unlike. -/
namespace Go.Proofs.YtecilienolabfaaGreatDoor
set_option linter.unusedSimpArgs false
set_option linter.unusedVariables false
set_option maxRecDepth 100000
open Go.RowKit
def litV:Lit → Value
 | .int k n=>.int k n
 | .string l=>strV l
 | .bool b=>.bool b
 | _=>undef
def Keyed (D:Nat) (t:TypeId) (cs:List Value):Prop:=∃ K,Tryz.prog.keyLits D t cs = some K ∧ K.map litV = cs
theorem keyed_str (l:List UInt8) (h:l.length ≤ 9223372036854775807) (D:Nat):Keyed (D + 1) 9 [strV l]:=⟨_,str_lits l h D,rfl⟩
theorem keyed_u8 (n:Nat) (h:n < 256) (D:Nat):Keyed (D + 1) 5 [.int .u8 (n:Int)]:=by
 have w0:=wfo_u8 h
 refine ⟨[.int .u8 (n:Int)],?_,rfl⟩
 unfold Program.keyLits
 rw [Tryz.underlying5]
 simp [w0]
theorem keyed_u32 (n:Nat) (h:n < 4294967296) (D:Nat):Keyed (D + 1) 22 [.int .u32 (n:Int)]:=by
 have w0:=wfo_u32 h
 refine ⟨[.int .u32 (n:Int)],?_,rfl⟩
 unfold Program.keyLits
 rw [Tryz.underlying22]
 simp [w0]
theorem keyed_bool (b:Bool) (D:Nat):Keyed (D + 1) 4 [.bool b]:=by
 refine ⟨[.bool b],?_,rfl⟩
 unfold Program.keyLits
 rw [Tryz.underlying4]
theorem keyed_res (r:ResV) (h1:r.code < 256) (h2:r.data.length ≤ 9223372036854775807) (D:Nat):Keyed (D + 2) 32 (resL r):=by
 obtain ⟨K0,e0,m0⟩:=keyed_u8 r.code h1 D
 obtain ⟨K1,e1,m1⟩:=keyed_str r.data h2 D
 refine ⟨K0 ++ K1,?_,by rw [List.map_append,m0,m1];rfl⟩
 unfold Program.keyLits
 rw [Tryz.underlying32]
 simp [resL,co_res,co_u8,co_string,e0,e1]
theorem xgz (l:LastV) (h0:l.seq < 4294967296) (h1:l.r.code < 256) (h2:l.r.data.length ≤ 9223372036854775807) (D:Nat):Keyed (D + 3) 34 (lastL l):=by
 obtain ⟨K0,e0,m0⟩:=keyed_u32 l.seq h0 (D + 1)
 obtain ⟨K1,e1,m1⟩:=keyed_res l.r h1 h2 D
 refine ⟨K0 ++ K1,?_,by rw [List.map_append,m0,m1];rfl⟩
 have e1:Tryz.prog.keyLits (D + 2) 32 [.int .u8 (l.r.code:Int),strV l.r.data] = some K1:=e1
 unfold Program.keyLits
 rw [Tryz.underlying34]
 simp [lastL,resL,co_last,co_u32,co_res,e0,e1]
structure ObjIn (x:ObjV):Prop where
 data:x.data.length ≤ 9223372036854775807
 a0:x.a0.length ≤ 9223372036854775807
 a1:x.a1.length ≤ 9223372036854775807
 a2:x.a2.length ≤ 9223372036854775807
structure LastIn (l:LastV):Prop where
 seq:l.seq < 4294967296
 code:l.r.code < 256
 rdata:l.r.data.length ≤ 9223372036854775807
theorem BaseIn.obj {b:BaseV} (h:BaseIn b) (i:Fin 6):ObjIn (b.obj i):=⟨h.data i,h.a0 i,h.a1 i,h.a2 i⟩
theorem BaseIn.last {b:BaseV} (h:BaseIn b) (i:Fin 3):LastIn (b.last i):=⟨h.seq i,h.code i,h.rdata i⟩
theorem xeo (x:ObjV) (h:ObjIn x) (D:Nat):Keyed (D + 3) 29 (objL x):=by
 obtain ⟨Kb,eb,mb⟩:=keyed_bool x.there (D + 1)
 obtain ⟨Kd,ed,md⟩:=keyed_str x.data h.data (D + 1)
 obtain ⟨K0,e0,m0⟩:=keyed_str x.a0 h.a0 D
 obtain ⟨K1,e1,m1⟩:=keyed_str x.a1 h.a1 D
 obtain ⟨K2,e2,m2⟩:=keyed_str x.a2 h.a2 D
 have ea:Tryz.prog.keyLits (D + 2) 27 [strV x.a0,strV x.a1,strV x.a2] = some (K0 ++ (K1 ++ K2)):=by
  unfold Program.keyLits
  rw [Tryz.underlying27]
  simp [co_attrs,co_string,show List.range 3 = [0,1,2] from rfl,e0,e1,e2]
 refine ⟨Kb ++ (Kd ++ (K0 ++ (K1 ++ K2))),?_,by rw [List.map_append,List.map_append,List.map_append,List.map_append,mb,md,m0,m1,m2];rfl⟩
 unfold Program.keyLits
 rw [Tryz.underlying29]
 simp [objL,co_obj,co_bool,co_string,co_attrs,eb,ed,ea]
theorem keyed_op (o:OpV) (h:OpOk o) (D:Nat):Keyed (D + 2) 39 (opL o):=⟨_,op_lits o h D,rfl⟩
theorem co_ent:Tryz.prog.cellsOf 41 = 8:=by kernel_rfl
theorem co_op':Tryz.prog.cellsOf 39 = 6:=by kernel_rfl
theorem keyed_ent (e:EntV) (h:EntOk e) (D:Nat):Keyed (D + 3) 41 (entL e):=by
 obtain ⟨K0,e0,m0⟩:=keyed_u32 e.since h.since (D + 1)
 obtain ⟨K1,e1,m1⟩:=keyed_u32 e.n h.n (D + 1)
 obtain ⟨K2,e2,m2⟩:=keyed_op e.op h.op D
 refine ⟨K0 ++ (K1 ++ K2),?_,by rw [List.map_append,List.map_append,m0,m1,m2];rfl⟩
 have e2:Tryz.prog.keyLits (D + 2) 39 [.int .u8 (e.op.client:Int),.int .u32 (e.op.seq:Int),.int .u8 (e.op.kind:Int),.int .u8 (e.op.obj:Int),.int .u8 (e.op.pos:Int),strV e.op.data] = some K2:=e2
 unfold Program.keyLits
 rw [Tryz.underlying41]
 simp [entL,opL,co_ent,co_op',co_u32,e0,e1,e2]
theorem keyed_objs (f:Fin 6 → ObjV) (h:∀ i,ObjIn (f i)):Keyed 7 30 (objsL f):=by
 obtain ⟨K0,e0,m0⟩:=xeo (f 0) (h 0) 3
 obtain ⟨K1,e1,m1⟩:=xeo (f 1) (h 1) 3
 obtain ⟨K2,e2,m2⟩:=xeo (f 2) (h 2) 3
 obtain ⟨K3,e3,m3⟩:=xeo (f 3) (h 3) 3
 obtain ⟨K4,e4,m4⟩:=xeo (f 4) (h 4) 3
 obtain ⟨K5,e5,m5⟩:=xeo (f 5) (h 5) 3
 refine ⟨K0 ++ (K1 ++ (K2 ++ (K3 ++ (K4 ++ K5)))),?_,by rw [List.map_append,List.map_append,List.map_append,List.map_append,List.map_append,m0,m1,m2,m3,m4,m5];rfl⟩
 simp only [objL] at e0 e1 e2 e3 e4 e5
 unfold Program.keyLits
 rw [Tryz.underlying30]
 simp [objsL,objL,co_obj,co_objs,show List.range 6 = [0,1,2,3,4,5] from rfl,e0,e1,e2,e3,e4,e5]
theorem keyed_lasts (f:Fin 3 → LastV) (h:∀ i,LastIn (f i)):Keyed 7 35 (lastsL f):=by
 obtain ⟨K0,e0,m0⟩:=xgz (f 0) (h 0).seq (h 0).code (h 0).rdata 3
 obtain ⟨K1,e1,m1⟩:=xgz (f 1) (h 1).seq (h 1).code (h 1).rdata 3
 obtain ⟨K2,e2,m2⟩:=xgz (f 2) (h 2).seq (h 2).code (h 2).rdata 3
 refine ⟨K0 ++ (K1 ++ K2),?_,by rw [List.map_append,List.map_append,m0,m1,m2];rfl⟩
 simp only [lastL,resL] at e0 e1 e2
 unfold Program.keyLits
 rw [Tryz.underlying35]
 simp [lastsL,lastL,resL,co_last,co_lasts,show List.range 3 = [0,1,2] from rfl,e0,e1,e2]
theorem keyed_base (b:BaseV) (h:BaseIn b):Keyed 8 37 (baseL b):=by
 obtain ⟨K0,e0,m0⟩:=keyed_objs b.obj (fun i=>h.obj i)
 obtain ⟨K1,e1,m1⟩:=keyed_lasts b.last (fun i=>h.last i)
 refine ⟨K0 ++ K1,?_,by rw [List.map_append,m0,m1];rfl⟩
 have l0:(objsL b.obj).length = 30:=rfl
 have l1:(lastsL b.last).length = 9:=rfl
 unfold Program.keyLits baseL
 rw [Tryz.underlying37]
 generalize objsL b.obj = A at *
 generalize lastsL b.last = B at *
 have t0:(A ++ B).take 30 = A:=by rw [← l0,List.take_left]
 have t1:(A ++ B).drop 30 = B:=by rw [← l0,List.drop_left]
 have t2:B.take 9 = B:=List.take_of_length_le (by omega)
 simp [co_base,co_objs,co_lasts,l0,l1,t0,t1,t2,e0,e1]
theorem eq_keyed (t:TypeId) (c d:Array Value) (hk:Tryz.prog.keyTypeAt 8 t = true) (hc:(Value.agg c).formed Tryz.prog t = true) (hd:(Value.agg d).formed Tryz.prog t = true) (h1:Keyed 8 t c.toList) (h2:Keyed 8 t d.toList) (b:Bool) (hb:b = true ↔ c.toList = d.toList) (w:World) :
  (Op.equalIn 10000 t (.agg c) (.agg d)).run Tryz.prog w = .ok b w:=by
 obtain ⟨K,e,m⟩:=h1
 obtain ⟨L,f,n⟩:=h2
 obtain ⟨r,hr,hiff⟩:=run_equalIn_deep 9992 8 t hk w 8 8 (.agg c) (.agg d) K L hc hd e f
 have hs:r = b:=by
  rw [Bool.eq_iff_iff,hb]
  refine hiff.trans ⟨fun h=>by rw [← m,← n,h],fun h=>?_⟩
  rw [h,f] at e
  exact (Option.some.inj e).symm
 rw [← hs]
 exact hr
theorem eql_keyed (t:TypeId) (c d:Array Value) (hk:Tryz.prog.keyTypeAt 8 t = true) (hc:(Value.agg c).formed Tryz.prog t = true) (hd:(Value.agg d).formed Tryz.prog t = true) (h1:Keyed 8 t c.toList) (h2:Keyed 8 t d.toList) (b:Bool) (hb:b = true ↔ c.toList = d.toList) (w:World) :
  (binOp .eql t (.agg c) (.agg d)).run Tryz.prog w = .ok (.bool b) w:=by
 rw [run_eql_struct,eq_keyed t c d hk hc hd h1 h2 b hb w]
 rfl
theorem neql_keyed (t:TypeId) (c d:Array Value) (hk:Tryz.prog.keyTypeAt 8 t = true) (hc:(Value.agg c).formed Tryz.prog t = true) (hd:(Value.agg d).formed Tryz.prog t = true) (h1:Keyed 8 t c.toList) (h2:Keyed 8 t d.toList) (b:Bool) (hb:b = true ↔ c.toList = d.toList) (w:World) :
  (binOp .neq t (.agg c) (.agg d)).run Tryz.prog w = .ok (.bool (!b)) w:=by
 rw [run_neq_struct,eq_keyed t c d hk hc hd h1 h2 b hb w]
 rfl
structure Tests (α:Type) where
 f:α → α → Bool
 is:∀ a b,f a b = true ↔ a = b
def tOp:Tests OpV:=⟨sameOp,sameOp_is⟩
def tRes:Tests ResV:=⟨fun a b=>decide (a.code = b.code) && decide (a.data = b.data),fun a b=>by
 simp only [Bool.and_eq_true,decide_eq_true_iff]
 constructor
 ·rintro ⟨h1,h2⟩
  obtain ⟨c,d⟩:=a
  obtain ⟨c',d'⟩:=b
  simp_all
 ·rintro rfl
  exact ⟨rfl,rfl⟩⟩
def tLast:Tests LastV:=⟨fun a b=>decide (a.seq = b.seq) && tRes.f a.r b.r,fun a b=>by
 simp only [Bool.and_eq_true,decide_eq_true_iff,tRes.is]
 constructor
 ·rintro ⟨h1,h2⟩
  obtain ⟨c,d⟩:=a
  obtain ⟨c',d'⟩:=b
  simp_all
 ·rintro rfl
  exact ⟨rfl,rfl⟩⟩
def tObj:Tests ObjV:=⟨fun a b=>decide (a.there = b.there) && (decide (a.data = b.data) && (decide (a.a0 = b.a0) && (decide (a.a1 = b.a1) && decide (a.a2 = b.a2)))),fun a b=>by
 simp only [Bool.and_eq_true,decide_eq_true_iff]
 constructor
 ·rintro ⟨h1,h2,h3,h4,h5⟩
  obtain ⟨c,d,e,f,g⟩:=a
  obtain ⟨c',d',e',f',g'⟩:=b
  simp_all
 ·rintro rfl
  exact ⟨rfl,rfl,rfl,rfl,rfl⟩⟩
def tBase:Tests BaseV:=⟨fun a b=>(tObj.f (a.obj 0) (b.obj 0) && (tObj.f (a.obj 1) (b.obj 1) && (tObj.f (a.obj 2) (b.obj 2) && (tObj.f (a.obj 3) (b.obj 3) && (tObj.f (a.obj 4) (b.obj 4) && tObj.f (a.obj 5) (b.obj 5)))))) && (tLast.f (a.last 0) (b.last 0) && (tLast.f (a.last 1) (b.last 1) && tLast.f (a.last 2) (b.last 2))),fun a b=>by
 simp only [Bool.and_eq_true,tObj.is,tLast.is]
 constructor
 ·rintro ⟨⟨h0,h1,h2,h3,h4,h5⟩,g0,g1,g2⟩
  obtain ⟨c,d⟩:=a
  obtain ⟨c',d'⟩:=b
  have e1:c = c':=by
   funext i
   match i with
   | 0=>exact h0
   | 1=>exact h1
   | 2=>exact h2
   | 3=>exact h3
   | 4=>exact h4
   | 5=>exact h5
  have e2:d = d':=by
   funext i
   match i with
   | 0=>exact g0
   | 1=>exact g1
   | 2=>exact g2
  rw [e1,e2]
 ·rintro rfl
  exact ⟨⟨rfl,rfl,rfl,rfl,rfl,rfl⟩,rfl,rfl,rfl⟩⟩
def tEnt:Tests EntV:=⟨fun a b=>decide (a.since = b.since) && (decide (a.n = b.n) && sameOp a.op b.op),fun a b=>by
 simp only [Bool.and_eq_true,decide_eq_true_iff,sameOp_is]
 constructor
 ·rintro ⟨h1,h2,h3⟩
  obtain ⟨c,d,e⟩:=a
  obtain ⟨c',d',e'⟩:=b
  simp_all
 ·rintro rfl
  exact ⟨rfl,rfl,rfl⟩⟩
def xgn:List EntV → List EntV → Bool
 | [],[]=>true
 | a :: l,b :: m=>tEnt.f a b && xgn l m
 | _,_=>false
theorem rowsSame_is:∀ a b:List EntV,xgn a b = true ↔ a = b
 | [],[]=>by simp [xgn]
 | [],b :: m=>by simp [xgn]
 | a :: l,[]=>by simp [xgn]
 | a :: l,b :: m=>by simp only [xgn,Bool.and_eq_true,tEnt.is,rowsSame_is l m,List.cons.injEq]
def tRows:Tests (List EntV):=⟨xgn,rowsSame_is⟩
def tSt:Tests StV:=⟨fun a b=>decide (a.started = b.started) && (tBase.f a.base b.base && (tEnt.f a.tail b.tail && xgn a.log b.log)),fun a b=>by
 simp only [Bool.and_eq_true,decide_eq_true_iff,tBase.is,tEnt.is,rowsSame_is]
 constructor
 ·rintro ⟨h1,h2,h3,h4⟩
  obtain ⟨c,d,e,f⟩:=a
  obtain ⟨c',d',e',f'⟩:=b
  simp_all
 ·rintro rfl
  exact ⟨rfl,rfl,rfl,rfl⟩⟩
def same {α:Type} (d:Tests α) (a b:α):Bool:=d.f a b
theorem xcn {α:Type} (a b:α) {d:Tests α}:same d a b = true ↔ a = b:=d.is a b
theorem same_not {α:Type} {a b:α} {d:Tests α} (h:a ≠ b):same d a b = false:=by
 cases hs:same d a b with
 | false=>rfl
 | true=>exact absurd ((xcn a b).1 hs) h
theorem strV_inj {a b:List UInt8} (h:strV a = strV b):a = b:=by
 unfold strV at h
 injection h with h
 exact mkS_inj h
theorem u_inj {k:IntKind} {a b:Nat} (h:Value.int k (a:Int) = .int k (b:Int)):a = b:=by
 injection h with _ h
 omega
theorem resL_inj {a b:ResV} (h:resL a = resL b):a = b:=by
 obtain ⟨c,d⟩:=a
 obtain ⟨c',d'⟩:=b
 simp only [resL,List.cons.injEq,and_true] at h
 rw [u_inj h.1,strV_inj h.2]
theorem lastL_inj {a b:LastV} (h:lastL a = lastL b):a = b:=by
 obtain ⟨c,d⟩:=a
 obtain ⟨c',d'⟩:=b
 simp only [lastL,List.cons.injEq] at h
 rw [u_inj h.1,resL_inj h.2]
theorem xgo {a b:ObjV} (h:objL a = objL b):a = b:=by
 obtain ⟨c,d,e,f,g⟩:=a
 obtain ⟨c',d',e',f',g'⟩:=b
 simp only [objL,List.cons.injEq,and_true] at h
 have hc:c = c':=by injection h.1
 rw [hc,strV_inj h.2.1,strV_inj h.2.2.1,strV_inj h.2.2.2.1,strV_inj h.2.2.2.2]
theorem opL_inj {a b:OpV} (h:opL a = opL b):a = b:=by
 obtain ⟨c,d,e,f,g,i⟩:=a
 obtain ⟨c',d',e',f',g',i'⟩:=b
 simp only [opL,List.cons.injEq,and_true] at h
 rw [u_inj h.1,u_inj h.2.1,u_inj h.2.2.1,u_inj h.2.2.2.1,u_inj h.2.2.2.2.1,strV_inj h.2.2.2.2.2]
theorem entL_inj {a b:EntV} (h:entL a = entL b):a = b:=by
 obtain ⟨c,d,e⟩:=a
 obtain ⟨c',d',e'⟩:=b
 simp only [entL,List.cons.injEq] at h
 rw [u_inj h.1,u_inj h.2.1,opL_inj h.2.2]
theorem app_inj {A B C D:List Value} (h:A ++ B = C ++ D) (hl:A.length = C.length):A = C ∧ B = D:=List.append_inj h hl
theorem objsL_inj {f g:Fin 6 → ObjV} (h:objsL f = objsL g):f = g:=by
 unfold objsL at h
 obtain ⟨h0,h⟩:=app_inj h rfl
 obtain ⟨h1,h⟩:=app_inj h rfl
 obtain ⟨h2,h⟩:=app_inj h rfl
 obtain ⟨h3,h⟩:=app_inj h rfl
 obtain ⟨h4,h5⟩:=app_inj h rfl
 funext i
 match i with
 | 0=>exact xgo h0
 | 1=>exact xgo h1
 | 2=>exact xgo h2
 | 3=>exact xgo h3
 | 4=>exact xgo h4
 | 5=>exact xgo h5
theorem lastsL_inj {f g:Fin 3 → LastV} (h:lastsL f = lastsL g):f = g:=by
 unfold lastsL at h
 obtain ⟨h0,h⟩:=app_inj h rfl
 obtain ⟨h1,h2⟩:=app_inj h rfl
 funext i
 match i with
 | 0=>exact lastL_inj h0
 | 1=>exact lastL_inj h1
 | 2=>exact lastL_inj h2
theorem baseL_inj {a b:BaseV} (h:baseL a = baseL b):a = b:=by
 unfold baseL at h
 obtain ⟨h0,h1⟩:=app_inj h rfl
 obtain ⟨f,g⟩:=a
 obtain ⟨f',g'⟩:=b
 have h0:objsL f = objsL f':=h0
 have h1:lastsL g = lastsL g':=h1
 rw [objsL_inj h0,lastsL_inj h1]
theorem key_ent:Tryz.prog.keyTypeAt 8 41 = true:=by kernel_rfl
theorem xdv:Tryz.prog.eqGuardType Tryz.prog.depth 41 = false:=by kernel_rfl
theorem guard_last:Tryz.prog.eqGuardType Tryz.prog.depth 34 = false:=by kernel_rfl
theorem xhk (b:BaseV):(Value.agg (baseC b)).formed Tryz.prog 37 = true:=by simp [Value.formed,Tryz.underlying37,co_base];rfl
theorem formed_obj (x:ObjV):(Value.agg (objC x)).formed Tryz.prog 29 = true:=by simp [Value.formed,Tryz.underlying29,co_obj];rfl
theorem formed_last (l:LastV):(Value.agg (lastC l)).formed Tryz.prog 34 = true:=by simp [Value.formed,Tryz.underlying34,co_last];rfl
theorem formed_res (r:ResV):(Value.agg (resC r)).formed Tryz.prog 32 = true:=by simp [Value.formed,Tryz.underlying32,co_res];rfl
theorem formed_ent (e:EntV):(Value.agg (entC e)).formed Tryz.prog 41 = true:=by simp [Value.formed,Tryz.underlying41,co_ent];rfl
theorem formed_op (o:OpV):(Value.agg (opC o)).formed Tryz.prog 39 = true:=by simp [Value.formed,Tryz.underlying39,co_op'];rfl
theorem eqv_base (a b:BaseV) (ha:BaseIn a) (hb:BaseIn b) (w:World):(binOp .eql 37 (.agg (baseC a)) (.agg (baseC b))).run Tryz.prog w = .ok (.bool (same tBase a b)) w :=
 eql_keyed 37 _ _ key_base (xhk a) (xhk b) (keyed_base a ha) (keyed_base b hb) _ ((xcn a b).trans ⟨fun h=>by rw [h],fun h=>baseL_inj h⟩) w
theorem neqv_base (a b:BaseV) (ha:BaseIn a) (hb:BaseIn b) (w:World):(binOp .neq 37 (.agg (baseC a)) (.agg (baseC b))).run Tryz.prog w = .ok (.bool (!same tBase a b)) w :=
 neql_keyed 37 _ _ key_base (xhk a) (xhk b) (keyed_base a ha) (keyed_base b hb) _ ((xcn a b).trans ⟨fun h=>by rw [h],fun h=>baseL_inj h⟩) w
theorem eqv_obj (a b:ObjV) (ha:ObjIn a) (hb:ObjIn b) (w:World):(binOp .eql 29 (.agg (objC a)) (.agg (objC b))).run Tryz.prog w = .ok (.bool (same tObj a b)) w :=
 eql_keyed 29 _ _ key_obj (formed_obj a) (formed_obj b) (xeo a ha 5) (xeo b hb 5) _ ((xcn a b).trans ⟨fun h=>by rw [h],fun h=>xgo h⟩) w
theorem neqv_obj (a b:ObjV) (ha:ObjIn a) (hb:ObjIn b) (w:World):(binOp .neq 29 (.agg (objC a)) (.agg (objC b))).run Tryz.prog w = .ok (.bool (!same tObj a b)) w :=
 neql_keyed 29 _ _ key_obj (formed_obj a) (formed_obj b) (xeo a ha 5) (xeo b hb 5) _ ((xcn a b).trans ⟨fun h=>by rw [h],fun h=>xgo h⟩) w
theorem eqv_last (a b:LastV) (ha:LastIn a) (hb:LastIn b) (w:World):(binOp .eql 34 (.agg (lastC a)) (.agg (lastC b))).run Tryz.prog w = .ok (.bool (same tLast a b)) w :=
 eql_keyed 34 _ _ key_last (formed_last a) (formed_last b) (xgz a ha.seq ha.code ha.rdata 5) (xgz b hb.seq hb.code hb.rdata 5) _ ((xcn a b).trans ⟨fun h=>by rw [h],fun h=>lastL_inj h⟩) w
theorem eqv_res (a b:ResV) (h1:a.code < 256) (h2:a.data.length ≤ 9223372036854775807) (h3:b.code < 256) (h4:b.data.length ≤ 9223372036854775807) (w:World):(binOp .eql 32 (.agg (resC a)) (.agg (resC b))).run Tryz.prog w = .ok (.bool (same tRes a b)) w :=
 eql_keyed 32 _ _ key_res (formed_res a) (formed_res b) (keyed_res a h1 h2 6) (keyed_res b h3 h4 6) _ ((xcn a b).trans ⟨fun h=>by rw [h],fun h=>resL_inj h⟩) w
theorem eqv_ent (a b:EntV) (ha:EntOk a) (hb:EntOk b) (w:World):(binOp .eql 41 (.agg (entC a)) (.agg (entC b))).run Tryz.prog w = .ok (.bool (same tEnt a b)) w :=
 eql_keyed 41 _ _ key_ent (formed_ent a) (formed_ent b) (keyed_ent a ha 5) (keyed_ent b hb 5) _ ((xcn a b).trans ⟨fun h=>by rw [h],fun h=>entL_inj h⟩) w
theorem neqv_ent (a b:EntV) (ha:EntOk a) (hb:EntOk b) (w:World):(binOp .neq 41 (.agg (entC a)) (.agg (entC b))).run Tryz.prog w = .ok (.bool (!same tEnt a b)) w :=
 neql_keyed 41 _ _ key_ent (formed_ent a) (formed_ent b) (keyed_ent a ha 5) (keyed_ent b hb 5) _ ((xcn a b).trans ⟨fun h=>by rw [h],fun h=>entL_inj h⟩) w
theorem neqv_op (a b:OpV) (ha:OpOk a) (hb:OpOk b) (w:World):(binOp .neq 39 (.agg (opC a)) (.agg (opC b))).run Tryz.prog w = .ok (.bool (!same tOp a b)) w :=
 neql_keyed 39 _ _ key_op (formed_op a) (formed_op b) (keyed_op a ha 6) (keyed_op b hb 6) _ ((xcn a b).trans ⟨fun h=>by rw [h],fun h=>opL_inj h⟩) w
end Go.Proofs.YtecilienolabfaaGreatDoor
/- LogSmall: The contracts of pglog's position, last, follows, isTail. -/
namespace Go.Proofs.YtecilienolabfaaGreatDoor
set_option linter.unusedSimpArgs false
set_option linter.unusedVariables false
set_option maxRecDepth 100000
open Go.RowKit
theorem position_any (e:EntV) (w:World):Calls Tryz.prog 125 #[.agg (entC e)] w fun en w'=>en = .returned (.agg (entC (posE e))) ∧ Below w.heap.size w w':=by
 obtain ⟨w1,hw1,hE,hR,hb⟩:=xbl w 41 41 (entC e) (entC ent0)
 have c0:=hE.ent_since
 have c1:=hE.ent_n
 have hz:=hR.row (entC (posE e))
 have hbz:=below_setRow hb (show w.heap.size ≤ w.heap.size + 1 by omega) (entC (posE e))
 go_enter Tryz.func125,Tryz.ntmps125
 go_wp2_with (first
  | (refine xac (by rfl) 41 rfl (entC ent0) xff ?_;rw [hw1])
  | (refine xed (by rfl) 41 0 1 _ _ rfl (.int .u32 (e.since:Int)) (.int .u32 (e.n:Int)) rfl rfl (entC (posE e)) (pos_built e.since e.n) ?_)
  | (refine xao (by rfl) 41 _ _ rfl (w.heap.size + 1) rfl (entC (posE e)) rfl 41 (entC ent0) (xax _) rfl (xet _) ?hg ?_;(case hg=>exact hR)))
 exact xba rfl (w.heap.size + 1) rfl 41 (entC (posE e)) _ Tryz.underlying41 rfl (xax _) hz rfl ⟨rfl,hbz⟩
set_option maxHeartbeats 2000000 in
theorem last_any (t:EntV) (ao:Option Addr) (c:Nat) (l:List EntV) (w:World) (h:Sl w ao c 8 (entR l)) (hl:l.length ≤ 100000) :
  Calls Tryz.prog 129 #[.agg (entC t),.slice ao l.length c] w fun en w'=>en = .returned (.agg (entC (lastE t l))) ∧ Below w.heap.size w w':=by
 obtain ⟨w1,hw1,hE,hR,hb⟩:=xbl w 41 41 (entC t) (entC ent0)
 have hS:=h.later hb
 induction l using snoc_ind with
 | h0 =>
  have hz:=hR.row (entC t)
  have hbz:=below_setRow hb (show w.heap.size ≤ w.heap.size + 1 by omega) (entC t)
  go_enter Tryz.func129,Tryz.ntmps129
  go_wp2_with (first
   | (refine xac (by rfl) 41 rfl (entC ent0) xff ?_;rw [hw1])
   | (refine xab (by rfl) 41 _ rfl w.heap.size rfl 41 (entC t) _ Tryz.underlying41 rfl (xax _) ?hg ?_;(case hg=>exact hE))
   | (refine xao (by rfl) 41 _ _ rfl (w.heap.size + 1) rfl (entC t) rfl 41 (entC ent0) (xax _) rfl (xet _) ?hg ?_;(case hg=>exact hR)))
  exact xba rfl (w.heap.size + 1) rfl 41 (entC t) _ Tryz.underlying41 rfl (xax _) hz rfl ⟨rfl,hbz⟩
 | h1 l x _ =>
  cases ao with
  | none=>have:=h.nil rfl;have:=h.ent_le;simp at this;omega
  | some ad =>
   have hx:=ent_at hS l.length (by simp)
   simp only [List.getElem_concat_length] at hx
   have hle:=h.ent_le
   have hcap:=h.cap
   have hlast:Hid _:=xgy t l x
   rw [List.length_append,List.length_singleton] at *
   generalize l.length = m at *
   clear hS h
   have hm:¬ ((m:Int) + 1 = 0):=by omega
   have hm2:(m:Int) < (m:Int) + 1:=by omega
   go_enter Tryz.func129,Tryz.ntmps129
   go_wp2_with (first
    | (refine xac (by rfl) 41 rfl (entC ent0) xff ?_;rw [hw1])
    | (refine xei (by rfl) 41 _ rfl _ rfl (entL x) _ ?hg Tryz.underlying41 rfl (xax x) ?_;(case hg=>exact hx)))
   refine (position_any x _).mono ?_
   rintro en w2 ⟨rfl,hq⟩
   have hR2:=hR.later hq
   have hb2:=hb.trans (hq.mono hb.size)
   have hz:=hR2.row (entC (posE x))
   have hbz:=below_setRow hb2 (show w.heap.size ≤ w.heap.size + 1 by omega) (entC (posE x))
   go_wp2_with (first
    | (refine xao (by rfl) 41 _ _ rfl (w.heap.size + 1) rfl (entC (posE x)) rfl 41 (entC ent0) (xax _) rfl (xet _) ?hg ?_;(case hg=>exact hR2)))
   exact xba rfl (w.heap.size + 1) rfl 41 (entC (posE x)) _ Tryz.underlying41 rfl (xax _) hz rfl ⟨by rw [hlast.out],hbz⟩
theorem follows_no {p e:EntV} (h:xdz e.op = false ∨ ¬ e.n = p.n + 1 ∨ ¬ p.since ≤ e.since ∨ ¬ e.since ≤ 60):xdf p e = false:=by
 cases hf:xdf p e with
 | false=>rfl
 | true =>
  obtain ⟨a,b,c,d⟩:=xhb.1 hf
  rcases h with h | h | h | h
  ·rw [a] at h;cases h
  ·exact absurd b h
  ·exact absurd c h
  ·exact absurd d h
set_option maxHeartbeats 4000000 in
theorem follows_any (p e:EntV) (w:World) (hp:EntOk p) (he:EntOk e):Calls Tryz.prog 128 #[.agg (entC p),.agg (entC e)] w fun en w'=>en = .returned (.bool (xdf p e)) ∧ Below w.heap.size w w':=by
 obtain ⟨w1,hw1,hP,hE,hb⟩:=xbl w 41 41 (entC p) (entC e)
 have ho:=hE.ent_op
 go_enter Tryz.func128,Tryz.ntmps128
 go_wp2_with (first
  | (refine xae (by rfl) 39 _ rfl (w.heap.size + 1) 2 rfl (opL e.op) _ ?hg Tryz.underlying39 rfl (xca _) ?_;(case hg=>exact ho)))
 refine (writes_any e.op _ he.op).mono ?_
 rintro en w2 ⟨rfl,hq⟩
 replace hP:=hP.later hq
 replace hE:=hE.later hq
 replace hb:=hb.trans (hq.mono hb.size)
 have e0:=hE.ent_since
 have e1:=hE.ent_n
 have p0:=hP.ent_since
 have p1:=hP.ent_n
 have b1:=he.since
 have b2:=he.n
 have b3:=hp.since
 have b4:=hp.n
 clear hP hE hq ho hw1
 have hno:=fun h=>follows_no (p:=p) (e:=e) h
 have hyes:=fun h=>(xhb (p:=p) (e:=e)).2 h
 generalize xdz e.op = wr at *
 generalize e.since = es at *
 generalize p.since = ps at *
 generalize e.n = n at *
 generalize p.n = m at *
 cases wr with
 | false =>
  have hF:Hid _:=hno (.inl rfl)
  go_wp2
  go_ret
  exact ⟨by rw [hF.out];rfl,hb⟩
 | true =>
  cases n with
  | zero =>
   have hF:Hid _:=hno (.inr (.inl (by omega)))
   go_wp2
   go_ret
   exact ⟨by rw [hF.out];rfl,hb⟩
  | succ n =>
   have i1:((n:Int) + 1 != 0) = true:=by rw [bne_iff_ne];omega
   have i2:(n:Int) < 4294967296:=by omega
   by_cases h1:n = m
   ·subst h1
    by_cases h2:ps ≤ es
    ·have h2I:(ps:Int) ≤ (es:Int):=by omega
     by_cases h3:es ≤ 60
     ·have h3I:(es:Int) ≤ 60:=by omega
      have hF:Hid _:=hyes ⟨rfl,rfl,h2,h3⟩
      go_wp2
      go_ret
      exact ⟨by rw [hF.out];rfl,hb⟩
     ·have h3I:decide ((es:Int) ≤ 60) = false:=by rw [decide_eq_false_iff_not];omega
      have hF:Hid _:=hno (.inr (.inr (.inr h3)))
      go_wp2
      go_ret
      exact ⟨by rw [hF.out];rfl,hb⟩
    ·have h2I:¬ (ps:Int) ≤ (es:Int):=by omega
     have hF:Hid _:=hno (.inr (.inr (.inl h2)))
     go_wp2
     go_ret
     exact ⟨by rw [hF.out];rfl,hb⟩
   ·have h1I:((n:Int) == (m:Int)) = false:=by rw [beq_eq_false_iff_ne];omega
    have h1N:(n == m) = false:=by rw [beq_eq_false_iff_ne];omega
    have hF:Hid _:=hno (.inr (.inl (by omega)))
    go_wp2
    go_ret
    exact ⟨by rw [hF.out];rfl,hb⟩
theorem zero_op_in {t:EntV}:same tEnt t (posE t) = xfl t.op:=by
 rw [Bool.eq_iff_iff,xcn,isZero_is]
 obtain ⟨a,b,c⟩:=t
 unfold posE
 simp
set_option maxHeartbeats 4000000 in
theorem isTail_any (t:EntV) (w:World) (ht:EntOk t):Calls Tryz.prog 98 #[.agg (entC t)] w fun en w'=>en = .returned (.bool (xgi t)) ∧ Below w.heap.size w w':=by
 obtain ⟨w1,hw1,hT,hb⟩:=xbr w 41 (entC t)
 have e0:=hT.ent_since
 have hpo:EntOk (posE t):=⟨ht.since,ht.n,op0_ok⟩
 have heq:=eqv_ent t (posE t) ht hpo
 rw [zero_op_in] at heq
 have hM:Hid (xgi t = (decide (t.since ≤ 60) && xfl t.op)):=rfl
 have hbA:Below w1.heap.size w1 w1.drew:=(Below.refl _ _).drew
 have hTA:=hT.drew
 go_enter Tryz.func98,Tryz.ntmps98
 go_wp2
 refine xas (fun W=>Below w1.heap.size w1 W) (Plan.of [(0,true),(1,true),(2,true),(3,true),(4,true),(5,true),(6,false),(7,true),(8,true),(9,true)] .done) (by kernel_rfl) (by kernel_rfl) (by kernel_rfl) (by kernel_rfl) hbA ?_
 iterate 1
  first
   | (refine xad _ rfl (by rfl) ?_)
   | (refine xaa _ _ rfl (.inl ⟨by rfl,fun W hS=>by clear hS;go_simp;try with_reducible rfl⟩) ?_)
  try simp only [qp,qa,qb,qc]
 iterate 1
  first
   | (refine xad _ rfl (by rfl) ?_)
   | (refine xaa _ _ rfl (.inl ⟨by rfl,fun W hS=>by have z0:=(hT.later hS).ent_since;go_simp;try with_reducible rfl⟩) ?_)
  try simp only [qp,qa,qb,qc]
 by_cases h:t.since ≤ 60
 ·have hI:(t.since:Int) ≤ 60:=by omega
  refine xaa _ (.bool true) rfl (.inl ⟨by rfl,fun W hS=>by clear hS;go_simp;try with_reducible rfl⟩) ?_
  try simp only [qp,qa,qb,qc]
  iterate 1
   first
    | (refine xad _ rfl (by rfl) ?_)
    | (refine xaa _ _ rfl (.inl ⟨by rfl,fun W hS=>by clear hS;go_simp;try with_reducible rfl⟩) ?_)
   try simp only [qp,qa,qb,qc]
  refine xaa _ _ rfl (xan (by rfl) 41 _ rfl w.heap.size rfl 41 (entC t) _ Tryz.underlying41 rfl (xax _) (fun W hW=>hT.later hW)) ?_
  try simp only [qp,qa,qb,qc]
  refine xaa _ _ rfl (xan (by rfl) 41 _ rfl w.heap.size rfl 41 (entC t) _ Tryz.underlying41 rfl (xax _) (fun W hW=>hT.later hW)) ?_
  try simp only [qp,qa,qb,qc]
  refine xam _ rfl (fun K hK=>?_)
  go_simp
  refine (position_any t _).mono ?_
  rintro en w2 ⟨rfl,hq⟩
  have hb2:Below w1.heap.size w1 w2:=hbA.trans (hq.mono hbA.size)
  refine hK.out _ _ hb2 ?_
  clear hK K hq
  try simp only [qp,qa,qb,qc]
  refine xaa _ _ rfl (xbh (by rfl) .eql 41 _ _ _ rfl (entC t) (entC (posE t)) rfl rfl (.bool (xfl t.op)) xdv heq) ?_
  try simp only [qp,qa,qb,qc]
  refine xaa _ (.bool (xfl t.op)) rfl (.inl ⟨by rfl,fun W hS=>by clear hS;go_simp;try with_reducible rfl⟩) ?_
  try simp only [qp,qa,qb,qc]
  iterate 1
   first
    | (refine xad _ rfl (by rfl) ?_)
    | (refine xaa _ _ rfl (.inl ⟨by rfl,fun W hS=>by clear hS;go_simp;try with_reducible rfl⟩) ?_)
   try simp only [qp,qa,qb,qc]
  refine xbf ?_
  go_wp2
  go_ret
  exact ⟨by rw [hM.out,decide_eq_true h];rfl,hb.trans (hb2.mono hb.size)⟩
 ·have hI:¬ (t.since:Int) ≤ 60:=by omega
  refine xaa _ (.bool false) rfl (.inl ⟨by rfl,fun W hS=>by clear hS;go_simp;try with_reducible rfl⟩) ?_
  try simp only [qp,qa,qb,qc]
  iterate 3
   first
    | (refine xad _ rfl (by rfl) ?_)
    | (refine xaa _ _ rfl (.inl ⟨by rfl,fun W hS=>by clear hS;go_simp;try with_reducible rfl⟩) ?_)
   try simp only [qp,qa,qb,qc]
  refine xam _ rfl (fun K hK=>?_)
  go_simp
  refine hK.out _ _ hbA ?_
  clear hK K
  try simp only [qp,qa,qb,qc]
  iterate 3
   first
    | (refine xad _ rfl (by rfl) ?_)
    | (refine xaa _ _ rfl (.inl ⟨by rfl,fun W hS=>by clear hS;go_simp;try with_reducible rfl⟩) ?_)
   try simp only [qp,qa,qb,qc]
  refine xbf ?_
  go_wp2
  go_ret
  exact ⟨by rw [hM.out,decide_eq_false h];rfl,hb.trans (hbA.mono hb.size)⟩
end Go.Proofs.YtecilienolabfaaGreatDoor
/- LogBase: The contracts of pglog's isObject, isLast, isBase. -/
namespace Go.Proofs.YtecilienolabfaaGreatDoor
set_option linter.unusedSimpArgs false
set_option linter.unusedVariables false
set_option maxRecDepth 100000
open Go.RowKit
theorem obj0_in:ObjIn obj0:=⟨by decide,by decide,by decide,by decide⟩
theorem last0_in:LastIn last0:=⟨by decide,by decide,by decide⟩
theorem same_obj0 {x:ObjV} (h:x.there = false):same tObj x obj0 = isObjM x:=by
 rw [Bool.eq_iff_iff,xcn,isObj_is]
 obtain ⟨a,b,c,d,e⟩:=x
 have h:a = false:=h
 subst h
 constructor
 ·intro h
  cases h
  simp
 ·rintro ⟨h,_⟩
  obtain ⟨h1,h2,h3,h4⟩:=h rfl
  have h1:b = []:=h1
  have h2:c = []:=h2
  have h3:d = []:=h3
  have h4:e = []:=h4
  subst h1 h2 h3 h4
  rfl
theorem isObj_there {x:ObjV} (h:x.there = true):isObjM x = decide (x.a0.length ≤ 16 ∧ x.a1.length ≤ 16 ∧ x.a2.length ≤ 16 ∧ x.data.length ≤ 16):=by
 rw [Bool.eq_iff_iff,isObj_is,decide_eq_true_iff]
 constructor
 ·rintro ⟨_,h1,h2,h3,h4⟩
  exact ⟨h2,h3,h4,h1⟩
 ·rintro ⟨h2,h3,h4,h1⟩
  exact ⟨(fun e=>by rw [h] at e;cases e),h1,h2,h3,h4⟩
theorem same_last0 {l:LastV} (h:l.seq = 0):same tLast l last0 = xec l:=by
 rw [Bool.eq_iff_iff,xcn,xgj]
 obtain ⟨a,b,c⟩:=l
 have h:a = 0:=h
 subst h
 constructor
 ·intro h
  cases h
  simp [res0]
 ·rintro ⟨h1,_,h2⟩
  have h1:c = []:=h1
  have h3:b = 0:=h2 rfl
  rw [h1,h3]
  rfl
section
variable {P:Program} {ops:Array Oper} {rest:List Oper} {o:Oper} {a:Act} {w:World} {Q:Exit → Act → World → Prop}
theorem run_index_one (ty e:TypeId) (len n:Nat) (cs:Array Value) (d:TypeDesc) (hu:P.underlying ty = some (.array len e)) (hn:n < len) (hue:P.underlying e = some d) (hd:d.isRow = false) (hi:(P.info? e).map (·.size) = some 1) (v:Value) (hv:cs[n]? = some v) :
  (Instr.index ty (.agg cs) (.int .i64 (n:Int))).run P w = .ok v w:=by
 cases hq:P.info? e with
 | none=>simp [hq] at hi
 | some i =>
  have hs:i.size = 1:=by simpa [hq] using hi
  have hagg:(isAgg e).run P w = .ok false w:=by
   unfold isAgg
   rw [Sem.run_bind,run_underlying hue w]
   cases d <;> simp_all
  have h0:(0:Int) ≤ (n:Int) ∧ (n:Int) < (len:Int):=by omega
  have h1:¬ ((len:Int) ≤ (n:Int)):=by omega
  simp [Instr.index,asIntOf,Sem.run_bind,run_underlying hu,h0,h1,sizeOf,typeInfo,hq,hs,part,hagg,hv]
  intro hh
  omega
theorem xco (hw:Region.wanted o (yielded ops a.tmps) = true) (ty:TypeId) (x y:Operand) (ho:o.op = .index ty x y) (n:Nat) (cs:Array Value) (hx:a.eval x = .agg cs) (hy:a.eval y = .int .i64 (n:Int))
  (e:TypeId) (len:Nat) (d:TypeDesc) (hu:P.underlying ty = some (.array len e)) (hn:n < len) (hue:P.underlying e = some d) (hd:d.isRow = false) (hi:(P.info? e).map (·.size) = some 1) (v:Value) (hv:cs[n]? = some v)
  (h:wpList P ops Q rest (a.put o.dst v) w):wpList P ops Q (o :: rest) a w:=by
 refine BigFrame.wpList_want hw fun K hK=>?_
 unfold Oper.wp execOp
 simp only [ho,hx,hy]
 simp only [Sem.run_bind,run_index_one ty e len n cs d hu hn hue hd hi v hv]
 exact hK _ _ h
end
theorem xdm:(Tryz.prog.info? 9).map (·.size) = some 1:=by kernel_rfl
theorem attrs_at {w:World} {g:Nat} {x:ObjV} (h:Has w g 29 (objC x)):w.rangeAt g 2 [strV x.a0,strV x.a1,strV x.a2]:=h.range _ _ fun j v hj=>by
 have hl:j < 3:=(List.getElem?_eq_some_iff.1 hj).1
 match j,hl with
 | 0,_=>exact hj
 | 1,_=>exact hj
 | 2,_=>exact hj
theorem attrs_size (a b c:List UInt8):(Tryz.prog.info? 27).map (·.size) = some [strV a,strV b,strV c].length:=by show _ = some 3;kernel_rfl
set_option maxHeartbeats 4000000 in
theorem isObject_any (x:ObjV) (w:World) (hx:ObjIn x):Calls Tryz.prog 126 #[.agg (objC x)] w fun en w'=>en = .returned (.bool (isObjM x)) ∧ Below w.heap.size w w':=by
 obtain ⟨w1,hw1,hX,hb⟩:=xbr w 29 (objC x)
 have c0:=(hX.cell 0).trans (show (objC x)[0]? = some (.bool x.there) from rfl)
 have c1:=(hX.cell 1).trans (show (objC x)[1]? = some (.string (mkS x.data)) from rfl)
 have ha:=attrs_at hX
 cases ht:x.there with
 | false =>
  have heq:=fun W=>eqv_obj x obj0 hx obj0_in W
  rw [same_obj0 ht] at heq
  rw [ht] at c0
  replace ht:Hid _:=ht
  go_enter Tryz.func126,Tryz.ntmps126
  go_wp2_with (first
   | (refine xab (by rfl) 29 _ rfl w.heap.size rfl 29 (objC x) _ Tryz.underlying29 rfl (xbq _) ?hg ?_;(case hg=>exact hX))
   | (refine xar (by rfl) 29 #[] rfl (objC obj0) (by simpa using xgf) ?_)
   | (refine xbc (by rfl) .eql 29 _ _ _ rfl (objC x) (objC obj0) rfl rfl (.bool (isObjM x)) xgk ?hg ?_;(case hg=>exact heq _)))
  go_ret
  exact ⟨rfl,hb⟩
 | true =>
  have hM:Hid _:=isObj_there ht
  rw [ht] at c0
  replace ht:Hid _:=ht
  have d0:=hx.data
  have d1:=hx.a0
  have d2:=hx.a1
  have d3:=hx.a2
  have s0:=xde x.data
  have s1:=xde x.a0
  have s2:=xde x.a1
  have s3:=xde x.a2
  have v1:strV x.a0 = .string (mkS x.a0):=rfl
  have v2:strV x.a1 = .string (mkS x.a1):=rfl
  have v3:strV x.a2 = .string (mkS x.a2):=rfl
  go_enter Tryz.func126,Tryz.ntmps126
  go_wp2_with (first
   | (refine xae (by rfl) 27 _ rfl w.heap.size 2 rfl [strV x.a0,strV x.a1,strV x.a2] _ ?hg Tryz.underlying27 rfl (attrs_size _ _ _) ?_;(case hg=>exact ha)))
  go_loopw [13] (fun i wr=>∃ n:Nat,n ≤ 3 ∧ i = .int .i64 n ∧ wr = w1 ∧ (0 < n → x.a0.length ≤ 16) ∧ (1 < n → x.a1.length ≤ 16) ∧ (2 < n → x.a2.length ≤ 16)) (fun i _=>3 - (intOf i).toNat)
  case atStart=>exact ⟨0,by decide,rfl,rfl,fun h=>by omega,fun h=>by omega,fun h=>by omega⟩
  case round =>
   obtain ⟨n,hn,rfl,rfl,k0,k1,k2⟩:=hrel
   match n,hn with
   | 0,_ =>
    by_cases h:x.a0.length ≤ 16
    ·have hI:¬ (16 < (x.a0.length:Int)):=by omega
     go_wp2_with (first
      | (refine xco (by rfl) 27 _ _ rfl 0 #[strV x.a0,strV x.a1,strV x.a2] rfl rfl 9 3 _ Tryz.underlying27 (by decide) Tryz.underlying9 rfl xdm (strV x.a0) rfl ?_))
     go_roundw
     case rel=>exact ⟨1,by decide,rfl,(by first | trivial | rfl),fun _=>h,fun h=>by omega,fun h=>by omega⟩
     case measure=>simp [intOf]
    ·have hI:16 < (x.a0.length:Int):=by omega
     go_wp2_with (first
      | (refine xco (by rfl) 27 _ _ rfl 0 #[strV x.a0,strV x.a1,strV x.a2] rfl rfl 9 3 _ Tryz.underlying27 (by decide) Tryz.underlying9 rfl xdm (strV x.a0) rfl ?_))
     go_ret
     exact ⟨by rw [hM.out,decide_eq_false (by omega)];rfl,hb⟩
   | 1,_ =>
    by_cases h:x.a1.length ≤ 16
    ·have hI:¬ (16 < (x.a1.length:Int)):=by omega
     go_wp2_with (first
      | (refine xco (by rfl) 27 _ _ rfl 1 #[strV x.a0,strV x.a1,strV x.a2] rfl rfl 9 3 _ Tryz.underlying27 (by decide) Tryz.underlying9 rfl xdm (strV x.a1) rfl ?_))
     go_roundw
     case rel=>exact ⟨2,by decide,rfl,(by first | trivial | rfl),fun _=>k0 (by omega),fun _=>h,fun h=>by omega⟩
     case measure=>simp [intOf]
    ·have hI:16 < (x.a1.length:Int):=by omega
     go_wp2_with (first
      | (refine xco (by rfl) 27 _ _ rfl 1 #[strV x.a0,strV x.a1,strV x.a2] rfl rfl 9 3 _ Tryz.underlying27 (by decide) Tryz.underlying9 rfl xdm (strV x.a1) rfl ?_))
     go_ret
     exact ⟨by rw [hM.out,decide_eq_false (by omega)];rfl,hb⟩
   | 2,_ =>
    by_cases h:x.a2.length ≤ 16
    ·have hI:¬ (16 < (x.a2.length:Int)):=by omega
     go_wp2_with (first
      | (refine xco (by rfl) 27 _ _ rfl 2 #[strV x.a0,strV x.a1,strV x.a2] rfl rfl 9 3 _ Tryz.underlying27 (by decide) Tryz.underlying9 rfl xdm (strV x.a2) rfl ?_))
     go_roundw
     case rel=>exact ⟨3,by decide,rfl,(by first | trivial | rfl),fun _=>k0 (by omega),fun _=>k1 (by omega),fun _=>h⟩
     case measure=>simp [intOf]
    ·have hI:16 < (x.a2.length:Int):=by omega
     go_wp2_with (first
      | (refine xco (by rfl) 27 _ _ rfl 2 #[strV x.a0,strV x.a1,strV x.a2] rfl rfl 9 3 _ Tryz.underlying27 (by decide) Tryz.underlying9 rfl xdm (strV x.a2) rfl ?_))
     go_ret
     exact ⟨by rw [hM.out,decide_eq_false (by omega)];rfl,hb⟩
   | 3,_ =>
    have h0:=k0 (by omega)
    have h1:=k1 (by omega)
    have h2:=k2 (by omega)
    clear k0 k1 k2
    by_cases h:x.data.length ≤ 16
    ·have hI:(x.data.length:Int) ≤ 16:=by omega
     go_wp2
     go_ret
     exact ⟨by rw [hM.out,decide_eq_true ⟨h0,h1,h2,h⟩];rfl,hb⟩
    ·have hI:decide ((x.data.length:Int) ≤ 16) = false:=by rw [decide_eq_false_iff_not];omega
     go_wp2
     go_ret
     exact ⟨by rw [hM.out,decide_eq_false (fun hh=>h hh.2.2.2)];rfl,hb⟩
theorem res_one_built (n:Nat):Tryz.prog.built 32 [(0,.int .u8 (n:Int))] = some (resC ⟨n,[]⟩):=by kernel_rfl
theorem last_built0:Tryz.prog.built 34 [] = some (lastC last0):=by kernel_rfl
theorem isLast_some {l:LastV} (h:l.seq ≠ 0):xec l = (decide (l.r.code ≤ 3) && same tRes l.r ⟨l.r.code,[]⟩):=by
 rw [Bool.eq_iff_iff,xgj,Bool.and_eq_true,decide_eq_true_iff,xcn]
 obtain ⟨a,b,c⟩:=l
 constructor
 ·rintro ⟨h1,h2,_⟩
  have h1:c = []:=h1
  subst h1
  exact ⟨h2,rfl⟩
 ·rintro ⟨h1,h2⟩
  have h2:ResV.mk b c = ⟨b,[]⟩:=h2
  injection h2 with _ h2
  subst h2
  exact ⟨rfl,h1,fun e=>absurd e h⟩
set_option maxHeartbeats 4000000 in
theorem isLast_any (l:LastV) (w:World) (hl:LastIn l):Calls Tryz.prog 127 #[.agg (lastC l)] w fun en w'=>en = .returned (.bool (xec l)) ∧ Below w.heap.size w w':=by
 obtain ⟨w1,hw1,hX,hb⟩:=xbr w 34 (lastC l)
 have c0:=(hX.cell 0).trans (show (lastC l)[0]? = some (.int .u32 (l.seq:Int)) from rfl)
 have c1:=(hX.cell 1).trans (show (lastC l)[1]? = some (.int .u8 (l.r.code:Int)) from rfl)
 have hr:w1.rangeAt w.heap.size 1 (resL l.r):=hX.range _ _ fun j v hj=>by
  have hj2:j < 2:=(List.getElem?_eq_some_iff.1 hj).1
  match j,hj2 with
  | 0,_=>exact hj
  | 1,_=>exact hj
 by_cases h0:l.seq = 0
 ·have heq:=fun W=>eqv_last l last0 hl last0_in W
  rw [same_last0 h0] at heq
  rw [h0] at c0
  replace h0:Hid _:=h0
  go_enter Tryz.func127,Tryz.ntmps127
  go_wp2_with (first
   | (refine xab (by rfl) 34 _ rfl w.heap.size rfl 34 (lastC l) _ Tryz.underlying34 rfl (last_size _) ?hg ?_;(case hg=>exact hX))
   | (refine xar (by rfl) 34 #[] rfl (lastC last0) (by simpa using last_built0) ?_)
   | (refine xbc (by rfl) .eql 34 _ _ _ rfl (lastC l) (lastC last0) rfl rfl (.bool (xec l)) guard_last ?hg ?_;(case hg=>exact heq _)))
  go_ret
  exact ⟨rfl,hb⟩
 ·have hM:Hid _:=isLast_some h0
  have hI:((l.seq:Int) == 0) = false:=by rw [beq_eq_false_iff_ne];omega
  have hN:(l.seq == 0) = false:=by rw [beq_eq_false_iff_ne];omega
  have d1:=hl.code
  have d2:=hl.rdata
  have heq:=fun W=>eqv_res l.r ⟨l.r.code,[]⟩ d1 d2 d1 (by show 0 ≤ _;omega) W
  generalize same tRes l.r ⟨l.r.code,[]⟩ = sm at *
  by_cases h1:l.r.code ≤ 3
  ·have h1I:(l.r.code:Int) ≤ 3:=by omega
   go_enter Tryz.func127,Tryz.ntmps127
   go_wp2_with (first
    | (refine xae (by rfl) 32 _ rfl w.heap.size 1 rfl (resL l.r) _ ?hg Tryz.underlying32 rfl (xeb _) ?_;(case hg=>exact hr))
    | (refine xcu (by rfl) 32 0 _ rfl (.int .u8 (l.r.code:Int)) rfl (resC ⟨l.r.code,[]⟩) (res_one_built _) ?_)
    | (refine xbc (by rfl) .eql 32 _ _ _ rfl (resC l.r) (resC ⟨l.r.code,[]⟩) rfl rfl (.bool sm) guard_res ?hg ?_;(case hg=>exact heq _)))
   go_ret
   exact ⟨by rw [hM.out,decide_eq_true h1];rfl,hb⟩
  ·have h1I:¬ (l.r.code:Int) ≤ 3:=by omega
   go_enter Tryz.func127,Tryz.ntmps127
   go_wp2
   go_ret
   exact ⟨by rw [hM.out,decide_eq_false h1];rfl,hb⟩
theorem xgd (f:Fin 6 → ObjV) (i:Fin 6):(objsL f).toArray.extract (i.val * 5) (i.val * 5 + 5) = objC (f i):=by
 match i with
 | 0=>rfl
 | 1=>rfl
 | 2=>rfl
 | 3=>rfl
 | 4=>rfl
 | 5=>rfl
theorem lasts_at_n (f:Fin 3 → LastV) (i:Fin 3):(lastsL f).toArray.extract (i.val * 3) (i.val * 3 + 3) = lastC (f i):=by
 match i with
 | 0=>rfl
 | 1=>rfl
 | 2=>rfl
theorem objs_size (f:Fin 6 → ObjV):(Tryz.prog.info? 30).map (·.size) = some (objsL f).length:=by show _ = some 30;kernel_rfl
theorem lasts_size (f:Fin 3 → LastV):(Tryz.prog.info? 35).map (·.size) = some (lastsL f).length:=by show _ = some 9;kernel_rfl
theorem objs_in {w:World} {g:Nat} {b:BaseV} (h:Has w g 37 (baseC b)):w.rangeAt g 0 (objsL b.obj):=h.range _ _ fun j v hj=>by
 have hl:j < 30:=(List.getElem?_eq_some_iff.1 hj).1
 unfold baseC baseL
 rw [List.getElem?_toArray,Nat.zero_add,List.getElem?_append_left (show j < (objsL b.obj).length from hl)]
 exact hj
theorem lasts_in {w:World} {g:Nat} {b:BaseV} (h:Has w g 37 (baseC b)):w.rangeAt g 30 (lastsL b.last):=h.range _ _ fun j v hj=>by
 unfold baseC baseL
 rw [List.getElem?_toArray,List.getElem?_append_right (show (objsL b.obj).length ≤ 30 + j from Nat.le_add_right 30 j),show 30 + j - (objsL b.obj).length = j from Nat.add_sub_cancel_left 30 j]
 exact hj
theorem xge:(Tryz.prog.info? 29).map (·.size) = some 5:=by kernel_rfl
theorem last_size3:(Tryz.prog.info? 34).map (·.size) = some 3:=by kernel_rfl
set_option maxHeartbeats 4000000 in
theorem isBase_any (b:BaseV) (w:World) (hB0:BaseIn b):Calls Tryz.prog 99 #[.agg (baseC b)] w fun en w'=>en = .returned (.bool (xdu b)) ∧ Below w.heap.size w w':=by
 obtain ⟨w1,hw1,hX,hb⟩:=xbr w 37 (baseC b)
 have ho:=objs_in hX
 have hM:Hid _:=isBase_is b
 go_enter Tryz.func99,Tryz.ntmps99
 go_wp2_with (first
  | (refine xae (by rfl) 30 _ rfl w.heap.size 0 rfl (objsL b.obj) _ ?hg Tryz.underlying30 rfl (objs_size _) ?_;(case hg=>exact ho)))
 go_loopw [9] (fun i wr=>∃ n:Nat,n ≤ 6 ∧ i = .int .i64 n ∧ Has wr w.heap.size 37 (baseC b) ∧ Below w.heap.size w wr ∧ ∀ k:Fin 6,k.val < n → isObjM (b.obj k) = true) (fun i _=>6 - (intOf i).toNat)
 case atStart=>exact ⟨0,by decide,rfl,hX,hb,fun k hk=>by omega⟩
 case round =>
  clear hX hb ho
  obtain ⟨n,hn,rfl,hX,hb,hk⟩:=hrel
  by_cases hlt:n < 6
  ·have hltI:(n:Int) < 6:=by omega
   have hext:Hid _:=xgd b.obj ⟨n,hlt⟩
   have hin:=hB0.obj ⟨n,hlt⟩
   have hor:Hid (∀ k:Fin 6,k.val < n + 1 → k.val < n ∨ k = ⟨n,hlt⟩):=fun k hk=>by
    by_cases h:k.val < n
    ·exact .inl h
    ·exact .inr (Fin.ext (by show k.val = n;omega))
   have hkk:Hid (∀ k:Fin 6,k.val < n → isObjM (b.obj k) = true):=hk
   have hno:Hid (isObjM (b.obj ⟨n,hlt⟩) = false → xdu b = false):=fun h=>by
    cases hq:xdu b with
    | false=>rfl
    | true=>have:=(hM.out.1 hq).1 ⟨n,hlt⟩;rw [h] at this;cases this
   have hyes:Hid (isObjM (b.obj ⟨n,hlt⟩) = true → ∀ k:Fin 6,k.val < n + 1 → isObjM (b.obj k) = true):=fun h k hk=>by
    rcases hor.out k hk with h1 | h1
    ·exact hkk.out k h1
    ·rw [h1];exact h
   clear hk hor hkk
   generalize b.obj ⟨n,hlt⟩ = y at *
   obtain ⟨w3,hw3,hY,hq⟩:=xcm wr 29 (objC obj0) (objC y)
   replace hX:=hX.later hq
   replace hb:=hb.trans (hq.mono hb.size)
   clear hq
   go_wp2_with (first
    | (refine xce (by rfl) 30 _ _ rfl n (objsL b.obj).toArray rfl rfl 29 6 5 _ Tryz.underlying30 ?hn Tryz.underlying29 rfl xge ?_;(case hn=>exact hlt);rw [hext.out])
    | (refine xac (by rfl) 29 rfl (objC obj0) xdk ?_)
    | (refine xai (by rfl) 29 _ _ rfl wr.heap.size rfl (objC y) rfl 29 (objC obj0) (xbq _) rfl (xdd _) ?hg w3 ?hW ?_;(case hg=>exact Has.new _ _ _);(case hW=>exact hw3);clear hw3)
    | (refine xab (by rfl) 29 _ rfl wr.heap.size rfl 29 (objC y) _ Tryz.underlying29 rfl (xbq _) ?hg ?_;(case hg=>exact hY)))
   refine (isObject_any y _ hin).mono ?_
   rintro en w4 ⟨rfl,hq⟩
   replace hX:=hX.later hq
   replace hb:=hb.trans (hq.mono hb.size)
   clear hq
   cases hv:isObjM y with
   | false =>
    have hF:Hid _:=hno.out hv
    go_wp2
    go_ret
    exact ⟨by rw [hF.out];rfl,hb⟩
   | true =>
    have hF:Hid _:=hyes.out hv
    go_wp2
    go_roundw
    case rel=>exact ⟨n + 1,by omega,by go_num,hX,hb,hF.out⟩
    case measure=>simp [intOf];omega
  ·have e5:n = 6:=by omega
   subst e5
   have hall:Hid (∀ k:Fin 6,isObjM (b.obj k) = true):=fun k=>hk k k.isLt
   have hl:=lasts_in hX
   clear hk hlt hn
   go_wp2_with (first
    | (refine xae (by rfl) 35 _ rfl w.heap.size 30 rfl (lastsL b.last) _ ?hg Tryz.underlying35 rfl (lasts_size _) ?_;(case hg=>exact hl)))
   go_loopw [18] (fun i wr=>∃ n:Nat,n ≤ 3 ∧ i = .int .i64 n ∧ Below w.heap.size w wr ∧ ∀ k:Fin 3,k.val < n → xec (b.last k) = true) (fun i _=>3 - (intOf i).toNat)
   case atStart=>exact ⟨0,by decide,rfl,hb,fun k hk=>by omega⟩
   case round =>
    clear hX hb hl
    obtain ⟨n,hn,rfl,hb,hk⟩:=hrel
    by_cases hlt:n < 3
    ·have hltI:(n:Int) < 3:=by omega
     have hext:Hid _:=lasts_at_n b.last ⟨n,hlt⟩
     have hin:=hB0.last ⟨n,hlt⟩
     have hkk:Hid (∀ k:Fin 3,k.val < n → xec (b.last k) = true):=hk
     have hno:Hid (xec (b.last ⟨n,hlt⟩) = false → xdu b = false):=fun h=>by
      cases hq:xdu b with
      | false=>rfl
      | true=>have:=(hM.out.1 hq).2 ⟨n,hlt⟩;rw [h] at this;cases this
     have hyes:Hid (xec (b.last ⟨n,hlt⟩) = true → ∀ k:Fin 3,k.val < n + 1 → xec (b.last k) = true):=fun h k hk=>by
      by_cases h1:k.val < n
      ·exact hkk.out k h1
      ·rw [show k = ⟨n,hlt⟩ from Fin.ext (by show k.val = n;omega)];exact h
     clear hk hkk
     generalize b.last ⟨n,hlt⟩ = y at *
     obtain ⟨w3,hw3,hY,hq⟩:=xcm wr 34 (lastC last0) (lastC y)
     replace hb:=hb.trans (hq.mono hb.size)
     clear hq
     go_wp2_with (first
      | (refine xce (by rfl) 35 _ _ rfl n (lastsL b.last).toArray rfl rfl 34 3 3 _ Tryz.underlying35 ?hn Tryz.underlying34 rfl last_size3 ?_;(case hn=>exact hlt);rw [hext.out])
      | (refine xac (by rfl) 34 rfl (lastC last0) last_zero ?_)
      | (refine xai (by rfl) 34 _ _ rfl wr.heap.size rfl (lastC y) rfl 34 (lastC last0) (last_size _) rfl (last_one _) ?hg w3 ?hW ?_;(case hg=>exact Has.new _ _ _);(case hW=>exact hw3);clear hw3)
      | (refine xab (by rfl) 34 _ rfl wr.heap.size rfl 34 (lastC y) _ Tryz.underlying34 rfl (last_size _) ?hg ?_;(case hg=>exact hY)))
     refine (isLast_any y _ hin).mono ?_
     rintro en w4 ⟨rfl,hq⟩
     replace hb:=hb.trans (hq.mono hb.size)
     clear hq
     cases hv:xec y with
     | false =>
      have hF:Hid _:=hno.out hv
      go_wp2
      go_ret
      exact ⟨by rw [hF.out];rfl,hb⟩
     | true =>
      have hF:Hid _:=hyes.out hv
      go_wp2
      go_roundw
      case rel=>exact ⟨n + 1,by omega,by go_num,hb,hF.out⟩
      case measure=>simp [intOf];omega
    ·have e5:n = 3:=by omega
     subst e5
     have hF:Hid (xdu b = true):=hM.out.2 ⟨hall.out,fun k=>hk k k.isLt⟩
     go_wp2
     go_ret
     exact ⟨by rw [hF.out];rfl,hb⟩
end Go.Proofs.YtecilienolabfaaGreatDoor
/- LogIs: The contracts of pglog's isLog and Is. -/
namespace Go.Proofs.YtecilienolabfaaGreatDoor
set_option linter.unusedSimpArgs false
set_option linter.unusedVariables false
set_option maxRecDepth 100000
open Go.RowKit
theorem lastE_ok {t:EntV} {l:List EntV} (ht:EntOk t) (hl:∀ e ∈ l,EntOk e):EntOk (lastE t l):=by
 induction l using snoc_ind with
 | h0=>exact ht
 | h1 l x _ =>
  rw [xgy]
  have:=hl x (by simp)
  exact ⟨this.since,this.n,op0_ok⟩
theorem chain_take (t:EntV) (l:List EntV) (n:Nat) (h:n < l.length):chainM t (l.take (n + 1)) = (chainM t (l.take n) && xdf (lastE t (l.take n)) l[n]):=by
 rw [List.take_succ_eq_append_getElem h,chain_snoc]
theorem chain_no (t:EntV) (l:List EntV) (n:Nat) (h:chainM t (l.take n) = false):chainM t l = false:=by
 have:chainM t (l.take n ++ l.drop n) = false:=by rw [chain_app,h];rfl
 rw [List.take_append_drop] at this
 exact this
set_option maxHeartbeats 4000000 in
theorem isLog_any (t:EntV) (ao:Option Addr) (c:Nat) (l:List EntV) (w:World) (ht:EntOk t) (h:Sl w ao c 8 (entR l)) (hl:∀ e ∈ l,EntOk e) (hn:l.length ≤ 1000) :
  Calls Tryz.prog 100 #[.agg (entC t),.slice ao l.length c] w fun en w'=>en = .returned (.bool (isLogM t l)) ∧ Below w.heap.size w w':=by
 obtain ⟨w1,hw1,hT,hb⟩:=xbr w 41 (entC t)
 have hle:=h.ent_le
 have hcap:=h.cap
 by_cases h6:l.length ≤ 6
 ·have hI:¬ (6 < (l.length:Int)):=by omega
  have hM:Hid (isLogM t l = chainM t l):=by unfold isLogM;rw [decide_eq_true h6];rfl
  go_enter Tryz.func100,Tryz.ntmps100
  go_wp2
  go_loopw [12] (fun i wr=>∃ n:Nat,n ≤ l.length ∧ i = .int .i64 n ∧ Has wr w.heap.size 41 (entC t) ∧ Below w.heap.size w wr ∧ chainM t (l.take n) = true) (fun i _=>l.length - (intOf i).toNat)
  case atStart=>exact ⟨0,Nat.zero_le _,rfl,hT,hb,rfl⟩
  case round =>
   clear hT hb
   obtain ⟨n,hn,rfl,hT,hb,hc⟩:=hrel
   by_cases hlt:n < l.length
   ·cases ao with
    | none=>have:=h.nil rfl;omega
    | some ad =>
     have hx:=ent_at (h.later hb) n hlt
     have hxo:=hl l[n] (List.getElem_mem hlt)
     have hlo:=lastE_ok ht (l:=l.take n) (fun e he=>hl e (List.mem_of_mem_take he))
     have hlast:=fun W (hW:Below w.heap.size w W)=>last_any t (some ad) c (l.take n) W ((h.later hW).take n) (by rw [List.length_take];omega)
     rw [List.length_take,Nat.min_eq_left (by omega)] at hlast
     have hhead:=fun W=>run_head W (some ad) l.length c n (by omega)
     have hnext:Hid _:=chain_take t l n hlt
     have hno:Hid _:=chain_no t l (n + 1)
     rw [hc] at hnext
     replace hc:Hid _:=hc
     have hltI:(n:Int) < (l.length:Int):=by omega
     generalize l[n] = x at *
     generalize lastE t (l.take n) = p at *
     have hfol:=fun W=>follows_any p x W hlo hxo
     obtain ⟨w3,hw3,hX,hq⟩:=xcm wr 41 (entC ent0) (entC x)
     replace hT:=hT.later hq
     replace hb:=hb.trans (hq.mono hb.size)
     clear hq
     go_wp2_with (first
      | (refine xei (by rfl) 41 _ rfl _ rfl (entL x) _ ?hg Tryz.underlying41 rfl (xax x) ?_;(case hg=>exact hx))
      | (refine xac (by rfl) 41 rfl (entC ent0) xff ?_)
      | (refine xai (by rfl) 41 _ _ rfl wr.heap.size rfl (entC x) rfl 41 (entC ent0) (xax _) rfl (xet _) ?hg w3 ?hW ?_;(case hg=>exact Has.new _ _ _);(case hW=>exact hw3);clear hw3))
     have hbA:Below w3.heap.size w3 w3.drew:=(Below.refl _ _).drew
     refine xas (fun W=>Below w3.heap.size w3 W) (Plan.of [(0,true),(1,true),(2,true),(3,true),(5,true),(4,false),(6,false),(7,true)] .done) (by kernel_rfl) (by kernel_rfl) (by kernel_rfl) (by kernel_rfl) hbA ?_
     refine xaa _ _ rfl (xan (by rfl) 41 _ rfl w.heap.size rfl 41 (entC t) _ Tryz.underlying41 rfl (xax _) (fun W hW=>hT.later hW)) ?_
     try simp only [qp,qa,qb,qc]
     iterate 2
      first
       | (refine xad _ rfl (by rfl) ?_)
       | (refine xaa _ _ rfl (.inl ⟨by rfl,fun W hS=>by clear hS;go_simp;try with_reducible rfl⟩) ?_)
      try simp only [qp,qa,qb,qc]
     refine xaa _ (.slice (some ad) n c) rfl (.inl ⟨by rfl,fun W hS=>by clear hS;have z:=hhead W;go_simp;try with_reducible rfl⟩) ?_
     try simp only [qp,qa,qb,qc]
     refine xaa _ _ rfl (xan (by rfl) 41 _ rfl wr.heap.size rfl 41 (entC x) _ Tryz.underlying41 rfl (xax _) (fun W hW=>hX.later hW)) ?_
     try simp only [qp,qa,qb,qc]
     refine xam _ rfl (fun K hK=>?_)
     go_simp
     refine (hlast _ (hb.drew)).mono ?_
     rintro en w4 ⟨rfl,hq⟩
     have hb4:Below w3.heap.size w3 w4:=hbA.trans (hq.mono hbA.size)
     refine hK.out _ _ hb4 ?_
     clear hK K hq
     try simp only [qp,qa,qb,qc]
     refine xam _ rfl (fun K hK=>?_)
     go_simp
     refine (hfol _).mono ?_
     rintro en w5 ⟨rfl,hq⟩
     have hb5:Below w3.heap.size w3 w5:=hb4.trans (hq.mono hb4.size)
     refine hK.out _ _ hb5 ?_
     clear hK K hq hb4 hfol
     try simp only [qp,qa,qb,qc]
     replace hT:=hT.later hb5
     replace hb:=hb.trans (hb5.mono hb.size)
     clear hb5 hbA hX hx hlast
     cases hf:xdf p x with
     | false =>
      rw [hf] at hnext
      have hF:Hid _:=hno.out hnext.out
      refine xaa _ (.bool true) rfl (.inl ⟨by rfl,fun W hS=>by clear hS;go_simp;try with_reducible rfl⟩) ?_
      try simp only [qp,qa,qb,qc]
      refine xbf ?_
      go_wp2
      go_ret
      exact ⟨by rw [hM.out,hF.out];rfl,hb⟩
     | true =>
      rw [hf] at hnext
      refine xaa _ (.bool false) rfl (.inl ⟨by rfl,fun W hS=>by clear hS;go_simp;try with_reducible rfl⟩) ?_
      try simp only [qp,qa,qb,qc]
      refine xbf ?_
      go_wp2
      go_roundw
      case rel=>exact ⟨n + 1,by omega,by go_num,hT,hb,hnext.out⟩
      case measure=>simp [intOf];omega
   ·have e5:n = l.length:=by omega
    subst e5
    rw [List.take_length] at hc
    replace hc:Hid _:=hc
    go_wp2
    go_ret
    exact ⟨by rw [hM.out,hc.out];rfl,hb⟩
 ·have hI:6 < (l.length:Int):=by omega
  have hM:Hid (isLogM t l = false):=by unfold isLogM;rw [decide_eq_false h6];rfl
  go_enter Tryz.func100,Tryz.ntmps100
  go_wp2
  go_ret
  exact ⟨by rw [hM.out];rfl,hb⟩
theorem is_parts (s:StV):isSt s = (decide (s.started ≤ 60) && (xgi s.tail && (xdu s.base && isLogM s.tail s.log))):=rfl
set_option maxHeartbeats 4000000 in
theorem is_any7 (s:StV) (ao:Option Addr) (c:Nat) (w:World) (hs:StOk s) (h:Sl w ao c 8 (entR s.log)):Calls Tryz.prog 59 #[.agg (stC s ao c)] w fun en w'=>en = .returned (.bool (isSt s)) ∧ Below w.heap.size w w':=by
 obtain ⟨w1,hw1,hX,hb⟩:=xbr w 44 (stC s ao c)
 have hM:Hid _:=is_parts s
 have c0:=hX.st_started
 have h0:=hs.started
 have hle:=h.ent_le
 have hcap:=h.cap
 by_cases h1:s.started ≤ 60
 ·have h1I:(s.started:Int) ≤ 60:=by omega
  rw [decide_eq_true h1] at hM
  have ht:=hX.st_tail
  go_enter Tryz.func59,Tryz.ntmps59
  go_wp2_with (first
   | (refine xae (by first | rfl | simp [Region.wanted,yielded]) 41 _ rfl w.heap.size 40 rfl (entL s.tail) _ ?hg Tryz.underlying41 rfl (xax _) ?_;(case hg=>exact ht)))
  refine (isTail_any s.tail _ hs.tail).mono ?_
  rintro en w2 ⟨rfl,hq⟩
  replace hX:=hX.later hq
  replace hb:=hb.trans (hq.mono hb.size)
  have hB:=hX.st_base
  clear hq c0 ht
  cases h2:xgi s.tail with
  | false =>
   rw [h2] at hM
   go_wp2
   go_ret
   exact ⟨by rw [hM.out];rfl,hb⟩
  | true =>
   rw [h2] at hM
   go_wp2_with (first
    | (refine xae (by first | rfl | simp [Region.wanted,yielded]) 37 _ rfl w.heap.size 1 rfl (baseL s.base) _ ?hg Tryz.underlying37 rfl (xcl _) ?_;(case hg=>exact hB)))
   refine (isBase_any s.base _ hs.base).mono ?_
   rintro en w3 ⟨rfl,hq⟩
   replace hX:=hX.later hq
   replace hb:=hb.trans (hq.mono hb.size)
   have ht:=hX.st_tail
   have hl:=hX.st_log
   clear hq hB
   cases h3:xdu s.base with
   | false =>
    rw [h3] at hM
    go_wp2
    go_ret
    exact ⟨by rw [hM.out];rfl,hb⟩
   | true =>
    rw [h3] at hM
    go_wp2_with (first
     | (refine xae (by first | rfl | simp [Region.wanted,yielded]) 41 _ rfl w.heap.size 40 rfl (entL s.tail) _ ?hg Tryz.underlying41 rfl (xax _) ?_;(case hg=>exact ht)))
    refine (isLog_any s.tail ao c s.log _ hs.tail (h.later hb) hs.log hs.len).mono ?_
    rintro en w4 ⟨rfl,hq⟩
    replace hb:=hb.trans (hq.mono hb.size)
    clear hq
    go_wp2
    go_ret
    exact ⟨by rw [hM.out];rfl,hb⟩
 ·have h1I:¬ (s.started:Int) ≤ 60:=by omega
  rw [decide_eq_false h1] at hM
  go_enter Tryz.func59,Tryz.ntmps59
  go_wp2
  go_ret
  exact ⟨by rw [hM.out];rfl,hb⟩
end Go.Proofs.YtecilienolabfaaGreatDoor
