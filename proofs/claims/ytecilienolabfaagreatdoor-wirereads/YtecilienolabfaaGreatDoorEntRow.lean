/- Rows of entries in one block: make, copy. -/
import Derived.Test.YtecilienolabfaaGreatDoorPackLog
import Derived.Laws.CopyRow
import Derived.Laws.CopyOwn
namespace Go.Proofs.YtecilienolabfaaGreatDoor
set_option linter.unusedSimpArgs false
set_option linter.unusedVariables false
set_option maxRecDepth 100000
open Go.RowKit
def entF (l:List EntV):List Value:=(entR l).flatten
theorem xeq (l:List EntV):(entF l).length = l.length * 8:=by
 induction l with
 | nil=>rfl
 | cons e l ih =>
  show (entL e ++ entF l).length = _
  rw [List.length_append,ih,entL_len,List.length_cons]
  omega
theorem entF_app (a b:List EntV):entF (a ++ b) = entF a ++ entF b:=by
 unfold entF entR
 rw [List.map_append,List.flatten_append]
theorem entR_each (l:List EntV):∀ r ∈ entR l,r.length = 8:=by
 intro r hr
 obtain ⟨x,_,rfl⟩:=List.mem_map.1 hr
 rfl
theorem entF_at (l:List EntV) (i:Nat) (h:i < l.length) (j:Nat) (hj:j < 8):(entF l)[i * 8 + j]? = (entL l[i])[j]?:=by
 have:=flatten_at (entR l) (entR_each l) i (by rw [xgr];exact h) j hj
 unfold entF
 rw [this]
 unfold entR
 rw [List.getElem_map]
theorem entF_one (l:List EntV):∀ v ∈ entF l,v.oneCell' = true:=by
 intro v hv
 obtain ⟨r,hr,hv⟩:=List.mem_flatten.1 hv
 obtain ⟨x,_,rfl⟩:=List.mem_map.1 hr
 exact entL_one x v hv
theorem Has.ents {w:World} {g:Nat} {l:List EntV} (h:Has w g 41 (entF l).toArray) (hn:l.length ≤ 1000000):Sl w (some ⟨g,0,none⟩) l.length 8 (entR l):=by
 have:=Sl.of_block (w:=w) (g:=g) (sz:=8) (rows:=entR l) h (entR_each l) (by rw [xgr];exact hn)
 rw [xgr] at this
 exact this
theorem Sl.cells {w:World} {ad:Addr} {c:Nat} {l:List EntV} (h:Sl w (some ad) c 8 (entR l)):∀ j v,(entF l)[j]? = some v → w.cell? (ad.add j) = some v:=by
 intro j v hj
 have hlt:j < l.length * 8:=by
  have:=(List.getElem?_eq_some_iff.1 hj).1
  rw [xeq] at this
  exact this
 have e:j = j / 8 * 8 + j % 8:=by omega
 have hi:j / 8 < l.length:=by omega
 rw [e,entF_at l (j / 8) hi (j % 8) (by omega)] at hj
 have:=ent_at h (j / 8) hi (j % 8) v hj
 rw [Go.Deep.add_add,← e] at this
 exact this
theorem ent_info:∃ i,Tryz.prog.info? 41 = some i ∧ i.zero = some (.agg (entC ent0)) ∧ i.size = 8 ∧ i.bytes ≤ 64:=by
 have h:(Tryz.prog.info? 41).map (fun i=>(i.zero,i.size,decide (i.bytes ≤ 64))) = some (some (.agg (entC ent0)),8,true):=by kernel_rfl
 cases hi:Tryz.prog.info? 41 with
 | none=>rw [hi] at h;cases h
 | some i =>
  rw [hi] at h
  simp only [Option.map_some,Option.some.injEq,Prod.mk.injEq,decide_eq_true_eq] at h
  exact ⟨i,rfl,h.1,h.2.1,h.2.2⟩
theorem ent_made (N:Nat):(madeCells (Value.agg (entC ent0)).cells (N * 8)).toList = entF (List.replicate N ent0):=by
 apply List.ext_getElem?
 intro i
 unfold madeCells
 simp only [Array.toList_map,Array.toList_range]
 rw [List.getElem?_map]
 by_cases h:i < N * 8
 ·rw [List.getElem?_range h]
  have e:i = i / 8 * 8 + i % 8:=by omega
  have:=entF_at (List.replicate N ent0) (i / 8) (by rw [List.length_replicate];omega) (i % 8) (by omega)
  rw [← e] at this
  rw [this,List.getElem_replicate]
  have hm:i % 8 < 8:=by omega
  show some ((Value.agg (entC ent0)).cells[i % 8]!) = _
  match i % 8,hm with
  | 0,_=>rfl
  | 1,_=>rfl
  | 2,_=>rfl
  | 3,_=>rfl
  | 4,_=>rfl
  | 5,_=>rfl
  | 6,_=>rfl
  | 7,_=>rfl
 ·rw [List.getElem?_eq_none (by simpa using h),List.getElem?_eq_none (by rw [xeq,List.length_replicate];omega)]
  rfl
theorem ents_has {w:World} {g N:Nat} {b:Nat} (h:w.ownsRow b 41 8 (.slice (some ⟨g,0,none⟩) N N) N (madeCells (Value.agg (entC ent0)).cells (N * 8)).toList):Has w g 41 (entF (List.replicate N ent0)).toArray:=by
 rcases h.2 with ⟨hv,_⟩ | ⟨g',cap,cur,hv,hg,hc,hle,hm,hs,hx⟩
 ·cases hv
 ·injection hv with h1 h2 h3
  injection h1 with h1
  injection h1 with h1
  subst h1
  unfold Has
  rw [hc]
  congr 1
  congr 1
  rw [ent_made] at hx
  rw [List.take_of_length_le (by rw [Array.length_toList,hs,← h3];exact Nat.le_refl _)] at hx
  rw [← hx]
theorem run_copy_ents (w:World) (ty:TypeId) (g off:Nat) (dp:Option Addr) (dLen dCap:Nat) (sp:Option Addr) (sCap:Nat) (cur:List Value) (l:List EntV) (h:Sl w sp sCap 8 (entR l)) (hg:Has w g 41 cur.toArray) (hd:0 < l.length → dp = some ⟨g,off,none⟩) (hle:l.length ≤ dLen) (hfit:off + l.length * 8 ≤ cur.length) :
  (Builtin.copy_ #[42,42] ty #[.slice dp dLen dCap,.slice sp l.length sCap]).run Tryz.prog w = .ok (goInt l.length) (w.setRow g (splice cur off (entF l)).toArray):=by
 obtain ⟨i,hq,_,hi,_⟩:=ent_info
 have hmin:Nat.min l.length dLen = l.length:=Nat.min_eq_left hle
 by_cases h0:l.length = 0
 ·obtain rfl:l = []:=List.eq_nil_of_length_eq_zero h0
  have hw:w.setRow g (splice cur off (entF [])).toArray = w:=by
   have e:splice cur off (entF []) = cur:=by
    unfold splice entF entR
    simp
   rw [e]
   exact setRow_self w g cur.toArray 41 (0,0) hg
  rw [hw]
  have hl:∀ (x:Addr),(loadCells x 0).run Tryz.prog w = .ok #[] w:=fun x=>by simpa using run_loadCells_list (P:=Tryz.prog) w x [] (by simp)
  have hm:Nat.min 0 dLen = 0:=Nat.zero_min _
  cases dp <;> cases sp <;> simp [Builtin.copy_,run_underlying Tryz.underlying42,Builtin.lenOf,Builtin.firstCells,sizeOf,typeInfo,hq,hm,storeCells,hl]
 ·obtain rfl:=hd (by omega)
  cases sp with
  | none=>have:=h.nil rfl;have:=h.ent_le;omega
  | some ad =>
   have hl:=run_loadCells_list (P:=Tryz.prog) w ad (entF l) h.cells
   have hst:=run_storeCells_at Tryz.prog g off 41 (entF l) 0 cur.toArray w hg (by rw [xeq,List.size_toArray];omega) (entF_one l)
   rw [xeq] at hl
   have e:(splice cur off (entF l)).toArray = (cur.toArray.toList.take (off + 0) ++ entF l ++ cur.toArray.toList.drop (off + 0 + (entF l).length)).toArray:=by
    unfold splice
    simp
   rw [e]
   simp [Builtin.copy_,run_underlying Tryz.underlying42,Builtin.lenOf,Builtin.firstCells,sizeOf,typeInfo,hq,hi,hmin,hl]
   simp at hst
   rw [hst]
   simp [Result.andThen]
theorem wpList_copy_ents {ops:Array Oper} {rest:List Oper} {o:Oper} {a:Act} {w:World} {Q:Exit → Act → World → Prop} (hgd:o.guard = none) (d s:Operand)
  (ho:o.op = .call { callee:=.builtin .copy,args:=#[d,s],argTypes:=#[42,42] }) (g off:Nat) (dp:Option Addr) (dLen dCap:Nat) (sp:Option Addr) (sCap:Nat) (cur:List Value) (l:List EntV)
  (hdv:a.eval d = .slice dp dLen dCap) (hsv:a.eval s = .slice sp l.length sCap) (h:Sl w sp sCap 8 (entR l)) (hg:Has w g 41 cur.toArray) (hd:0 < l.length → dp = some ⟨g,off,none⟩) (hle:l.length ≤ dLen) (hfit:off + l.length * 8 ≤ cur.length)
  (W:World) (hW:w.setRow g (splice cur off (entF l)).toArray = W) (hK:wpList Tryz.prog ops Q rest (a.put o.dst (.int .i64 (l.length:Int))) W):wpList Tryz.prog ops Q (o :: rest) a w:=by
 refine wpList_plain hgd fun K hK'=>?_
 have hr:=run_copy_ents w o.type g off dp dLen dCap sp sCap cur l h hg hd hle hfit
 unfold Oper.wp
 simp [execOp,ho,resolve,invoke,builtin,hdv,hsv,hr,Result.andThen]
 rw [hW]
 exact hK' _ _ hK
theorem splice_first (l m:List EntV):splice (entF (List.replicate (l.length + m.length) ent0)) 0 (entF l) = entF (l ++ List.replicate m.length ent0):=by
 unfold splice
 rw [entF_app,xeq,Nat.zero_add,List.take_zero,List.nil_append]
 congr 1
 rw [show List.replicate (l.length + m.length) ent0 = List.replicate l.length ent0 ++ List.replicate m.length ent0 from (List.replicate_append_replicate).symm,entF_app]
 have:l.length * 8 = (entF (List.replicate l.length ent0)).length:=by rw [xeq,List.length_replicate]
 rw [this,List.drop_left]
end Go.Proofs.YtecilienolabfaaGreatDoor
