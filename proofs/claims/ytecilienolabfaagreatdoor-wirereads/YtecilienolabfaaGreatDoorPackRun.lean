/- Several texts in one, in build order: Hold, OffF, Any, ArmBy, SeqBy, SeqFork. -/
import Derived.Test.YtecilienolabfaaGreatDoorPackTools
/- Hold: But for one block the world is as it was; several variables held at once. Nothing of the program is in it. -/
namespace Go.Proofs.YtecilienolabfaaGreatDoor
set_option linter.unusedSimpArgs false
set_option linter.unusedVariables false
open Go.RowKit
structure But (p:Nat) (w w':World):Prop where
 os:w'.os = w.os
 tape:w'.tape = w.tape
 output:w'.output = w.output
 size:w.heap.size ≤ w'.heap.size
 block:∀ k,k < w.heap.size → k ≠ p → w'.heap[k]? = w.heap[k]?
theorem But.of {p:Nat} {w w':World} (h:Below w.heap.size w w'):But p w w':=⟨h.os,h.tape,h.output,h.size,fun k hk _=>h.block k hk⟩
theorem But.trans {p:Nat} {a b c:World} (h:But p a b) (k:But p b c):But p a c :=
 ⟨k.os.trans h.os,k.tape.trans h.tape,k.output.trans h.output,Nat.le_trans h.size k.size,fun i hi hn=>(k.block i (Nat.lt_of_lt_of_le hi h.size) hn).trans (h.block i hi hn)⟩
theorem But.has {p:Nat} {w w':World} {g:Nat} {t:TypeId} {c:Array Value} (h:But p w w') (hg:Has w g t c) (hn:g ≠ p):Has w' g t c:=by
 have:=hg.lt
 unfold Has at *
 rw [h.block g this hn]
 exact hg
theorem xap {p:Nat} {w:World} (vs:List Value) (o:Nat):But p w (w.setCells p o vs):=by
 induction vs generalizing w o with
 | nil=>exact But.of (Below.refl _ _)
 | cons v vs ih =>
  have h1:But p w (w.setCell ⟨p,o,none⟩ v):=by
   have:=(Below.refl 0 w).setCell (show 0 ≤ (⟨p,o,none⟩:Addr).block from Nat.zero_le _) v
   exact ⟨this.os,this.tape,this.output,this.size,fun k _ hk=>Below.heap_setCell w ⟨p,o,none⟩ v k hk⟩
  exact h1.trans (ih (o + 1))
abbrev Var:=Nat × TypeId × Array Value
end Go.Proofs.YtecilienolabfaaGreatDoor
/- OffF: But for some blocks the world is as it was: what a call that changes an object leaves. Nothing of the program is in it. -/
namespace Go.Proofs.YtecilienolabfaaGreatDoor
set_option linter.unusedSimpArgs false
set_option linter.unusedVariables false
open Go.RowKit
structure OffF (F:Nat → Prop) (w w':World):Prop where
 os:w'.os = w.os
 tape:w'.tape = w.tape
 output:w'.output = w.output
 size:w.heap.size ≤ w'.heap.size
 block:∀ k,k < w.heap.size → ¬ F k → w'.heap[k]? = w.heap[k]?
theorem OffF.of {F:Nat → Prop} {w w':World} (h:Below w.heap.size w w'):OffF F w w':=⟨h.os,h.tape,h.output,h.size,fun k hk _=>h.block k hk⟩
theorem OffF.but {p:Nat} {w w':World} (h:But p w w'):OffF (fun k=>k = p) w w':=⟨h.os,h.tape,h.output,h.size,fun k hk hn=>h.block k hk hn⟩
theorem OffF.trans {F:Nat → Prop} {a b c:World} (h:OffF F a b) (k:OffF F b c):OffF F a c :=
 ⟨k.os.trans h.os,k.tape.trans h.tape,k.output.trans h.output,Nat.le_trans h.size k.size,fun i hi hn=>(k.block i (Nat.lt_of_lt_of_le hi h.size) hn).trans (h.block i hi hn)⟩
theorem OffF.below {F:Nat → Prop} {w w':World} {B:Nat} (h:OffF F w w') (hF:∀ b,F b → B ≤ b) (hB:B ≤ w.heap.size):Below B w w' :=
 ⟨h.os,h.tape,h.output,h.size,fun k hk=>h.block k (Nat.lt_of_lt_of_le hk hB) (fun hf=>absurd (hF k hf) (by omega))⟩
theorem OffF.has {F:Nat → Prop} {w w':World} {g:Nat} {t:TypeId} {c:Array Value} (h:OffF F w w') (hg:Has w g t c) (hn:¬ F g):Has w' g t c:=by
 have:=hg.lt
 unfold Has at *
 rw [h.block g this hn]
 exact hg
end Go.Proofs.YtecilienolabfaaGreatDoor
/- Any: Regions that draw their order: what holds behind them, said once for all orders; and steps without a plan, where three and more can come up. Nothing of the program is in it. -/
namespace Go.Proofs.YtecilienolabfaaGreatDoor
set_option linter.unusedSimpArgs false
set_option linter.unusedVariables false
open Go.RowKit
def MidQ (F:Act → Act → World → Prop) (a:Act) (Q:Exit → Act → World → Prop):Exit → Act → World → Prop
 | .normal,a',w'=>F a a' w'
 | e,a',w'=>Q e a' w'
section
variable {P:Program} {ops:Array Oper} {Q:Exit → Act → World → Prop} {S:World → Prop}
theorem MidQ.imp {F:Act → Act → World → Prop} {a:Act} (hk:∀ a' w',F a a' w' → Q .normal a' w'):∀ (e:Exit) (a':Act) (w':World),MidQ F a Q e a' w' → Q e a' w':=fun e a' w' h=>by
 cases e <;> first | exact hk _ _ h | exact h
theorem xgp {F:Act → Act → World → Prop} {a a':Act} {w':World} (h:F a a' w'):MidQ F a Q .normal a' w':=h
end
end Go.Proofs.YtecilienolabfaaGreatDoor
/- ArmBy: Arms of a walk that let themselves in at one kind of operation, or at one guard, alone. Nothing of the program is in it. -/
namespace Go.Proofs.YtecilienolabfaaGreatDoor
section kinds
variable {P:Program} {ops:Array Oper} {rest:List Oper} {d:Option Tmp} {t:TypeId} {p:String} {af:Array Edge} {gd:Option (Nat × Bool)} {a:Act} {w:World} {Q:Exit → Act → World → Prop}
theorem at_bin {b:BinOp} {u u':TypeId} {x y:Operand} (h:wpList P ops Q (⟨d,.binOp b u x y u',t,p,af,gd⟩ :: rest) a w):wpList P ops Q (⟨d,.binOp b u x y u',t,p,af,gd⟩ :: rest) a w:=h
theorem at_bld {u:TypeId} {l:Array (Nat × Operand)} (h:wpList P ops Q (⟨d,.build u l,t,p,af,gd⟩ :: rest) a w):wpList P ops Q (⟨d,.build u l,t,p,af,gd⟩ :: rest) a w:=h
theorem at_loa {u:TypeId} {x:Operand} (h:wpList P ops Q (⟨d,.load u x,t,p,af,gd⟩ :: rest) a w):wpList P ops Q (⟨d,.load u x,t,p,af,gd⟩ :: rest) a w:=h
theorem at_gr {op:Op} (n:Nat) (b:Bool) (h:wpList P ops Q (⟨d,op,t,p,af,some (n,b)⟩ :: rest) a w):wpList P ops Q (⟨d,op,t,p,af,some (n,b)⟩ :: rest) a w:=h
theorem at_g0 {op:Op} (h:wpList P ops Q (⟨d,op,t,p,af,none⟩ :: rest) a w):wpList P ops Q (⟨d,op,t,p,af,none⟩ :: rest) a w:=h
end kinds
end Go.Proofs.YtecilienolabfaaGreatDoor
/- SeqBy: Operations one behind the other, a step each; what is left behind an '&&' that came out false. Nothing of the program is in it. -/
namespace Go.Proofs.YtecilienolabfaaGreatDoor
set_option linter.unusedVariables false
open Go.RowKit
def pureOp (ops:Array Oper) (o:Oper) (a:Act):Option Act :=
 match Region.wanted o (yielded ops a.tmps) with
 | false=>some (a.put o.dst undef)
 | true=>match o.op with
  | .move x=>some (a.put o.dst (a.eval x))
  | .assign x=>some (a.put o.dst (a.eval x))
  | .pick c x y=>match a.eval c with
   | .bool true=>some (a.put o.dst (a.eval x))
   | .bool false=>some (a.put o.dst (a.eval y))
   | _=>none
  | _=>none
def pureRun (ops:Array Oper):List Oper → Act → Option Act
 | [],a=>some a
 | o :: l,a=>match pureOp ops o a with
  | some b=>pureRun ops l b
  | none=>none
section
variable {P:Program} {ops:Array Oper} {rest:List Oper} {o:Oper} {a:Act} {w:World} {Q:Exit → Act → World → Prop}
theorem xaf (v:Value) (hy:YieldsIf P ops (fun W=>W = w) o v a) (h:wpList P ops Q rest (a.put o.dst v) w):wpList P ops Q (o :: rest) a w:=by
 rcases hy with ⟨hw,hr⟩ | ⟨hw,rfl⟩
 ·refine BigFrame.wpList_want hw fun K hK=>?_
  unfold Oper.wp
  rw [hr w rfl]
  exact hK _ _ h
 ·exact wpList_skip hw h
theorem xer (hw:Region.wanted o (yielded ops a.tmps) = true) (h:∀ K:Act → World → Prop,Shut (∀ a w,wpList P ops Q rest a w → K a w) → Oper.wp P o a w K Q):wpList P ops Q (o :: rest) a w :=
 BigFrame.wpList_want hw fun K hK=>h K hK
theorem pure_yields {b:Act} (h:pureOp ops o a = some b):∃ v,YieldsIf P ops (fun W=>W = w) o v a ∧ b = a.put o.dst v:=by
 unfold pureOp at h
 split at h
 ·rename_i hw
  exact ⟨undef,.inr ⟨hw,rfl⟩,(Option.some.inj h).symm⟩
 ·rename_i hw
  split at h
  ·rename_i x ho
   exact ⟨_,.inl ⟨hw,fun W _=>by unfold execOp;simp [ho]⟩,(Option.some.inj h).symm⟩
  ·rename_i x ho
   exact ⟨_,.inl ⟨hw,fun W _=>by unfold execOp;simp [ho]⟩,(Option.some.inj h).symm⟩
  ·rename_i c x y ho
   split at h
   ·rename_i hc
    exact ⟨_,.inl ⟨hw,fun W _=>by unfold execOp;simp [ho,hc];rfl⟩,(Option.some.inj h).symm⟩
   ·rename_i hc
    exact ⟨_,.inl ⟨hw,fun W _=>by unfold execOp;simp [ho,hc];rfl⟩,(Option.some.inj h).symm⟩
   ·cases h
  ·cases h
theorem seq_pure:∀ (l:List Oper) {a a':Act},pureRun ops l a = some a' → Q .normal a' w → wpList P ops Q l a w
 | [],a,a',h,hq=>by
  obtain rfl:=Option.some.inj h
  exact wpList_nil hq
 | o :: l,a,a',h,hq=>by
  have h:(match pureOp ops o a with | some b=>pureRun ops l b | none=>none) = some a':=h
  cases hb:pureOp ops o a with
  | none=>rw [hb] at h;cases h
  | some b =>
   rw [hb] at h
   obtain ⟨v,hy,rfl⟩:=pure_yields (P:=P) (w:=w) hb
   exact xaf v hy (seq_pure l h hq)
theorem pure_put {b:Act} (h:pureOp ops o a = some b):∃ v,b = a.put o.dst v:=by
 unfold pureOp at h
 split at h
 ·exact ⟨_,(Option.some.inj h).symm⟩
 ·split at h
  ·exact ⟨_,(Option.some.inj h).symm⟩
  ·exact ⟨_,(Option.some.inj h).symm⟩
  ·split at h
   ·exact ⟨_,(Option.some.inj h).symm⟩
   ·exact ⟨_,(Option.some.inj h).symm⟩
   ·cases h
  ·cases h
theorem pure_defers:∀ (l:List Oper) {a a':Act},pureRun ops l a = some a' → a'.defers = a.defers
 | [],a,a',h=>by
  obtain rfl:=Option.some.inj h
  rfl
 | o :: l,a,a',h=>by
  have h:(match pureOp ops o a with | some b=>pureRun ops l b | none=>none) = some a':=h
  cases hb:pureOp ops o a with
  | none=>rw [hb] at h;cases h
  | some b =>
   rw [hb] at h
   obtain ⟨v,rfl⟩:=pure_put hb
   rw [pure_defers l h]
   cases o.dst <;> rfl
def pureEnd (ops:Array Oper) (l:List Oper) (a:Act) (k:Nat):Option Bool:=match pureRun ops l a with
 | some a'=>match a'.tmps.getD k undef with
  | .bool b=>some b
  | _=>none
 | none=>none
theorem xbj {l:List Oper} (k:Nat) (b:Bool) (h:pureEnd ops l a k = some b) (hq:∀ a',a'.tmps.getD k undef = .bool b → a'.defers = a.defers → Q .normal a' w):wpList P ops Q l a w:=by
 unfold pureEnd at h
 cases hr:pureRun ops l a with
 | none=>rw [hr] at h;cases h
 | some a' =>
  rw [hr] at h
  refine seq_pure l hr (hq a' ?_ (pure_defers l hr))
  simp only at h
  split at h
  ·rename_i c hc
   rw [hc,Option.some.inj h]
  ·cases h
end
end Go.Proofs.YtecilienolabfaaGreatDoor
/- SeqFork: A call that is made or passed over; what follows, said once. Nothing of the program is in it. -/
namespace Go.Proofs.YtecilienolabfaaGreatDoor
set_option linter.unusedVariables false
open Go.RowKit
section
variable {P:Program} {ops:Array Oper} {rest:List Oper} {o:Oper} {a:Act} {w:World} {Q:Exit → Act → World → Prop}
theorem seq_fork (f:Bool) (G:World → Prop) (v:Value) (hno:f = false → Region.wanted o (yielded ops a.tmps) = false ∧ G w)
  (hyes:f = true → Region.wanted o (yielded ops a.tmps) = true ∧ ∀ K:Act → World → Prop,Shut (∀ w',G w' → K (a.put o.dst v) w') → Oper.wp P o a w K Q)
  (h:∀ w',G w' → wpList P ops Q rest (a.put o.dst (if f = true then v else undef)) w'):wpList P ops Q (o :: rest) a w:=by
 cases f with
 | false=>exact wpList_skip (hno rfl).1 (h w (hno rfl).2)
 | true=>exact BigFrame.wpList_want (hyes rfl).1 fun K hK=>(hyes rfl).2 K (fun w' hG=>hK _ _ (h w' hG))
theorem xft (f:Bool) (v:Value) (hno:f = false → Region.wanted o (yielded ops a.tmps) = false) (hyes:f = true → YieldsIf P ops (fun W=>W = w) o v a)
  (h:wpList P ops Q rest (a.put o.dst (if f = true then v else undef)) w):wpList P ops Q (o :: rest) a w:=by
 cases f with
 | false=>exact wpList_skip (hno rfl) h
 | true=>exact xaf v (hyes rfl) h
theorem xeu {fn:Func} {R:Ending → World → Prop} {K:Act → World → Prop} {k:Nat} {b:Bool} (hk:∀ a w,Code.wp P Code.ret (bodyPost P fn R) a w → K a w) (hr:fn.results = #[.tmp k]) (h1:a.tmps.getD k undef = .bool b) (h2:a.defers = []) (h:R (.returned (.bool b)) w):Exit.then K (bodyPost P fn R) .normal a w :=
 hk _ _ (wp_ret (bodyPost_ret (results_tmp hr _ _ _) h2 (by rw [h1];exact h)))
end
end Go.Proofs.YtecilienolabfaaGreatDoor
