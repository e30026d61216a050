/- Who is handed a message's numbers and texts, as a bundle of contracts; variables held while such a one changes its own blocks; regions that draw their order and may panic. -/
import Derived.Test.YtecilienolabfaaGreatDoorWireFacts
import Derived.Test.YtecilienolabfaaGreatDoorPackRun
namespace Go.Proofs.YtecilienolabfaaGreatDoor
set_option linter.unusedSimpArgs false
set_option linter.unusedVariables false
set_option maxRecDepth 100000
open Go.RowKit
def thrown (n:Nat):Ending:=.panicked [{ v:=.iface 52 (.int .i64 (n:Int)),recovered:=false }]
structure Stp (F F':Nat → Prop) (w w':World):Prop where
 off:OffF F w w'
 new:∀ k,F' k → F k ∨ w.heap.size ≤ k
 keep:∀ (k:Nat) (t:TypeId) (v:Value),t ≠ 5 → Has w k t #[v] → ∃ v',Has w' k t #[v']
theorem Stp.refl (F:Nat → Prop) (w:World):Stp F F w w:=⟨OffF.of (Below.refl _ _),fun _ h=>.inl h,fun _ _ v _ h=>⟨v,h⟩⟩
theorem Stp.of {F:Nat → Prop} {w w':World} (h:Below w.heap.size w w'):Stp F F w w':=⟨OffF.of h,fun _ h=>.inl h,fun _ _ v _ q=>⟨v,q.later h⟩⟩
theorem Stp.trans {F G H:Nat → Prop} {a b c:World} (h:Stp F G a b) (k:Stp G H b c):Stp F H a c:=by
 refine ⟨⟨k.off.os.trans h.off.os,k.off.tape.trans h.off.tape,k.off.output.trans h.off.output,Nat.le_trans h.off.size k.off.size,fun i hi hn=>?_⟩,fun i hi=>?_,fun i t v ht q=>by obtain ⟨v1,q1⟩:=h.keep i t v ht q;exact k.keep i t v1 ht q1⟩
 ·rw [k.off.block i (Nat.lt_of_lt_of_le hi h.off.size) (fun hg=>?_),h.off.block i hi hn]
  rcases h.new i hg with q | q
  ·exact hn q
  ·omega
 ·rcases k.new i hi with q | q
  ·exact h.new i q
  ·exact .inr (Nat.le_trans h.off.size q)
abbrev Inv:=World → List UInt8 → (Nat → Prop) → Prop
def Ends {α:Type} (I:Inv) (F:Nat → Prop) (w:World) (r:Except Nat (α × List UInt8)) (V:α → Value) (e:Ending) (w':World):Prop:=match r with
 | .ok (x,s)=>∃ F',e = .returned (V x) ∧ I w' s F' ∧ Stp F F' w w'
 | .error n=>e = thrown n ∧ ∃ F',Stp F F' w w'
def Bare (B:Prop) {α:Type} (r:Except Nat (α × List UInt8)):Prop:=B → r ≠ .error 99
theorem Bare.here {B:Prop} {α β:Type} {r:Except Nat (β × List UInt8)} {m:Wk α} {f:α → Wk β} {s:List UInt8} (h:Bare B r) (e:r = m.bind f s):Bare B (m s):=fun b q=>h b (e.trans (xau q))
theorem Bare.no {α:Type} {r:Except Nat (α × List UInt8)}:Bare False r:=fun b=>b.elim
structure Coder (B:Prop) (C:CodM) (cv:Value) (I:Inv) (R:Nat → Prop):Prop where
 kept:∀ w w' s F,I w s F → w.heap.size ≤ w'.heap.size → (∀ k,k < w.heap.size → F k ∨ R k → w'.heap[k]? = w.heap[k]?) → I w' s F
 lt:∀ w s F,I w s F → ∀ k,F k ∨ R k → k < w.heap.size
 len:∀ n k s m t,C.num n k s = .ok (m,t) → m = n ∨ m < 256 ^ k
 one:∀ w s F n,I w s F → n < 256 → Bare B (oneM C n s) → Calls Tryz.prog 66 #[.agg #[cv],.int .u8 (n:Nat)] w (Ends I F w (oneM C n s) fun m=>.int .u8 (m:Nat))
 four:∀ w s F n,I w s F → n < 4294967296 → Bare B (fourM C n s) → Calls Tryz.prog 67 #[.agg #[cv],.int .u32 (n:Nat)] w (Ends I F w (fourM C n s) fun m=>.int .u32 (m:Nat))
 small:∀ w s F (n:Int),I w s F → -9223372036854775808 ≤ n → n ≤ 9223372036854775807 → Bare B (smallM C n s) → Calls Tryz.prog 105 #[.agg #[cv],.int .i64 n] w (Ends I F w (smallM C n s) fun m=>.int .i64 m)
 data:∀ w s F t,I w s F → t.length ≤ 80 → Bare B (dataM C t s) → Calls Tryz.prog 106 #[.agg #[cv],strV t] w (Ends I F w (dataM C t s) strV)
 res:∀ w s F (r:ResV),I w s F → r.code < 256 → r.data.length ≤ 80 → Bare B (resM C r s) → Calls Tryz.prog 74 #[.agg #[cv],.agg (resC r)] w (Ends I F w (resM C r s) fun m=>.agg (resC m))
structure Run (I:Inv) (R F0:Nat → Prop) (w0:World) (F:Nat → Prop) (w:World) (s:List UInt8) (l:List Var):Prop where
 inv:I w s F
 stp:Stp F0 F w0 w
 hold:∀ e ∈ l,Has w e.1 e.2.1 e.2.2
 clear:∀ e ∈ l,¬ F e.1 ∧ ¬ R e.1
 new:∀ e ∈ l,w0.heap.size ≤ e.1
section
variable {B:Prop} {C:CodM} {cv:Value} {I:Inv} {R F0 F F':Nat → Prop} {w0 w w':World} {s s':List UInt8} {l:List Var}
theorem Run.start (h:I w s F):Run I R F w F w s []:=⟨h,Stp.refl _ _,(fun _ h=>by cases h),(fun _ h=>by cases h),fun _ h=>by cases h⟩
theorem Run.get (h:Run I R F0 w0 F w s l) (i:Nat) {g:Nat} {t:TypeId} {c:Array Value} (hi:l[i]? = some (g,t,c)):Has w g t c:=h.hold (g,t,c) (List.mem_of_getElem? hi)
theorem Run.later (hC:Coder B C cv I R) (h:Run I R F0 w0 F w s l) (k:Below w.heap.size w w'):Run I R F0 w0 F w' s l :=
 ⟨hC.kept _ _ _ _ h.inv k.size (fun i hi _=>k.block i hi),h.stp.trans (Stp.of k),fun e he=>(h.hold e he).later k,h.clear,h.new⟩
theorem Run.drew (hC:Coder B C cv I R) (h:Run I R F0 w0 F w s l):Run I R F0 w0 F w.drew s l:=h.later hC (Below.refl _ _).drew
theorem Run.call (hC:Coder B C cv I R) (h:Run I R F0 w0 F w s l) (hI:I w' s' F') (hs:Stp F F' w w'):Run I R F0 w0 F' w' s' l :=
 ⟨hI,h.stp.trans hs,fun e he=>hs.off.has (h.hold e he) (h.clear e he).1,fun e he=>⟨fun hf=>by
  rcases hs.new _ hf with q | q
  ·exact (h.clear e he).1 q
  ·have:=(h.hold e he).lt;omega,(h.clear e he).2⟩,h.new⟩
theorem Run.alloc (hC:Coder B C cv I R) (h:Run I R F0 w0 F w s l) (t:TypeId) (c:Array Value):Run I R F0 w0 F (w.alloc (.cells c t)) s (l ++ [(w.heap.size,t,c)]):=by
 have k:Below w.heap.size w (w.alloc (.cells c t)):=(Below.refl _ _).alloc (Nat.le_refl _) _
 have h1:=h.later hC k
 refine ⟨h1.inv,h1.stp,fun e he=>?_,fun e he=>?_,fun e he=>?_⟩
 ·rcases List.mem_append.1 he with he | he
  ·exact h1.hold e he
  ·rw [List.mem_singleton.1 he];exact Has.new _ _ _
 ·rcases List.mem_append.1 he with he | he
  ·exact h1.clear e he
  ·rw [List.mem_singleton.1 he]
   exact ⟨fun q=>absurd (hC.lt _ _ _ h.inv _ (.inl q)) (Nat.lt_irrefl _),fun q=>absurd (hC.lt _ _ _ h.inv _ (.inr q)) (Nat.lt_irrefl _)⟩
 ·rcases List.mem_append.1 he with he | he
  ·exact h1.new e he
  ·rw [List.mem_singleton.1 he];exact h.stp.off.size
theorem Run.wrote (hC:Coder B C cv I R) (h:Run I R F0 w0 F w s l) (i:Nat) {g:Nat} {t:TypeId} {c c':Array Value} (hi:l[i]? = some (g,t,c)) (hne:∀ j e,l[j]? = some e → j ≠ i → e.1 ≠ g) (hB:But g w w') (hg:Has w' g t c'):Run I R F0 w0 F w' s (l.set i (g,t,c')):=by
 have hm:=List.mem_of_getElem? hi
 have hcl:=h.clear _ hm
 have hnw:=h.new _ hm
 have part:∀ e ∈ l.set i (g,t,c'),e = (g,t,c') ∨ (e ∈ l ∧ e.1 ≠ g):=by
  intro e he
  obtain ⟨j,hj⟩:=List.mem_iff_getElem?.1 he
  rw [List.getElem?_set] at hj
  split at hj
  ·split at hj
   ·exact .inl (Option.some.inj hj).symm
   ·cases hj
  ·rename_i hij
   exact .inr ⟨List.mem_of_getElem? hj,hne j e hj (fun q=>hij q.symm)⟩
 refine ⟨hC.kept _ _ _ _ h.inv hB.size (fun k hk hF=>hB.block k hk (fun e=>?_)),⟨⟨hB.os.trans h.stp.off.os,hB.tape.trans h.stp.off.tape,hB.output.trans h.stp.off.output,Nat.le_trans h.stp.off.size hB.size,fun k hk hn=>(hB.block k (Nat.lt_of_lt_of_le hk h.stp.off.size) (fun e=>?_)).trans (h.stp.off.block k hk hn)⟩,h.stp.new,fun k t v ht q=>by obtain ⟨v1,q1⟩:=h.stp.keep k t v ht q;have hk:=q.lt;exact ⟨v1,hB.has q1 (fun e=>by have:w0.heap.size ≤ g:=hnw;omega)⟩⟩,fun e he=>?_,fun e he=>?_,fun e he=>?_⟩
 ·subst e
  rcases hF with q | q
  ·exact hcl.1 q
  ·exact hcl.2 q
 ·subst e
  exact absurd hk (by have:w0.heap.size ≤ k:=hnw;omega)
 ·rcases part e he with rfl | ⟨q,hn⟩
  ·exact hg
  ·exact hB.has (h.hold e q) hn
 ·rcases part e he with rfl | ⟨q,hn⟩
  ·exact hcl
  ·exact h.clear e q
 ·rcases part e he with rfl | ⟨q,hn⟩
  ·exact hnw
  ·exact h.new e q
theorem xbb {g:Nat} (w:World) (c:Array Value):But g w (w.setRow g c):=by
 have:=below_setRow (Below.refl 0 w) (Nat.zero_le g) c
 exact ⟨this.os,this.tape,this.output,this.size,fun k _ hk=>setRow_other w g k c hk⟩
def Held (I:Inv) (R F0:Nat → Prop) (w0:World) (l:List Var) (W:World):Prop:=∃ F s,Run I R F0 w0 F W s l
theorem Run.sub (h:Run I R F0 w0 F w s l) {l':List Var} (hl:∀ e ∈ l',e ∈ l):Run I R F0 w0 F w s l':=⟨h.inv,h.stp,fun e he=>h.hold e (hl e he),fun e he=>h.clear e (hl e he),fun e he=>h.new e (hl e he)⟩
theorem Run.held2 {a b:Var} (h:Run I R F0 w0 F w s (a :: b :: l)):Held I R F0 w0 [a,b] w:=⟨F,s,h.sub fun e he=>by
 rcases List.mem_cons.1 he with rfl | he
 ·simp
 ·rw [List.mem_singleton.1 he];simp⟩
theorem Held.get {W:World} (h:Held I R F0 w0 l W) (i:Nat) {g:Nat} {t:TypeId} {c:Array Value} (hi:l[i]? = some (g,t,c)):Has W g t c:=by
 obtain ⟨F,s,h⟩:=h
 exact h.get i hi
theorem Held.cell {W:World} (h:Held I R F0 w0 l W) (i:Nat) {g:Nat} {t:TypeId} {c:Array Value} (hi:l[i]? = some (g,t,c)) (j:Nat) {v:Value} (hv:c[j]? = some v):W.cell? ⟨g,j,none⟩ = some v:=((h.get i hi).cell j).trans hv
end
section
variable {B:Prop} {C:CodM} {cv:Value} {I:Inv} {R F F':Nat → Prop} {w w':World} {s s':List UInt8}
theorem xck {α:Type} {r:Except Nat (α × List UInt8)} {V:α → Value} {e:Ending} {n:Nat} (h:r = .error n) (he:e = thrown n) (hs:∃ F',Stp F F' w w'):Ends I F w r V e w':=by
 subst h
 exact ⟨he,hs⟩
theorem xda {α:Type} {r:Except Nat (α × List UInt8)} {V:α → Value} {e:Ending} {x:α} (h:r = .ok (x,s')) (he:e = .returned (V x)) (hI:I w' s' F') (hs:Stp F F' w w'):Ends I F w r V e w':=by
 subst h
 exact ⟨F',he,hI,hs⟩
theorem Ends.split {α:Type} {r:Except Nat (α × List UInt8)} {V:α → Value} {e:Ending} (h:Ends I F w r V e w'):(∃ n,r = .error n ∧ e = thrown n ∧ ∃ F',Stp F F' w w') ∨ (∃ x s' F',r = .ok (x,s') ∧ e = .returned (V x) ∧ I w' s' F' ∧ Stp F F' w w'):=by
 unfold Ends at h
 split at h
 ·obtain ⟨F',h1,h2,h3⟩:=h
  exact .inr ⟨_,_,F',rfl,h1,h2,h3⟩
 ·exact .inl ⟨_,rfl,h.1,h.2⟩
def Thr {α:Type} (F:Nat → Prop) (w:World) (r:Except Nat (α × List UInt8)) (c:List PanicEntry) (W:World):Prop:=∃ n,r = .error n ∧ Ending.panicked c = thrown n ∧ ∃ F',Stp F F' w W
theorem Thr.ends {α:Type} {r:Except Nat (α × List UInt8)} {V:α → Value} {c:List PanicEntry} (h:Thr F w r c w'):Ends I F w r V (.panicked c) w':=by
 obtain ⟨n,h1,h2,h3⟩:=h
 exact xck h1 h2 h3
theorem xbp {α:Type} {r:Except Nat (α × List UInt8)} {n:Nat} (h:r = .error n) (hs:∃ F',Stp F F' w w'):Thr F w r [{ v:=.iface 52 (.int .i64 (n:Int)),recovered:=false }] w':=⟨n,h,rfl,hs⟩
theorem xdr (hC:Coder B C cv I R) (h:I w s F) (t1 t2 t3:TypeId) (c1 c2 c3:Array Value) :
  ∃ W,((w.alloc (.cells c1 t1)).alloc (.cells c2 t2)).alloc (.cells c3 t3) = W ∧ Run I R F w F W s [(w.heap.size,t1,c1),(w.heap.size + 1,t2,c2),(w.heap.size + 1 + 1,t3,c3)]:=by
 refine ⟨_,rfl,?_⟩
 have h1:=(((Run.start h:Run I R F w F w s []).alloc hC t1 c1).alloc hC t2 c2).alloc hC t3 c3
 simpa using h1
theorem Run.third (hC:Coder B C cv I R) {F0:Nat → Prop} {w0:World} {t1 t2 t3:TypeId} {c1 c2 c3:Array Value} {g:Nat} (h:Run I R F0 w0 F w s [(g,t1,c1),(g + 1,t2,c2),(g + 1 + 1,t3,c3)]) (c:Array Value) :
  Run I R F0 w0 F (w.setRow (g + 1 + 1) c) s [(g,t1,c1),(g + 1,t2,c2),(g + 1 + 1,t3,c)]:=by
 have h3:=h.get 2 rfl
 exact h.wrote hC 2 rfl (fun j e hj hne=>by
  match j,hj with
  | 0,hj=>obtain rfl:=Option.some.inj hj;show g ≠ _;omega
  | 1,hj=>obtain rfl:=Option.some.inj hj;show g + 1 ≠ _;omega
  | 2,_=>exact absurd rfl hne) (xbb w c) (h3.row c)
end
theorem Run.fourth {B:Prop} {C:CodM} {cv:Value} {I:Inv} {R F F0:Nat → Prop} {w w0 w':World} {s:List UInt8} (hC:Coder B C cv I R) {t1 t2 t3 t4:TypeId} {c1 c2 c3 c4 c':Array Value} {g k:Nat} (h:Run I R F0 w0 F w s [(g,t1,c1),(g + 1,t2,c2),(g + 1 + 1,t3,c3),(k,t4,c4)]) (hk:g + 1 + 1 < k) (hB:But k w w') (hg:Has w' k t4 c') :
  Run I R F0 w0 F w' s [(g,t1,c1),(g + 1,t2,c2),(g + 1 + 1,t3,c3),(k,t4,c')] :=
 h.wrote hC 3 rfl (fun j e hj hne=>by
  match j,hj with
  | 0,hj=>obtain rfl:=Option.some.inj hj;show g ≠ _;omega
  | 1,hj=>obtain rfl:=Option.some.inj hj;show g + 1 ≠ _;omega
  | 2,hj=>obtain rfl:=Option.some.inj hj;show g + 1 + 1 ≠ _;omega
  | 3,_=>exact absurd rfl hne) hB hg
theorem xaq {g:Nat} (w:World) (o:Nat) (v:Value):But g w (w.setCell ⟨g,o,none⟩ v):=xap [v] o
/-! ## Regions that draw their order and may panic -/
def PanQ (X:List PanicEntry → World → Prop) (D:List Deferred) (Q:Exit → Act → World → Prop):Exit → Act → World → Prop
 | .panic c,a,w=>X c w ∧ a.defers = D
 | e,a,w=>Q e a w
section
variable {P:Program} {ops:Array Oper} {Q:Exit → Act → World → Prop} {S:World → Prop} {X:List PanicEntry → World → Prop} {D:List Deferred}
theorem PanQ.imp (hk:∀ c a w,X c w → a.defers = D → Q (.panic c) a w):∀ (e:Exit) (a:Act) (w:World),PanQ X D Q e a w → Q e a w:=fun e a w h=>by
 cases e <;> first | exact hk _ _ _ h.1 h.2 | exact h
theorem xcb {id:Nat} {a:Act} {w:World} (S:World → Prop) (p:Plan) (X:List PanicEntry → World → Prop) (hm:P.follows .mixedOrders = true) (hs:Region.noSelect ops = true) (hf:Plan.fits .any ops p (Array.replicate ops.size false) = true) (hn:decide (Plan.fuel p ≤ ops.size) = true)
  (hS:S w.drew) (hk:∀ c a' w',X c w' → a'.defers = a.defers → Q (.panic c) a' w') (h:wpPlan P ops (PanQ X a.defers Q) S p a w.drew):(Code.region id ops true).wp P Q a w :=
 Code.wp_mono (PanQ.imp hk) (wp_region_held hm (wpAnyH_of_plan hs (fun d _ _ _ _ h=>by cases d <;> exact h) p _ _ a w.drew (of_decide_eq_true hn) hf hS h))
theorem xgt {id:Nat} {a:Act} {w:World} (S:World → Prop) (p:Plan) (X:List PanicEntry → World → Prop) (F:Act → Act → World → Prop) (hm:P.follows .mixedOrders = true) (hs:Region.noSelect ops = true) (hf:Plan.fits .any ops p (Array.replicate ops.size false) = true) (hn:decide (Plan.fuel p ≤ ops.size) = true)
  (hS:S w.drew) (hk:∀ c a' w',X c w' → a'.defers = a.defers → Q (.panic c) a' w') (h:wpPlan P ops (PanQ X a.defers (MidQ F a Q)) S p a w.drew) (hk2:∀ a' w',F a a' w' → Q .normal a' w'):(Code.region id ops true).wp P Q a w :=
 Code.wp_mono (MidQ.imp hk2) (xcb S p X hm hs hf hn hS hk h)
theorem xat {o:Oper} {a:Act} (hw:Region.wanted o (yielded ops a.tmps) = true) (t:TypeId) (ps:List (Nat × Operand)) (ho:o.op = .build t ps.toArray) (vs:List (Nat × Value)) (hp:ps.map (fun p=>(p.1,a.eval p.2)) = vs) (c:Array Value) (hf:P.built t vs = some c):YieldsIf P ops S o (.agg c) a:=by
 have hc:P.built t ((ps.toArray:Array (Nat × Operand)).map fun (i,x)=>(i,a.eval x)).toList = some c:=by
  rw [List.map_toArray]
  show P.built t (ps.map fun p=>(p.1,a.eval p.2)) = _
  rw [hp]
  exact hf
 refine .inl ⟨hw,fun W _=>?_⟩
 unfold execOp
 simp only [ho,Sem.run_bind,run_build W t _ c hc,Result.andThen_ok]
 rfl
theorem xaj {o:Oper} {a:Act} (hw:Region.wanted o (yielded ops a.tmps) = true) (ty:TypeId) (x:Operand) (ho:o.op = .load ty x) (g k:Nat) (hx:a.eval x = .pointer (some ⟨g,k,none⟩)) (cs:List Value) (d:TypeDesc)
  (hu:P.underlying ty = some d) (hd:d.isRow = true) (hi:(P.info? ty).map (·.size) = some cs.length) (hc:∀ W,S W → W.rangeAt g k cs):YieldsIf P ops S o (.agg cs.toArray) a :=
 .inl ⟨hw,fun W hS=>xdy ty x ho ⟨g,k,none⟩ hx cs d (fun j v hj=>by rw [Addr.add_mid];exact hc W hS j v hj) hu hd hi⟩
theorem xcd {a:Act} {w:World} (h:Q .normal a w):wpPlan P ops (PanQ X D Q) S Plan.done a w:=h
theorem xbo {a:Act} {w:World} {c:List PanicEntry} (h:X c w) (hd:a.defers = D):PanQ X D Q (.panic c) a w:=⟨h,hd⟩
end
end Go.Proofs.YtecilienolabfaaGreatDoor
