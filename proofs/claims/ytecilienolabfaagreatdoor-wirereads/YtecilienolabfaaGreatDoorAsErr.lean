/- errors.As of a number that is an error itself, into a variable of its own type: the facts of reflectlite at this program's types. -/
import Derived.Test.YtecilienolabfaaGreatDoorChecked
import Derived.WalkKit
import Derived.Below
import Derived.LaidEql
import Derived.Stop.Asserts
import Derived.RowKitTokens
namespace Go.Proofs.YtecilienolabfaaGreatDoor
open Go.RowKit Go.Extern.Stop Go.Stop Go.Extern
set_option maxRecDepth 100000
theorem no_valueOf (t:Addr) (w:World):(ReflectliteValue.unpack (.iface 143 (.pointer (some t)))).run Tryz.prog w = .ok (.agg #[.pointer (some ⟨1,143,none⟩),.pointer (some ⟨w.heap.size,0,none⟩),.int .u64 150]) (w.alloc (.cells #[.pointer (some t)] 143)):=by kernel_rfl
theorem no_valueOfN (x:Int) (w:World):(ReflectliteValue.unpack (.iface 52 (.int .i64 x))).run Tryz.prog w = .ok (.agg #[.pointer (some ⟨1,52,none⟩),.pointer (some ⟨w.heap.size,0,none⟩),.int .u64 130]) (w.alloc (.cells #[.int .i64 x] 52)):=by kernel_rfl
theorem no_mKind (h:Value) (w:World):(Go.method 333 183 (.agg #[h]) "Kind").run Tryz.prog w = .ok (158,h) w:=by kernel_rfl
theorem no_mElem (h:Value) (w:World):(Go.method 333 183 (.agg #[h]) "Elem").run Tryz.prog w = .ok (176,.agg #[h]) w:=by kernel_rfl
theorem no_mImplements (h:Value) (w:World):(Go.method 333 183 (.agg #[h]) "Implements").run Tryz.prog w = .ok (177,.agg #[h]) w:=by kernel_rfl
theorem no_mAssignable (h:Value) (w:World):(Go.method 333 183 (.agg #[h]) "AssignableTo").run Tryz.prog w = .ok (174,.agg #[h]) w:=by kernel_rfl
theorem no_kindP (w:World):((ReflectliteType.abiMethod fun t=>(fun a:Nat=>Value.int IntKind.u8 (a:Int)) <$> Rtype.kind t) #[.pointer (some ⟨1,143,none⟩)]).run Tryz.prog w = .ok (.int .u8 22) w:=by kernel_rfl
theorem no_kindN (w:World):((ReflectliteType.abiMethod fun t=>(fun a:Nat=>Value.int IntKind.u8 (a:Int)) <$> Rtype.kind t) #[.pointer (some ⟨1,52,none⟩)]).run Tryz.prog w = .ok (.int .u8 2) w:=by kernel_rfl
theorem no_telem (w:World):(ReflectliteType.method ReflectliteType.elem #[.agg #[.pointer (some ⟨1,143,none⟩)]]).run Tryz.prog w = .ok (.iface 183 (.agg #[.pointer (some ⟨1,52,none⟩)])) w:=by kernel_rfl
theorem no_impl (w:World):(ReflectliteType.relation "Implements" ReflectliteType.implements_ #[.agg #[.pointer (some ⟨1,52,none⟩)],.iface 183 (.agg #[.pointer (some ⟨1,140,none⟩)])]).run Tryz.prog w = .ok (.bool true) w:=by kernel_rfl
theorem no_typeOf (v:Value) (w:World):(ReflectliteType.typeOf #[.iface 52 v]).run Tryz.prog w = .ok (.iface 183 (.agg #[.pointer (some ⟨1,52,none⟩)])) w:=by kernel_rfl
theorem no_assign (w:World):(ReflectliteType.relation "AssignableTo" ReflectliteType.assignableTo #[.agg #[.pointer (some ⟨1,52,none⟩)],.iface 183 (.agg #[.pointer (some ⟨1,52,none⟩)])]).run Tryz.prog w = .ok (.bool true) w:=by kernel_rfl
theorem no_partsP (a:Addr) (w:World):(ReflectliteValue.parts (.agg #[.pointer (some ⟨1,143,none⟩),.pointer (some a),.int .u64 150])).run Tryz.prog w = .ok (some (143,a,150)) w:=by kernel_rfl
theorem no_partsA (a:Addr) (w:World):(ReflectliteValue.parts (.agg #[.pointer (some ⟨1,52,none⟩),.pointer (some a),.int .u64 386])).run Tryz.prog w = .ok (some (52,a,386)) w:=by kernel_rfl
theorem no_partsN (a:Addr) (w:World):(ReflectliteValue.parts (.agg #[.pointer (some ⟨1,52,none⟩),.pointer (some a),.int .u64 130])).run Tryz.prog w = .ok (some (52,a,130)) w:=by kernel_rfl
theorem no_elemOf (w:World):(Rtype.elem? 143).run Tryz.prog w = .ok (some 52) w:=by kernel_rfl
theorem no_mk (p:Addr) (w:World):(ReflectliteValue.mk 52 p ReflectliteValue.flagAddr).run Tryz.prog w = .ok (.agg #[.pointer (some ⟨1,52,none⟩),.pointer (some p),.int .u64 386]) w:=by kernel_rfl
theorem no_direct (w:World):(Rtype.directlyAssignable 52 52).run Tryz.prog w = .ok true w:=by kernel_rfl
theorem no_isNil (a p:Addr) (W:World) (ha:W.cell? a = some (.pointer (some p))):(ReflectliteValue.method (ReflectliteValue.valueError "reflectlite.Value.IsNil" 0) ReflectliteValue.isNil #[.agg #[.pointer (some ⟨1,143,none⟩),.pointer (some a),.int .u64 150]]).run Tryz.prog W = .ok (.bool false) W:=by
 change Sem.run Tryz.prog (bind (ReflectliteValue.parts (.agg #[.pointer (some ⟨1,143,none⟩),.pointer (some a),.int .u64 150])) _) W = _
 simp only [Sem.run_bind,no_partsP,Result.andThen]
 simp [ReflectliteValue.isNil,loadVar,isAgg,underlying,Tryz.underlying143,ha,Result.andThen]
theorem no_elemV (a p:Addr) (W:World) (ha:W.cell? a = some (.pointer (some p))):(ReflectliteValue.method (ReflectliteValue.valueError "reflectlite.Value.Elem" 0) ReflectliteValue.elem #[.agg #[.pointer (some ⟨1,143,none⟩),.pointer (some a),.int .u64 150]]).run Tryz.prog W = .ok (.agg #[.pointer (some ⟨1,52,none⟩),.pointer (some p),.int .u64 386]) W:=by
 change Sem.run Tryz.prog (bind (ReflectliteValue.parts (.agg #[.pointer (some ⟨1,143,none⟩),.pointer (some a),.int .u64 150])) _) W = _
 simp only [Sem.run_bind,no_partsP,Result.andThen]
 simp [ReflectliteValue.elem,loadVar,isAgg,underlying,Tryz.underlying143,ha,Result.andThen,no_elemOf,no_mk]
theorem no_set (ta b:Addr) (x:Int) (old:Value) (W:World) (hb:W.cell? b = some (.int .i64 x)) (ht:W.cell? ta = some old) (hf:W.frozen? ta = false) :
  (ReflectliteValue.set #[.agg #[.pointer (some ⟨1,52,none⟩),.pointer (some ta),.int .u64 386],.agg #[.pointer (some ⟨1,52,none⟩),.pointer (some b),.int .u64 130]]).run Tryz.prog W = .ok (.tuple #[]) (W.setCell ta (.int .i64 x)):=by
 change Sem.run Tryz.prog (bind (ReflectliteValue.parts (.agg #[.pointer (some ⟨1,52,none⟩),.pointer (some ta),.int .u64 386])) _) W = _
 simp only [Sem.run_bind,no_partsA,Result.andThen]
 have e2:∀ (h1:_) (h2:_),Array.getLit (n:=2) #[Value.agg #[.pointer (some ⟨1,52,none⟩),.pointer (some ta),.int .u64 386],Value.agg #[.pointer (some ⟨1,52,none⟩),.pointer (some b),.int .u64 130]] 1 h1 h2 = (.agg #[.pointer (some ⟨1,52,none⟩),.pointer (some b),.int .u64 130]):=fun _ _=>rfl
 simp only [e2,no_partsN]
 simp [ReflectliteValue.flagAddr,loadVar,isAgg,underlying,Tryz.underlying52,hb,Result.andThen,no_direct,storeVar,Value.cells,storeCells,Addr.add]
 rw [run_store Tryz.prog W ta _ _ (by rfl)]
 simp [ht,hf]
set_option maxHeartbeats 8000000 in
theorem as_no (x:Int) (t:Addr) (old:Value) (w:World) (hg:w.cell? ⟨0,0,none⟩ = some (.iface 183 (.agg #[.pointer (some ⟨1,140,none⟩)]))) (ht0:w.cell? t = some old) (hf0:w.frozen? t = false) :
  Calls Tryz.prog 89 #[.iface 52 (.int .i64 x),.iface 143 (.pointer (some t))] w fun ev w'=>ev = .returned (.bool true) ∧ ∃ W:World,Below w.heap.size w W ∧ w' = W.setCell t (.int .i64 x):=by
 have hF:=@run_callFunc_extern Tryz.prog 118 _ (fun args=>ReflectliteValue.unpack (args.getD 0 (.tuple #[]))) Tryz.func118 (by kernel_rfl) (by kernel_rfl) (by kernel_rfl) (by kernel_rfl)
 have hT:=@run_callFunc_extern Tryz.prog 119 _ (ReflectliteValue.methodAny (ReflectliteValue.valueError "reflectlite.Value.Type" 0) (fun t _ _ _=>ReflectliteType.toType t)) Tryz.func119 (by kernel_rfl) (by kernel_rfl) (by kernel_rfl) (by kernel_rfl)
 have hN:=@run_callFunc_extern Tryz.prog 120 _ (ReflectliteValue.method (ReflectliteValue.valueError "reflectlite.Value.IsNil" 0) ReflectliteValue.isNil) Tryz.func120 (by kernel_rfl) (by kernel_rfl) (by kernel_rfl) (by kernel_rfl)
 have hK:=@run_callFunc_extern Tryz.prog 158 _ (ReflectliteType.abiMethod fun t=>do pure (.int .u8 (← Rtype.kind t))) Tryz.func158 (by kernel_rfl) (by kernel_rfl) (by kernel_rfl) (by kernel_rfl)
 have hE:=@run_callFunc_extern Tryz.prog 176 _ (ReflectliteType.method ReflectliteType.elem) Tryz.func176 (by kernel_rfl) (by kernel_rfl) (by kernel_rfl) (by kernel_rfl)
 have hI:=@run_callFunc_extern Tryz.prog 177 _ (ReflectliteType.relation "Implements" ReflectliteType.implements_) Tryz.func177 (by kernel_rfl) (by kernel_rfl) (by kernel_rfl) (by kernel_rfl)
 have hO:=@run_callFunc_extern Tryz.prog 133 _ ReflectliteType.typeOf Tryz.func133 (by kernel_rfl) (by kernel_rfl) (by kernel_rfl) (by kernel_rfl)
 have hA:=@run_callFunc_extern Tryz.prog 174 _ (ReflectliteType.relation "AssignableTo" ReflectliteType.assignableTo) Tryz.func174 (by kernel_rfl) (by kernel_rfl) (by kernel_rfl) (by kernel_rfl)
 have hV:=@run_callFunc_extern Tryz.prog 134 _ (ReflectliteValue.method (ReflectliteValue.valueError "reflectlite.Value.Elem" 0) ReflectliteValue.elem) Tryz.func134 (by kernel_rfl) (by kernel_rfl) (by kernel_rfl) (by kernel_rfl)
 have hS:=@run_callFunc_extern Tryz.prog 135 _ ReflectliteValue.set Tryz.func135 (by kernel_rfl) (by kernel_rfl) (by kernel_rfl) (by kernel_rfl)
 have f1:=no_valueOf
 have f2:=no_valueOfN
 have f3:=no_mKind
 have f4:=no_mElem
 have f5:=no_mImplements
 have f6:=no_mAssignable
 have f7:=no_kindP
 have f8:=no_kindN
 have f9:=no_telem
 have f10:=no_impl
 have f11:=no_typeOf
 have f12:=no_assign
 have f13:∀ (a:Addr) (w:World),(ReflectliteValue.methodAny (ReflectliteValue.valueError "reflectlite.Value.Type" 0) (fun t _ _ _=>ReflectliteType.toType t) #[.agg #[.pointer (some ⟨1,143,none⟩),.pointer (some a),.int .u64 150]]).run Tryz.prog w = .ok (.iface 183 (.agg #[.pointer (some ⟨1,143,none⟩)])) w:=fun _ _=>by kernel_rfl
 have hlt:=World.block_lt_of_cell? w _ hg
 have htl:=World.block_lt_of_cell? w _ ht0
 have b1:∀ o,Below w.heap.size w (w.alloc o):=fun o=>(Below.refl _ _).alloc (Nat.le_refl _) _
 have b2:∀ o p,Below w.heap.size w ((w.alloc o).alloc p):=fun o p=>(b1 o).alloc (by simp) _
 have b3:∀ o p q,Below w.heap.size w (((w.alloc o).alloc p).alloc q):=fun o p q=>(b2 o p).alloc (by simp;omega) _
 have b4:∀ o p q r,Below w.heap.size w ((((w.alloc o).alloc p).alloc q).alloc r):=fun o p q r=>(b3 o p q).alloc (by simp;omega) _
 have n8:=no_isNil ⟨w.heap.size,0,none⟩ t ((w.alloc (.cells #[.pointer (some t)] 143)).alloc (.cells #[.pointer (some ⟨1,143,none⟩),.pointer (some ⟨w.heap.size,0,none⟩),.int .u64 150] 164)) (by simp)
 have hg2:∀ o p,((w.alloc o).alloc p).cell? ⟨0,0,none⟩ = some (.iface 183 (.agg #[.pointer (some ⟨1,140,none⟩)])):=fun o p=>by rw [(b2 o p).cell hlt];exact hg
 have el:=no_elemV ⟨w.heap.size,0,none⟩ t (((w.alloc (.cells #[.pointer (some t)] 143)).alloc (.cells #[.pointer (some ⟨1,143,none⟩),.pointer (some ⟨w.heap.size,0,none⟩),.int .u64 150] 164)).alloc (.cells #[.pointer (some ⟨1,143,none⟩),.pointer (some ⟨w.heap.size,0,none⟩),.int .u64 150] 164)) (by rw [World.cell?_alloc_lt _ _ ⟨w.heap.size,0,none⟩ (by simp;omega)];simp)
 have st:=no_set t ⟨w.heap.size + 1 + 1 + 1,0,none⟩ x old ((((w.alloc (.cells #[.pointer (some t)] 143)).alloc (.cells #[.pointer (some ⟨1,143,none⟩),.pointer (some ⟨w.heap.size,0,none⟩),.int .u64 150] 164)).alloc (.cells #[.pointer (some ⟨1,143,none⟩),.pointer (some ⟨w.heap.size,0,none⟩),.int .u64 150] 164)).alloc (.cells #[.int .i64 x] 52))
  (by rw [World.cell?_alloc_at _ _ _ _ (by simp)];rfl) (by rw [(b4 _ _ _ _).cell htl];exact ht0)
  (by rw [World.frozen?_alloc_old _ _ t (by simp;omega),World.frozen?_alloc_old _ _ t (by simp;omega),World.frozen?_alloc_old _ _ t (by simp;omega),World.frozen?_alloc_old _ _ t (Nat.ne_of_lt htl)];exact hf0)
 replace b4:Hid _:=b4
 clear b1 b2 b3
 go_enter Tryz.func89,Tryz.ntmps89
 go_wp2
 refine wp_loop_rounds 1 ?_
 rw [rounds_succ]
 go_wp2
 go_ret
 exact ⟨rfl,_,b4.out _ _ _ _,rfl⟩
end Go.Proofs.YtecilienolabfaaGreatDoor
