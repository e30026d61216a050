/- Several texts in one, in build order: MapMath, MapMem, OpenMap, EqMap, Held, EqMore, IsMaps. -/
import Derived.Test.YtecilienolabfaaGreatDoorPackTools
import Derived.Test.YtecilienolabfaaGreatDoorChecked
import Derived.WalkKit
import Derived.WalkSpells
import Derived.WalkLawsBesides
import Derived.Carry
import Derived.OpenShut
import Derived.ProofKit
import Derived.Lib.SmallJoins
import Derived.DeepKeys
/- MapMath: Maps and increments as mathematics, and as rows of cells. -/
namespace Go.Proofs.YtecilienolabfaaGreatDoor
set_option linter.unusedSimpArgs false
set_option linter.unusedVariables false
open Go.RowKit
structure IncV where
 kind:Nat
 osd:Nat
 n:Int
def incC (x:IncV):Array Value:=#[.int .u8 x.kind,.int .u8 x.osd,.int .i64 x.n]
structure IncOk (x:IncV):Prop where
 kind:x.kind < 256
 osd:x.osd < 256
 lo:-9223372036854775808 ≤ x.n
 hi:x.n ≤ 9223372036854775807
theorem inc_cells {w:World} {g:Nat} {t:TypeId} {k o:Nat} {n:Int} (h:Has w g t (incC ⟨k,o,n⟩)) :
  w.cell? ⟨g,0,none⟩ = some (.int .u8 k) ∧ w.cell? ⟨g,1,none⟩ = some (.int .u8 o) ∧ w.cell? ⟨g,2,none⟩ = some (.int .i64 n):=⟨h.cell 0,h.cell 1,h.cell 2⟩
def isInc (x:IncV):Bool:=decide (((x.kind = 1 ∨ x.kind = 2) ∧ x.osd < 5 ∧ x.n = 0) ∨ (x.kind = 3 ∧ x.osd < 5 ∧ 0 ≤ x.n ∧ x.n ≤ 16) ∨ (x.kind = 4 ∧ x.osd = 0 ∧ x.n = 0))
theorem isInc_of (k o:Nat) (n:Int):isInc ⟨k,o,n⟩ = decide (((k = 1 ∨ k = 2) ∧ o < 5 ∧ n = 0) ∨ (k = 3 ∧ o < 5 ∧ 0 ≤ n ∧ n ≤ 16) ∨ (k = 4 ∧ o = 0 ∧ n = 0)):=rfl
theorem ret_bool {a b:Bool} (h:a = b):Ending.returned (.bool a) = .returned (.bool b):=by rw [h]
end Go.Proofs.YtecilienolabfaaGreatDoor
/- MapMem: Maps and increments in variables: the laws of Mem at this seat's types. -/
namespace Go.Proofs.YtecilienolabfaaGreatDoor
set_option linter.unusedSimpArgs false
set_option linter.unusedVariables false
open Go.RowKit
section laws
variable {ops:Array Oper} {rest:List Oper} {o:Oper} {a:Act} {w:World} {Q:Exit → Act → World → Prop}
end laws
end Go.Proofs.YtecilienolabfaaGreatDoor
/- OpenMap: What comes in, opened: increments and maps by value. -/
namespace Go.Proofs.YtecilienolabfaaGreatDoor
set_option linter.unusedSimpArgs false
set_option linter.unusedVariables false
set_option maxRecDepth 100000
open Go.ChangeShapes Go.WideShapes Go.ChangeAt Go.RowKit
variable {H:Type} {enc:TypeId × Value → H} {W:World} {base:Nat} {spare:Nat → Bool} {held:Bool} {fuel:Nat} {y:DataW H × List MemPlace}
theorem cells_u8:Tryz.prog.cellsOf 5 = 1:=by kernel_rfl
theorem cells_int:Tryz.prog.cellsOf 3 = 1:=by kernel_rfl
theorem cells_u32:Tryz.prog.cellsOf 22 = 1:=by kernel_rfl
theorem cells_inc:Tryz.prog.cellsOf 26 = 3:=by kernel_rfl
end Go.Proofs.YtecilienolabfaaGreatDoor
/- EqMap: Two maps held against each other by '=='. -/
namespace Go.Proofs.YtecilienolabfaaGreatDoor
set_option linter.unusedSimpArgs false
set_option linter.unusedVariables false
open Go.RowKit
theorem wf_i64 {n:Int} (h0:-9223372036854775808 ≤ n) (h1:n ≤ 9223372036854775807):(Lit.int .i64 n).wf = true:=by
 simp [Lit.wf,IntKind.min,IntKind.max,IntKind.signed,IntKind.bits];omega
theorem wf_u8 {n:Nat} (h:n < 256):(Lit.int .u8 n).wf = true:=by
 simp [Lit.wf,IntKind.min,IntKind.max,IntKind.signed,IntKind.bits];omega
theorem wf_u32 {n:Nat} (h:n < 4294967296):(Lit.int .u32 n).wf = true:=by
 simp [Lit.wf,IntKind.min,IntKind.max,IntKind.signed,IntKind.bits];omega
end Go.Proofs.YtecilienolabfaaGreatDoor
/- Held: The contracts of maps.heldWeight and maps.held. -/
namespace Go.Proofs.YtecilienolabfaaGreatDoor
set_option linter.unusedSimpArgs false
set_option linter.unusedVariables false
open Go.RowKit
def heldWt (n:Int):Int:=if 16 < (if n < 0 then 0 else n) then 16 else (if n < 0 then 0 else n)
theorem ret_int {k:IntKind} {a b:Int} (h:a = b):Ending.returned (.int k a) = .returned (.int k b):=by rw [h]
set_option maxRecDepth 100000 in
theorem heldw_any (n:Int) (w:World) (h0:-9223372036854775808 ≤ n) (h1:n ≤ 9223372036854775807) :
  Calls Tryz.prog 132 #[.int .i64 n] w fun e w'=>e = .returned (.int .i64 (heldWt n)) ∧ w' = w:=by
 go_enter Tryz.func132,Tryz.ntmps132
 go_wp2
 all_goals
  go_ret
  exact ⟨by first | rfl | exact ret_int (by unfold heldWt;split <;> split <;> omega),rfl⟩
end Go.Proofs.YtecilienolabfaaGreatDoor
/- EqMore: Daemons, rows of them and increments held against each other by '=='; what a walk needs of '==' of structs. -/
namespace Go.Proofs.YtecilienolabfaaGreatDoor
set_option linter.unusedSimpArgs false
set_option linter.unusedVariables false
open Go.RowKit
theorem guard_inc:Tryz.prog.eqGuardType Tryz.prog.depth 26 = false:=by kernel_rfl
def xea (a b:IncV):Bool:=decide (a.kind = b.kind) && (decide (a.osd = b.osd) && decide (a.n = b.n))
theorem xcc (a b:IncV):xea a b = true ↔ a = b:=by
 obtain ⟨u,n,k⟩:=a
 obtain ⟨u',n',k'⟩:=b
 unfold xea
 simp
theorem bool_same {r s:Bool} {p:Prop} (h:r = true ↔ p) (k:s = true ↔ p):r = s:=by rw [Bool.eq_iff_iff,h,k]
def incK (x:IncV):List Lit:=[.int .u8 x.kind,.int .u8 x.osd,.int .i64 x.n]
theorem inc_key:Tryz.prog.keyTypeAt 5 26 = true:=by kernel_rfl
theorem inc_lits (x:IncV) (h:IncOk x) (D:Nat):Tryz.prog.keyLits (D + 2) 26 (incC x).toList = some (incK x):=by
 have w0:=wf_u8 h.kind
 have w1:=wf_u8 h.osd
 have w2:=wf_i64 h.lo h.hi
 unfold Program.keyLits
 rw [Tryz.underlying26]
 simp [incC,incK,cells_inc,cells_int,cells_u8,Program.keyLits,Tryz.underlying3,Tryz.underlying5,w0,w1,w2]
theorem incK_inj {x y:IncV} (h:incK x = incK y):x = y:=by
 obtain ⟨k,o,n⟩:=x
 obtain ⟨k',o',n'⟩:=y
 simp [incK] at h
 obtain ⟨h1,h2,rfl⟩:=h
 have:k = k':=by omega
 subst this
 have:o = o':=by omega
 subst this
 rfl
theorem eq_inc (x y:IncV) (hx:IncOk x) (hy:IncOk y) (w:World):(binOp .eql 26 (.agg (incC x)) (.agg (incC y))).run Tryz.prog w = .ok (.bool (xea x y)) w:=by
 have fa:(Value.agg (incC x)).formed Tryz.prog 26 = true:=by simp [Value.formed,Tryz.underlying26,cells_inc,incC]
 have fb:(Value.agg (incC y)).formed Tryz.prog 26 = true:=by simp [Value.formed,Tryz.underlying26,cells_inc,incC]
 obtain ⟨r,hr,hiff⟩:=run_equalIn_deep 9995 5 26 inc_key w 5 5 (.agg (incC x)) (.agg (incC y)) (incK x) (incK y) fa fb (inc_lits x hx 3) (inc_lits y hy 3)
 have hr:(Op.equalIn 10000 26 (.agg (incC x)) (.agg (incC y))).run Tryz.prog w = .ok r w:=hr
 rw [run_eql_struct,hr,bool_same (hiff.trans ⟨incK_inj,fun h=>by rw [h]⟩) (xcc x y)]
 rfl
section laws
variable {ops:Array Oper} {Q:Exit → Act → World → Prop} {S:World → Prop}
end laws
end Go.Proofs.YtecilienolabfaaGreatDoor
/- IsMaps: The contracts of maps.Is and maps.IsInc. -/
namespace Go.Proofs.YtecilienolabfaaGreatDoor
set_option linter.unusedSimpArgs false
set_option linter.unusedVariables false
open Go.RowKit
theorem heldWt_is (n:Int):heldWt n = n ↔ 0 ≤ n ∧ n ≤ 16:=by
 unfold heldWt
 split <;> (try split) <;> omega
set_option maxRecDepth 100000 in
set_option maxHeartbeats 1000000 in
theorem isinc_any (x:IncV) (w:World) (hx:IncOk x) :
  Calls Tryz.prog 112 #[.agg (incC x)] w fun e w'=>e = .returned (.bool (isInc x)) ∧ Below w.heap.size w w':=by
 obtain ⟨k,o,n⟩:=x
 obtain ⟨h1,h2,h3,h4⟩:=hx
 simp only at h1 h2 h3 h4
 have hb:=(Below.refl w.heap.size w).alloc (Nat.le_refl _) (.cells (incC ⟨k,o,n⟩) 26)
 have hI:Hid _:=isInc_of k o n
 by_cases k3:k = 3
 ·subst k3
  have hH:=Has.new w 26 (incC ⟨3,o,n⟩)
  obtain ⟨c0,c1,c2⟩:=inc_cells hH
  by_cases ho:o < 5
  ·have hoi:(o:Int) < 5:=by omega
   have hod:decide ((o:Int) < 5) = true:=decide_eq_true hoi
   have hN:Hid ((n == heldWt n) = isInc ⟨3,o,n⟩):=by
    show _ = _
    have:=heldWt_is n
    rw [isInc_of,Bool.eq_iff_iff,beq_iff_eq,decide_eq_true_iff]
    constructor
    ·intro h
     have:=this.1 h.symm
     omega
    ·intro h
     exact (this.2 (by omega)).symm
   go_enter Tryz.func112,Tryz.ntmps112
   go_wp2
   refine xas (fun W=>Has W w.heap.size 26 (incC ⟨3,o,n⟩) ∧ Below w.heap.size w W) (Plan.of [(0,true),(1,true),(2,true),(3,true),(4,true),(5,true),(6,true),(7,true),(8,false),(9,true),(10,true),(11,true)] .done) (by kernel_rfl) (by kernel_rfl) (by kernel_rfl) (by kernel_rfl) ⟨hH.drew,hb.drew⟩ ?_
   iterate 8
    refine xaa _ _ rfl (.inl ⟨by rfl,fun W hS=>by obtain ⟨d0,d1,d2⟩:=inc_cells hS.1;go_simp;try with_reducible rfl⟩) ?_
    try simp only [qp,qa,qb,qc]
   refine xam _ rfl (fun K hK=>?_)
   go_simp
   refine (heldw_any n _ h3 h4).mono ?_
   rintro e w2 ⟨rfl,rfl⟩
   refine hK.out _ _ ⟨hH.drew,hb.drew⟩ ?_
   clear hK K
   iterate 3
    refine xaa _ _ rfl (.inl ⟨by rfl,fun W hS=>by go_simp;try with_reducible rfl⟩) ?_
    try simp only [qp,qa,qb,qc]
   refine xbf ?_
   go_wp2
   go_ret
   exact ⟨ret_bool hN.out,hb.drew⟩
  ·have hoi:(5:Int) ≤ (o:Int):=by omega
   have hod:decide ((o:Int) < 5) = false:=decide_eq_false (by omega)
   have hN:Hid (false = isInc ⟨3,o,n⟩):=by
    show _ = _
    rw [isInc_of,eq_comm,decide_eq_false_iff_not]
    omega
   go_enter Tryz.func112,Tryz.ntmps112
   go_wp2
   refine xas (fun W=>Has W w.heap.size 26 (incC ⟨3,o,n⟩) ∧ Below w.heap.size w W) (Plan.of [(0,true),(1,true),(2,true),(3,true),(4,true),(5,true),(6,true),(7,true),(8,true),(9,true),(10,true),(11,true)] .done) (by kernel_rfl) (by kernel_rfl) (by kernel_rfl) (by kernel_rfl) ⟨hH.drew,hb.drew⟩ ?_
   iterate 4
    refine xaa _ _ rfl (.inl ⟨by rfl,fun W hS=>by obtain ⟨d0,d1,d2⟩:=inc_cells hS.1;go_simp;try with_reducible rfl⟩) ?_
    try simp only [qp,qa,qb,qc]
   iterate 6
    refine xad _ rfl (by rfl) ?_
    try simp only [qp,qa,qb,qc]
   iterate 2
    refine xaa _ _ rfl (.inl ⟨by rfl,fun W hS=>by go_simp;try with_reducible rfl⟩) ?_
    try simp only [qp,qa,qb,qc]
   refine xbf ?_
   go_wp2
   go_ret
   exact ⟨ret_bool hN.out,hb.drew⟩
 ·have k3':(k == 3) = false:=by rw [beq_eq_false_iff_ne];exact k3
  have k3'':((k:Int) == 3) = false:=by rw [beq_eq_false_iff_ne];omega
  show Calls Tryz.prog 112 #[.agg #[.int .u8 (k:Int),.int .u8 (o:Int),.int .i64 n]] w _
  go_enter Tryz.func112,Tryz.ntmps112
  go_wp2
  all_goals
   go_ret
   refine ⟨ret_bool ?_,(Below.refl _ _).alloc (Nat.le_refl _) _⟩
   rw [isInc_of,Bool.eq_iff_iff]
   simp only [beq_iff_eq,beq_eq_false_iff_ne,ne_eq] at *
   simp
   omega
end Go.Proofs.YtecilienolabfaaGreatDoor
