/- Several texts in one, in build order: BalMath, BalMem, BalOpen. -/
import Derived.Test.YtecilienolabfaaGreatDoorPackMaps
import Derived.Test.YtecilienolabfaaGreatDoorPackRun
import Derived.Test.YtecilienolabfaaGreatDoorPackTools
/- BalMath: Ballots and acceptors as mathematics, and as rows of cells. -/
namespace Go.Proofs.YtecilienolabfaaGreatDoor
set_option linter.unusedSimpArgs false
set_option linter.unusedVariables false
open Go.RowKit
structure BalV where
 n:Nat
 who:Nat
def bal0:BalV:=⟨0,0⟩
def inc0:IncV:=⟨0,0,0⟩
def balC (b:BalV):Array Value:=#[.int .u32 b.n,.int .u8 b.who]
structure BalOk (b:BalV):Prop where
 n:b.n < 4294967296
 who:b.who < 256
theorem xhn:BalOk bal0:=⟨by decide,by decide⟩
theorem inc0_ok:IncOk inc0:=⟨by decide,by decide,by decide,by decide⟩
def isB (b:BalV):Bool:=decide (0 < b.n ∧ b.who < 3)
theorem isB_is (b:BalV):isB b = true ↔ (0 < b.n ∧ b.who < 3):=decide_eq_true_iff
def xcr (a b:BalV):Bool:=decide (a.n = b.n) && decide (a.who = b.who)
theorem xcf (a b:BalV):xcr a b = true ↔ a = b:=by
 obtain ⟨n,k⟩:=a
 obtain ⟨n',k'⟩:=b
 unfold xcr
 simp
end Go.Proofs.YtecilienolabfaaGreatDoor
/- BalMem: Ballots and acceptors in variables; ballots and increments held against each other. -/
namespace Go.Proofs.YtecilienolabfaaGreatDoor
set_option linter.unusedSimpArgs false
set_option linter.unusedVariables false
set_option maxRecDepth 100000
open Go.RowKit
theorem xbx (b:BalV):(Tryz.prog.info? 24).map (·.size) = some (balC b).size:=by show _ = some 2;kernel_rfl
theorem bal_zero:(Tryz.prog.info? 24).map (·.zero) = some (some (.agg (balC bal0))):=by kernel_rfl
theorem bal_built0:Tryz.prog.built 24 [] = some (balC bal0):=by kernel_rfl
theorem bal_built2 (n k:Nat):Tryz.prog.built 24 [(0,.int .u32 (n:Int)),(1,.int .u8 (k:Int))] = some (balC ⟨n,k⟩):=by kernel_rfl
theorem xhm (b:BalV):(balC b).all (·.oneCell') = true:=by
 unfold balC
 simp [Value.oneCell']
theorem inc_built0:Tryz.prog.built 26 [] = some (incC inc0):=by kernel_rfl
theorem bal_cells {w:World} {g:Nat} {t:TypeId} {b:BalV} (h:Has w g t (balC b)):w.cell? ⟨g,0,none⟩ = some (.int .u32 b.n) ∧ w.cell? ⟨g,1,none⟩ = some (.int .u8 b.who):=⟨h.cell 0,h.cell 1⟩
theorem cells_bal:Tryz.prog.cellsOf 24 = 2:=by kernel_rfl
theorem xfn:Tryz.prog.eqGuardType Tryz.prog.depth 24 = false:=by kernel_rfl
theorem bal_key:Tryz.prog.keyTypeAt 5 24 = true:=by kernel_rfl
def balK (b:BalV):List Lit:=[.int .u32 b.n,.int .u8 b.who]
theorem bal_lits (b:BalV) (h:BalOk b) (D:Nat):Tryz.prog.keyLits (D + 2) 24 (balC b).toList = some (balK b):=by
 have w0:=wf_u32 h.n
 have w1:=wf_u8 h.who
 unfold Program.keyLits
 rw [Tryz.underlying24]
 simp [balC,balK,cells_bal,cells_u32,cells_u8,Program.keyLits,Tryz.underlying22,Tryz.underlying5,w0,w1]
theorem balK_inj {a b:BalV} (h:balK a = balK b):a = b:=by
 obtain ⟨n,k⟩:=a
 obtain ⟨n',k'⟩:=b
 simp [balK] at h
 obtain ⟨h1,h2⟩:=h
 have:n = n':=by omega
 subst this
 have:k = k':=by omega
 subst this
 rfl
theorem bal_equal (a b:BalV) (ha:BalOk a) (hb:BalOk b) (w:World):(Op.equalIn 10000 24 (.agg (balC a)) (.agg (balC b))).run Tryz.prog w = .ok (xcr a b) w:=by
 have fa:(Value.agg (balC a)).formed Tryz.prog 24 = true:=by simp [Value.formed,Tryz.underlying24,cells_bal,balC]
 have fb:(Value.agg (balC b)).formed Tryz.prog 24 = true:=by simp [Value.formed,Tryz.underlying24,cells_bal,balC]
 obtain ⟨r,hr,hiff⟩:=run_equalIn_deep 9995 5 24 bal_key w 5 5 (.agg (balC a)) (.agg (balC b)) (balK a) (balK b) fa fb (bal_lits a ha 3) (bal_lits b hb 3)
 rw [← bool_same (hiff.trans ⟨balK_inj,fun h=>by rw [h]⟩) (xcf a b)]
 exact hr
theorem eq_bal (a b:BalV) (ha:BalOk a) (hb:BalOk b) (w:World):(binOp .eql 24 (.agg (balC a)) (.agg (balC b))).run Tryz.prog w = .ok (.bool (xcr a b)) w:=by
 rw [run_eql_struct,bal_equal a b ha hb]
 rfl
section laws
variable {ops:Array Oper} {rest:List Oper} {o:Oper} {a:Act} {w:World} {Q:Exit → Act → World → Prop} {S:World → Prop}
end laws
end Go.Proofs.YtecilienolabfaaGreatDoor
/- BalOpen: What comes in, opened: ballots by value. -/
namespace Go.Proofs.YtecilienolabfaaGreatDoor
set_option linter.unusedSimpArgs false
set_option linter.unusedVariables false
set_option maxRecDepth 100000
open Go.ChangeShapes Go.WideShapes Go.ChangeAt Go.RowKit
variable {H:Type} {enc:TypeId × Value → H} {W:World} {base:Nat} {spare:Nat → Bool} {held:Bool} {fuel:Nat} {y:DataW H × List MemPlace}
end Go.Proofs.YtecilienolabfaaGreatDoor
