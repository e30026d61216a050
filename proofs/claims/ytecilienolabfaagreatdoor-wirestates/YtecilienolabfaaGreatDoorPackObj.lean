/- Several texts in one, in build order: ObjMath, ObjMem, RefOps, RefSeen, ObjSpec, ObjKnown, EqObj, ObjFacts, ResRow, EqOp, OpenObj, LandOps. -/
import Derived.Below
import Derived.OwnWalk
import Derived.Laws.Concat
import Derived.Laws.Slices
import Derived.Laws.Strings
import Derived.Test.YtecilienolabfaaGreatDoorChecked
import Derived.Test.YtecilienolabfaaGreatDoorPackTools
import Derived.WalkKit
import Derived.WalkSpells
import Derived.WalkLawsBesides
import Derived.DeepKeys
import Derived.Laws.StructEq
import Derived.Carry
import Derived.OpenShut
import Derived.ProofKit
import Derived.ShutString

/- ObjMath: Objects, operations, bases, as mathematics, and the cells that they are. Nothing of the program is in it. -/
namespace Go.Proofs.YtecilienolabfaaGreatDoor
set_option linter.unusedSimpArgs false
set_option linter.unusedVariables false

/-- A string by its bytes. -/
def mkS (l : List UInt8) : ByteArray := ⟨l.toArray⟩
def strV (l : List UInt8) : Value := .string (mkS l)

theorem mkS_size (l : List UInt8) : (mkS l).size = l.length := by
  show l.toArray.size = _
  simp
theorem mkS_isEmpty (l : List UInt8) : (mkS l).toList.isEmpty = decide (l.length = 0) := by
  rw [ByteArray.toList_eq]
  cases l with
  | nil => rfl
  | cons x xs => rfl
theorem mkS_append (a b : List UInt8) : mkS a ++ mkS b = mkS (a ++ b) := ByteArray.mk_append_mk a b
theorem mkS_take (l : List UInt8) (n : Nat) (h : n ≤ l.length) : (mkS l).extract 0 n = mkS (l.take n) := by
  apply ByteArray.ext
  unfold mkS
  simp [ByteArray.data_extract, List.extract_toArray]
theorem mkS_drop (l : List UInt8) (n : Nat) (h : n ≤ l.length) : (mkS l).extract n l.length = mkS (l.drop n) := by
  apply ByteArray.ext
  unfold mkS
  simp [ByteArray.data_extract, List.extract_toArray]
  exact List.take_of_length_le (by rw [List.length_drop]; omega)

section
variable {P : Program} (w : World)
theorem addS (a b : List UInt8) (h : a.length + b.length ≤ 1000000) : (Op.stringOp .add (mkS a) (mkS b)).run P w = .ok (.string (mkS (a ++ b))) w := by
  rw [run_string_add_sum w (mkS a) (mkS b) (by rw [mkS_size, mkS_size]; omega), mkS_append]
theorem headS (t : TypeId) (ht : P.underlying t = some .string) (l : List UInt8) (n : Nat) (h : n ≤ l.length) : (Instr.slice t (.string (mkS l)) none (some (.int .i64 (n : Int))) none).run P w = .ok (.string (mkS (l.take n))) w := by
  rw [run_slice_string_h w t (mkS l) ht .i64 (n : Int) (by omega) (by rw [mkS_size]; omega)]
  rw [Int.toNat_natCast, mkS_take l n h]
theorem tailS (t : TypeId) (ht : P.underlying t = some .string) (l : List UInt8) (k : Int) (n : Nat) (hk : k = (n : Int)) (h : n ≤ l.length) : (Instr.slice t (.string (mkS l)) (some (.int .i64 k)) none none).run P w = .ok (.string (mkS (l.drop n))) w := by
  subst hk
  rw [run_slice_string_l w t (mkS l) ht .i64 (n : Int) (by omega) (by rw [mkS_size]; omega)]
  rw [Int.toNat_natCast, mkS_size, mkS_drop l n h]
end
theorem mkS_inj {a b : List UInt8} (h : mkS a = mkS b) : a = b := by
  have := congrArg ByteArray.data h
  simpa [mkS] using this

structure ResV where
  code : Nat
  data : List UInt8

structure LastV where
  seq : Nat
  r : ResV

structure ObjV where
  there : Bool
  data : List UInt8
  a0 : List UInt8
  a1 : List UInt8
  a2 : List UInt8

structure BaseV where
  obj : Fin 6 → ObjV
  last : Fin 3 → LastV

structure OpV where
  client : Nat
  seq : Nat
  kind : Nat
  obj : Nat
  pos : Nat
  data : List UInt8

def resL (r : ResV) : List Value := [.int .u8 (r.code : Int), strV r.data]
def lastL (l : LastV) : List Value := .int .u32 (l.seq : Int) :: resL l.r
def objL (x : ObjV) : List Value := [.bool x.there, strV x.data, strV x.a0, strV x.a1, strV x.a2]
def opL (o : OpV) : List Value := [.int .u8 (o.client : Int), .int .u32 (o.seq : Int), .int .u8 (o.kind : Int), .int .u8 (o.obj : Int), .int .u8 (o.pos : Int), strV o.data]
def objsL (f : Fin 6 → ObjV) : List Value := objL (f 0) ++ (objL (f 1) ++ (objL (f 2) ++ (objL (f 3) ++ (objL (f 4) ++ objL (f 5)))))
def lastsL (f : Fin 3 → LastV) : List Value := lastL (f 0) ++ (lastL (f 1) ++ lastL (f 2))
def baseL (b : BaseV) : List Value := objsL b.obj ++ lastsL b.last
def resC (r : ResV) : Array Value := (resL r).toArray
def lastC (l : LastV) : Array Value := (lastL l).toArray
def objC (x : ObjV) : Array Value := (objL x).toArray
def opC (o : OpV) : Array Value := (opL o).toArray
def baseC (b : BaseV) : Array Value := (baseL b).toArray

def res0 : ResV := ⟨0, []⟩
def last0 : LastV := ⟨0, res0⟩
def obj0 : ObjV := ⟨false, [], [], [], []⟩
def base0 : BaseV := ⟨fun _ => obj0, fun _ => last0⟩
def op0 : OpV := ⟨0, 0, 0, 0, 0, []⟩

structure ResOk (r : ResV) : Prop where
  code : r.code < 256
  data : r.data.length ≤ 1000000000000
structure LastOk (l : LastV) : Prop where
  seq : l.seq < 4294967296
  r : ResOk l.r

/-- An attribute by its key. -/
def ObjV.attr (x : ObjV) (k : Nat) : List UInt8 := if k = 0 then x.a0 else if k = 1 then x.a1 else x.a2
def ObjV.setAttr (x : ObjV) (k : Nat) (v : List UInt8) : ObjV := if k = 0 then { x with a0 := v } else if k = 1 then { x with a1 := v } else { x with a2 := v }

def BaseV.setObj (b : BaseV) (i : Fin 6) (x : ObjV) : BaseV := { b with obj := fun j => if j = i then x else b.obj j }
def BaseV.setLast (b : BaseV) (i : Fin 3) (l : LastV) : BaseV := { b with last := fun j => if j = i then l else b.last j }

/-- P6.1. -/
def isOpM (o : OpV) : Bool :=
  decide (1 ≤ o.client ∧ o.client ≤ 3 ∧ 1 ≤ o.seq ∧ 1 ≤ o.kind ∧ o.kind ≤ 5 ∧ o.obj < 6 ∧ o.data.length ≤ 16 ∧ (o.kind = 1 ∨ o.kind = 3 ∨ o.data = []) ∧ (o.kind = 4 ∨ o.kind = 5 → o.pos = 0))
def writesM (o : OpV) : Bool := isOpM o && decide (o.kind ≠ 5)

theorem isOp_is (o : OpV) : isOpM o = true ↔ (1 ≤ o.client ∧ o.client ≤ 3 ∧ 1 ≤ o.seq ∧ 1 ≤ o.kind ∧ o.kind ≤ 5 ∧ o.obj < 6 ∧ o.data.length ≤ 16 ∧ (o.kind = 1 ∨ o.kind = 3 ∨ o.data = []) ∧ (o.kind = 4 ∨ o.kind = 5 → o.pos = 0)) := by
  unfold isOpM
  rw [decide_eq_true_iff]
theorem writes_is (o : OpV) : writesM o = true ↔ isOpM o = true ∧ o.kind ≠ 5 := by
  unfold writesM
  rw [Bool.and_eq_true, decide_eq_true_iff]

/-- The last one of an operation's client. -/
def lastOf (b : BaseV) (o : OpV) : LastV := if h : o.client - 1 < 3 then b.last ⟨o.client - 1, h⟩ else last0
def objOf (b : BaseV) (o : OpV) : ObjV := if h : o.obj < 6 then b.obj ⟨o.obj, h⟩ else obj0
def putObj (b : BaseV) (o : OpV) (x : ObjV) : BaseV := if h : o.obj < 6 then b.setObj ⟨o.obj, h⟩ x else b
def putLast (b : BaseV) (o : OpV) (l : LastV) : BaseV := if h : o.client - 1 < 3 then b.setLast ⟨o.client - 1, h⟩ l else b

/-- P6.2. -/
def seenM (b : BaseV) (o : OpV) : ResV × Bool :=
  if writesM o = true then (if (lastOf b o).seq < o.seq then (res0, false) else if (lastOf b o).seq = o.seq then ((lastOf b o).r, true) else (⟨3, []⟩, true)) else (res0, false)

/-- n bytes: of a string what it has of them, noughts behind it. -/
def fitS (n : Nat) (d : List UInt8) : List UInt8 := d.take n ++ List.replicate (n - d.length) 0
/-- Written at a place. -/
def writeS (d : List UInt8) (n : Nat) (s : List UInt8) : List UInt8 := fitS n d ++ s ++ d.drop (n + s.length)

theorem writeS_short {d s : List UInt8} {p : Nat} (h : d.length < p) : writeS d p s = (d ++ List.replicate (p - d.length) 0).take p ++ s ++ [] := by
  unfold writeS fitS
  rw [List.take_of_length_le (show d.length ≤ p by omega), List.drop_of_length_le (show d.length ≤ p + s.length by omega), List.take_of_length_le (by rw [List.length_append, List.length_replicate]; omega)]
theorem writeS_long {d s : List UInt8} {p : Nat} (h : p ≤ d.length) : writeS d p s = d.take p ++ s ++ d.drop (p + s.length) := by
  unfold writeS fitS
  rw [show p - d.length = 0 by omega]
  simp
theorem fitS_short {d : List UInt8} {p : Nat} (h : d.length < p) : fitS p d = (d ++ List.replicate (p - d.length) 0).take p := by
  unfold fitS
  rw [List.take_of_length_le (show d.length ≤ p by omega), List.take_of_length_le (by rw [List.length_append, List.length_replicate]; omega)]
theorem fitS_long {d : List UInt8} {p : Nat} (h : p ≤ d.length) : fitS p d = d.take p := by
  unfold fitS
  rw [show p - d.length = 0 by omega]
  simp

def changeM (x : ObjV) (o : OpV) : ObjV × Nat :=
  if o.kind = 1 then (if 16 < o.pos + o.data.length then (x, 2) else ({ x with there := true, data := writeS x.data o.pos o.data }, 0))
  else if o.kind = 2 then (if x.there = false then (x, 1) else if 16 < o.pos then (x, 2) else ({ x with data := fitS o.pos x.data }, 0))
  else if o.kind = 3 then (if 3 ≤ o.pos then (x, 3) else if x.there = false then (x, 1) else (x.setAttr o.pos o.data, 0))
  else (if x.there = false then (x, 1) else (obj0, 0))

def doM (b : BaseV) (o : OpV) : BaseV × ResV :=
  if writesM o = true then
    (if (seenM b o).2 = true then (b, (seenM b o).1)
     else (putLast (putObj b o (changeM (objOf b o) o).1) o ⟨o.seq, ⟨(changeM (objOf b o) o).2, []⟩⟩, ⟨(changeM (objOf b o) o).2, []⟩))
  else (b, ⟨3, []⟩)

/-- P6.3. -/
def attrS (k : Nat) (v : List UInt8) : List UInt8 := if v = [] then [] else 59 :: (UInt8.ofNat (48 + k)) :: 61 :: v
def readM (b : BaseV) (o : OpV) : ResV :=
  if isOpM o = true ∧ o.kind = 5 then
    (if (objOf b o).there = true then ⟨0, (objOf b o).data ++ attrS 0 (objOf b o).a0 ++ attrS 1 (objOf b o).a1 ++ attrS 2 (objOf b o).a2⟩ else ⟨1, []⟩)
  else ⟨3, []⟩

def allM (b : BaseV) (l : List OpV) : BaseV × List ResV := l.foldl (fun p o => ((doM p.1 o).1, p.2 ++ [(doM p.1 o).2])) (b, [])
end Go.Proofs.YtecilienolabfaaGreatDoor

/- ObjMem: Bases, operations, objects, results in variables: the laws of Mem at this seat's types. -/
namespace Go.Proofs.YtecilienolabfaaGreatDoor
set_option linter.unusedSimpArgs false
set_option linter.unusedVariables false
set_option maxRecDepth 100000
open Go.RowKit

theorem retB {a b : Bool} (h : a = b) : Ending.returned (Value.bool a) = .returned (.bool b) := by rw [h]

theorem base_size (b : BaseV) : (Tryz.prog.info? 37).map (·.size) = some (baseC b).size := by show _ = some 39; kernel_rfl
theorem op_size (o : OpV) : (Tryz.prog.info? 39).map (·.size) = some (opC o).size := by show _ = some 6; kernel_rfl
theorem obj_size (x : ObjV) : (Tryz.prog.info? 29).map (·.size) = some (objC x).size := by show _ = some 5; kernel_rfl
theorem res_size (r : ResV) : (Tryz.prog.info? 32).map (·.size) = some (resC r).size := by show _ = some 2; kernel_rfl
theorem base_zero : (Tryz.prog.info? 37).map (·.zero) = some (some (.agg (baseC base0))) := by kernel_rfl
theorem res_zero : (Tryz.prog.info? 32).map (·.zero) = some (some (.agg (resC res0))) := by kernel_rfl
theorem obj_zero : (Tryz.prog.info? 29).map (·.zero) = some (some (.agg (objC obj0))) := by kernel_rfl
theorem base_built : Tryz.prog.built 37 [] = some (baseC base0) := by kernel_rfl
theorem res_built : Tryz.prog.built 32 [] = some (resC res0) := by kernel_rfl
theorem obj_built : Tryz.prog.built 29 [] = some (objC obj0) := by kernel_rfl

theorem str_one (l : List UInt8) : (strV l).oneCell' = true := rfl
theorem res_one (r : ResV) : (resC r).all (·.oneCell') = true := by simp [resC, resL, strV, Value.oneCell']
theorem op_one (o : OpV) : (opC o).all (·.oneCell') = true := by simp [opC, opL, strV, Value.oneCell']
theorem objL_one (x : ObjV) : ∀ u ∈ objL x, u.oneCell' = true := by
  intro u hu
  simp [objL, strV] at hu
  rcases hu with rfl | rfl | rfl | rfl | rfl <;> rfl
theorem lastL_one (l : LastV) : ∀ u ∈ lastL l, u.oneCell' = true := by
  intro u hu
  simp [lastL, resL, strV] at hu
  rcases hu with rfl | rfl | rfl <;> rfl
theorem obj_one (x : ObjV) : (objC x).all (·.oneCell') = true := all_oneCell_toArray (objL_one x)
theorem last_one (l : LastV) : (lastC l).all (·.oneCell') = true := all_oneCell_toArray (lastL_one l)
theorem base_one (b : BaseV) : (baseC b).all (·.oneCell') = true := by
  refine all_oneCell_toArray ?_
  intro u hu
  unfold baseL objsL lastsL at hu
  simp only [List.mem_append] at hu
  rcases hu with (h | h | h | h | h | h) | (h | h | h)
  · exact objL_one _ u h
  · exact objL_one _ u h
  · exact objL_one _ u h
  · exact objL_one _ u h
  · exact objL_one _ u h
  · exact objL_one _ u h
  · exact lastL_one _ u h
  · exact lastL_one _ u h
  · exact lastL_one _ u h

/-- Object i of a base, its cell k. -/
theorem baseC_obj (b : BaseV) (i : Fin 6) (k : Nat) (v : Value) (h : (objL (b.obj i))[k]? = some v) : (baseC b)[i.val * 5 + k]? = some v := by
  have hk : k < 5 := (List.getElem?_eq_some_iff.1 h).1
  unfold baseC
  rw [List.getElem?_toArray, ← h]
  match i, k, hk with
  | 0, 0, _ => rfl
  | 0, 1, _ => rfl
  | 0, 2, _ => rfl
  | 0, 3, _ => rfl
  | 0, 4, _ => rfl
  | 1, 0, _ => rfl
  | 1, 1, _ => rfl
  | 1, 2, _ => rfl
  | 1, 3, _ => rfl
  | 1, 4, _ => rfl
  | 2, 0, _ => rfl
  | 2, 1, _ => rfl
  | 2, 2, _ => rfl
  | 2, 3, _ => rfl
  | 2, 4, _ => rfl
  | 3, 0, _ => rfl
  | 3, 1, _ => rfl
  | 3, 2, _ => rfl
  | 3, 3, _ => rfl
  | 3, 4, _ => rfl
  | 4, 0, _ => rfl
  | 4, 1, _ => rfl
  | 4, 2, _ => rfl
  | 4, 3, _ => rfl
  | 4, 4, _ => rfl
  | 5, 0, _ => rfl
  | 5, 1, _ => rfl
  | 5, 2, _ => rfl
  | 5, 3, _ => rfl
  | 5, 4, _ => rfl

theorem baseC_last (b : BaseV) (i : Fin 3) (k : Nat) (v : Value) (h : (lastL (b.last i))[k]? = some v) : (baseC b)[30 + i.val * 3 + k]? = some v := by
  have hk : k < 3 := (List.getElem?_eq_some_iff.1 h).1
  unfold baseC
  rw [List.getElem?_toArray, ← h]
  match i, k, hk with
  | 0, 0, _ => rfl
  | 0, 1, _ => rfl
  | 0, 2, _ => rfl
  | 1, 0, _ => rfl
  | 1, 1, _ => rfl
  | 1, 2, _ => rfl
  | 2, 0, _ => rfl
  | 2, 1, _ => rfl
  | 2, 2, _ => rfl

theorem Has.obj_at {w : World} {g : Nat} {b : BaseV} (h : Has w g 37 (baseC b)) (i : Fin 6) : w.rangeAt g (i.val * 5) (objL (b.obj i)) := h.range _ _ fun j v hj => baseC_obj b i j v hj
theorem Has.last_at {w : World} {g : Nat} {b : BaseV} (h : Has w g 37 (baseC b)) (i : Fin 3) : w.rangeAt g (30 + i.val * 3) (lastL (b.last i)) := h.range _ _ fun j v hj => baseC_last b i j v hj

theorem Has.set5 {w : World} {g : Nat} {t : TypeId} {c : Array Value} (h : Has w g t c) (o : Nat) (v0 v1 v2 v3 v4 : Value) :
    Has (w.setCells g o [v0, v1, v2, v3, v4]) g t (((((c.setIfInBounds o v0).setIfInBounds (o + 1) v1).setIfInBounds (o + 1 + 1) v2).setIfInBounds (o + 1 + 1 + 1) v3).setIfInBounds (o + 1 + 1 + 1 + 1) v4) :=
  ((((h.set o v0).set (o + 1) v1).set (o + 1 + 1) v2).set (o + 1 + 1 + 1) v3).set (o + 1 + 1 + 1 + 1) v4
theorem setObj_n (b : BaseV) (x : ObjV) (i : Fin 6) (n : Nat) (hn : i.val = n) (h : (((((baseC b).setIfInBounds (n * 5) (.bool x.there)).setIfInBounds (n * 5 + 1) (strV x.data)).setIfInBounds (n * 5 + 1 + 1) (strV x.a0)).setIfInBounds (n * 5 + 1 + 1 + 1) (strV x.a1)).setIfInBounds (n * 5 + 1 + 1 + 1 + 1) (strV x.a2) = baseC (b.setObj i x)) :
    (((((baseC b).setIfInBounds (i.val * 5) (.bool x.there)).setIfInBounds (i.val * 5 + 1) (strV x.data)).setIfInBounds (i.val * 5 + 1 + 1) (strV x.a0)).setIfInBounds (i.val * 5 + 1 + 1 + 1) (strV x.a1)).setIfInBounds (i.val * 5 + 1 + 1 + 1 + 1) (strV x.a2) = baseC (b.setObj i x) := by
  rw [hn]
  exact h
theorem setObj_cells (b : BaseV) (i : Fin 6) (x : ObjV) : (((((baseC b).setIfInBounds (i.val * 5) (.bool x.there)).setIfInBounds (i.val * 5 + 1) (strV x.data)).setIfInBounds (i.val * 5 + 1 + 1) (strV x.a0)).setIfInBounds (i.val * 5 + 1 + 1 + 1) (strV x.a1)).setIfInBounds (i.val * 5 + 1 + 1 + 1 + 1) (strV x.a2) = baseC (b.setObj i x) := by
  match i with
  | 0 => exact setObj_n b x 0 0 rfl (by kernel_rfl)
  | 1 => exact setObj_n b x 1 1 rfl (by kernel_rfl)
  | 2 => exact setObj_n b x 2 2 rfl (by kernel_rfl)
  | 3 => exact setObj_n b x 3 3 rfl (by kernel_rfl)
  | 4 => exact setObj_n b x 4 4 rfl (by kernel_rfl)
  | 5 => exact setObj_n b x 5 5 rfl (by kernel_rfl)

theorem setLast_n (b : BaseV) (l : LastV) (i : Fin 3) (n : Nat) (hn : i.val = n) (h : (((baseC b).setIfInBounds (30 + n * 3) (.int .u32 (l.seq : Int))).setIfInBounds (30 + n * 3 + 1) (.int .u8 (l.r.code : Int))).setIfInBounds (30 + n * 3 + 1 + 1) (strV l.r.data) = baseC (b.setLast i l)) :
    (((baseC b).setIfInBounds (30 + i.val * 3) (.int .u32 (l.seq : Int))).setIfInBounds (30 + i.val * 3 + 1) (.int .u8 (l.r.code : Int))).setIfInBounds (30 + i.val * 3 + 1 + 1) (strV l.r.data) = baseC (b.setLast i l) := by
  rw [hn]
  exact h
theorem setLast_cells (b : BaseV) (i : Fin 3) (l : LastV) : (((baseC b).setIfInBounds (30 + i.val * 3) (.int .u32 (l.seq : Int))).setIfInBounds (30 + i.val * 3 + 1) (.int .u8 (l.r.code : Int))).setIfInBounds (30 + i.val * 3 + 1 + 1) (strV l.r.data) = baseC (b.setLast i l) := by
  match i with
  | 0 => exact setLast_n b l 0 0 rfl (by kernel_rfl)
  | 1 => exact setLast_n b l 1 1 rfl (by kernel_rfl)
  | 2 => exact setLast_n b l 2 2 rfl (by kernel_rfl)

theorem Has.setObj {w : World} {g : Nat} {b : BaseV} (h : Has w g 37 (baseC b)) (i : Fin 6) (x : ObjV) : Has (w.setCells g (i.val * 5) (objL x)) g 37 (baseC (b.setObj i x)) := by
  have := h.set5 (i.val * 5) (.bool x.there) (strV x.data) (strV x.a0) (strV x.a1) (strV x.a2)
  rw [setObj_cells] at this
  exact this

theorem Has.setLast {w : World} {g : Nat} {b : BaseV} (h : Has w g 37 (baseC b)) (i : Fin 3) (l : LastV) : Has (w.setCells g (30 + i.val * 3) (lastL l)) g 37 (baseC (b.setLast i l)) := by
  have := h.set3 (30 + i.val * 3) (.int .u32 (l.seq : Int)) (.int .u8 (l.r.code : Int)) (strV l.r.data)
  rw [setLast_cells] at this
  exact this

end Go.Proofs.YtecilienolabfaaGreatDoor

/- RefOps: The contracts of the document's IsOp, Writes and noughts. -/
namespace Go.Proofs.YtecilienolabfaaGreatDoor
set_option linter.unusedSimpArgs false
set_option linter.unusedVariables false
set_option maxRecDepth 100000
open Go.RowKit

structure OpOk (o : OpV) : Prop where
  client : o.client < 256
  seq : o.seq < 4294967296
  kind : o.kind < 256
  obj : o.obj < 256
  pos : o.pos < 256
  data : o.data.length ≤ 9223372036854775807

set_option maxHeartbeats 4000000 in
theorem refisop_any (o : OpV) (w : World) (h : OpOk o) :
    Calls Tryz.prog 50 #[.agg (opC o)] w fun e w' => e = .returned (.bool (isOpM o)) ∧ Below w.heap.size w w' := by
  obtain ⟨cl, sq, kd, ob, at', da⟩ := o
  obtain ⟨h1, h2, h3, h4, h5, h6⟩ := h
  have hs := mkS_size da
  have he := mkS_isEmpty da
  have hm := isOp_is ⟨cl, sq, kd, ob, at', da⟩
  simp only at h1 h2 h3 h4 h5 h6 hm
  show Calls Tryz.prog 50 #[.agg #[.int .u8 (cl : Int), .int .u32 (sq : Int), .int .u8 (kd : Int), .int .u8 (ob : Int), .int .u8 (at' : Int), .string (mkS da)]] w _
  generalize mkS da = s at *
  have hd0 : da = [] ↔ da.length = 0 := List.length_eq_zero_iff.symm
  rw [hd0] at hm
  have hm' : Hid _ := hm
  clear hm hd0
  generalize da.length = n at *
  have he' : Hid _ := he
  clear he
  go_enter Tryz.func50, Tryz.ntmps50
  go_wp2
  all_goals
    go_ret
    refine ⟨retB ?_, (Below.refl _ _).alloc (Nat.le_refl _) _⟩
    rw [Bool.eq_iff_iff, hm'.out]
    have he := he'.out
    simp only [he, bne_iff_ne, bne_eq_false_iff_eq, beq_iff_eq, beq_eq_false_iff_ne, ne_eq, Bool.not_eq_true', Bool.not_eq_false', decide_eq_true_iff, decide_eq_false_iff_not] at *
    try simp
    omega

set_option maxHeartbeats 1000000 in
theorem refwrites_any (o : OpV) (w : World) (h : OpOk o) :
    Calls Tryz.prog 49 #[.agg (opC o)] w fun e w' => e = .returned (.bool (writesM o)) ∧ Below w.heap.size w w' := by
  have hO := Has.new w 39 (opC o)
  have hb0 := (Below.refl w.heap.size w).alloc (Nat.le_refl _) (.cells (opC o) 39)
  have hm := writes_is o
  have hk := h.kind
  go_enter Tryz.func49, Tryz.ntmps49
  go_wp2_with (first
    | (refine wpList_load_has (by rfl) 39 _ rfl w.heap.size rfl 39 (opC o) _ Tryz.underlying39 rfl (op_size o) ?hg ?_; (case hg => exact hO)))
  refine (refisop_any o _ h).mono ?_
  rintro e w1 ⟨rfl, hq⟩
  replace hO := hO.later hq
  replace hb0 := hb0.trans (hq.mono hb0.size)
  have c2 : w1.cell? ⟨w.heap.size, 2, none⟩ = some (.int .u8 (o.kind : Int)) := (hO.cell 2).trans rfl
  clear hq hO
  cases hi : isOpM o with
  | false =>
    have hr : writesM o = false := by unfold writesM; rw [hi]; rfl
    go_wp2
    go_ret
    exact ⟨by rw [hr]; rfl, hb0⟩
  | true =>
    have hm' : Hid _ := hm
    clear hm
    go_wp2
    go_ret
    refine ⟨retB ?_, hb0⟩
    rw [Bool.eq_iff_iff, hm'.out]
    simp [hi]
    omega

theorem snoc_nought (n : Nat) : mkS (List.replicate n (0 : UInt8)) ++ ByteArray.mk #[0] = mkS (List.replicate (n + 1) (0 : UInt8)) := by
  rw [show ByteArray.mk #[0] = mkS [0] from rfl, mkS_append, ← List.replicate_succ']

end Go.Proofs.YtecilienolabfaaGreatDoor

/- RefSeen: The contract of the document's Seen. -/
namespace Go.Proofs.YtecilienolabfaaGreatDoor
set_option linter.unusedSimpArgs false
set_option linter.unusedVariables false
set_option maxRecDepth 100000
open Go.RowKit

structure BaseOk (b : BaseV) : Prop where
  seq : ∀ i, (b.last i).seq < 4294967296
  code : ∀ i, (b.last i).r.code < 256
  rdata : ∀ i, (b.last i).r.data.length ≤ 9223372036854775807
  data : ∀ i, (b.obj i).data.length ≤ 1000
  a0 : ∀ i, (b.obj i).a0.length ≤ 1000
  a1 : ∀ i, (b.obj i).a1.length ≤ 1000
  a2 : ∀ i, (b.obj i).a2.length ≤ 1000

theorem last_size (l : LastV) : (Tryz.prog.info? 34).map (·.size) = some (lastC l).size := by show _ = some 3; kernel_rfl
theorem last_zero : (Tryz.prog.info? 34).map (·.zero) = some (some (.agg (lastC last0))) := by kernel_rfl
theorem res_bad : Tryz.prog.built 32 [(0, .int .u8 3)] = some (resC ⟨3, []⟩) := by kernel_rfl

theorem seen_no {b : BaseV} {o : OpV} (h : writesM o = false) : seenM b o = (res0, false) := by unfold seenM; rw [if_neg (by rw [h]; simp)]
theorem seen_new {b : BaseV} {o : OpV} (h : writesM o = true) (hs : (lastOf b o).seq < o.seq) : seenM b o = (res0, false) := by unfold seenM; rw [if_pos h, if_pos hs]
theorem seen_same {b : BaseV} {o : OpV} (h : writesM o = true) (hs : (lastOf b o).seq = o.seq) : seenM b o = ((lastOf b o).r, true) := by unfold seenM; rw [if_pos h, if_neg (by omega), if_pos hs]
theorem seen_old {b : BaseV} {o : OpV} (h : writesM o = true) (hs : o.seq < (lastOf b o).seq) : seenM b o = (⟨3, []⟩, true) := by unfold seenM; rw [if_pos h, if_neg (by omega), if_neg (by omega)]

theorem writes_client {o : OpV} (h : writesM o = true) : 1 ≤ o.client ∧ o.client ≤ 3 ∧ o.obj < 6 ∧ 1 ≤ o.kind ∧ o.kind ≤ 4 ∧ o.data.length ≤ 16 := by
  have h1 := (writes_is o).1 h
  have h2 := (isOp_is o).1 h1.1
  omega

end Go.Proofs.YtecilienolabfaaGreatDoor

/- ObjSpec: What package objects has to answer, as one bundle; that Do keeps what a base must be. -/
namespace Go.Proofs.YtecilienolabfaaGreatDoor
set_option linter.unusedSimpArgs false
set_option linter.unusedVariables false
open Go.RowKit

def opR (l : List OpV) : List (List Value) := l.map opL
def resR (l : List ResV) : List (List Value) := l.map resL

structure ObjSpec : Prop where
  isop : ∀ (o : OpV) (w : World), OpOk o → Calls Tryz.prog 117 #[.agg (opC o)] w fun e w' => e = .returned (.bool (isOpM o)) ∧ Below w.heap.size w w'
  writes : ∀ (o : OpV) (w : World), OpOk o → Calls Tryz.prog 116 #[.agg (opC o)] w fun e w' => e = .returned (.bool (writesM o)) ∧ Below w.heap.size w w'

theorem fitS_len (n : Nat) (d : List UInt8) : (fitS n d).length = n := by
  unfold fitS
  rw [List.length_append, List.length_take, List.length_replicate]
  omega
theorem writeS_len (d s : List UInt8) (n : Nat) : (writeS d n s).length = max d.length (n + s.length) := by
  unfold writeS
  rw [List.length_append, List.length_append, fitS_len, List.length_drop]
  omega

/-- What an object's strings may have, behind a change. -/
structure ObjOk (x : ObjV) : Prop where
  data : x.data.length ≤ 1000
  a0 : x.a0.length ≤ 1000
  a1 : x.a1.length ≤ 1000
  a2 : x.a2.length ≤ 1000

theorem obj0_ok : ObjOk obj0 := ⟨by decide, by decide, by decide, by decide⟩

theorem change_ok {x : ObjV} {o : OpV} (h : ObjOk x) (hd : o.data.length ≤ 16) (hp : o.pos < 256) : ObjOk (changeM x o).1 := by
  unfold changeM
  split
  · split
    · exact h
    · refine ⟨?_, h.a0, h.a1, h.a2⟩
      show (writeS x.data o.pos o.data).length ≤ 1000
      have := h.data
      rw [writeS_len]
      omega
  · split
    · split
      · exact h
      · split
        · exact h
        · refine ⟨?_, h.a0, h.a1, h.a2⟩
          show (fitS o.pos x.data).length ≤ 1000
          rw [fitS_len]
          omega
    · split
      · split
        · exact h
        · split
          · exact h
          · show ObjOk (x.setAttr o.pos o.data)
            unfold ObjV.setAttr
            split
            · exact ⟨h.data, by show o.data.length ≤ 1000; omega, h.a1, h.a2⟩
            · split
              · exact ⟨h.data, h.a0, by show o.data.length ≤ 1000; omega, h.a2⟩
              · exact ⟨h.data, h.a0, h.a1, by show o.data.length ≤ 1000; omega⟩
      · split
        · exact h
        · exact obj0_ok

theorem code_le (x : ObjV) (o : OpV) : (changeM x o).2 ≤ 3 := by
  unfold changeM
  repeat' split
  all_goals simp

theorem BaseOk.obj {b : BaseV} (h : BaseOk b) (i : Fin 6) : ObjOk (b.obj i) := ⟨h.data i, h.a0 i, h.a1 i, h.a2 i⟩
theorem BaseOk.of {b : BaseV} (h1 : ∀ i, ObjOk (b.obj i)) (h2 : ∀ i, (b.last i).seq < 4294967296 ∧ (b.last i).r.code < 256 ∧ (b.last i).r.data.length ≤ 9223372036854775807) : BaseOk b :=
  ⟨fun i => (h2 i).1, fun i => (h2 i).2.1, fun i => (h2 i).2.2, fun i => (h1 i).data, fun i => (h1 i).a0, fun i => (h1 i).a1, fun i => (h1 i).a2⟩
theorem base0_ok : BaseOk base0 := BaseOk.of (fun _ => obj0_ok) (fun _ => ⟨by show 0 < _; decide, by show 0 < _; decide, by show 0 ≤ _; decide⟩)

theorem objOf_ok {b : BaseV} (h : BaseOk b) (o : OpV) : ObjOk (objOf b o) := by
  unfold objOf
  split
  · exact h.obj _
  · exact obj0_ok

theorem putObj_ok {b : BaseV} (h : BaseOk b) (o : OpV) {x : ObjV} (hx : ObjOk x) : BaseOk (putObj b o x) := by
  unfold putObj
  split
  · refine BaseOk.of (fun i => ?_) (fun i => ⟨h.seq i, h.code i, h.rdata i⟩)
    show ObjOk (if i = _ then x else b.obj i)
    split
    · exact hx
    · exact h.obj i
  · exact h
theorem putLast_ok {b : BaseV} (h : BaseOk b) (o : OpV) {l : LastV} (h1 : l.seq < 4294967296) (h2 : l.r.code < 256) (h3 : l.r.data.length ≤ 9223372036854775807) : BaseOk (putLast b o l) := by
  unfold putLast
  split
  · refine BaseOk.of (fun i => h.obj i) (fun i => ?_)
    show (if i = _ then l else b.last i).seq < _ ∧ (if i = _ then l else b.last i).r.code < _ ∧ (if i = _ then l else b.last i).r.data.length ≤ _
    split
    · exact ⟨h1, h2, h3⟩
    · exact ⟨h.seq i, h.code i, h.rdata i⟩
  · exact h

theorem seen_ok {b : BaseV} (h : BaseOk b) (o : OpV) : (seenM b o).1.code < 256 ∧ (seenM b o).1.data.length ≤ 9223372036854775807 := by
  have hl : (lastOf b o).r.code < 256 ∧ (lastOf b o).r.data.length ≤ 9223372036854775807 := by
    unfold lastOf
    split
    · exact ⟨h.code _, h.rdata _⟩
    · exact ⟨by show 0 < _; decide, by show 0 ≤ _; decide⟩
  unfold seenM
  split
  · split
    · exact ⟨by show 0 < _; decide, by show 0 ≤ _; decide⟩
    · split
      · exact hl
      · exact ⟨by show 3 < _; decide, by show 0 ≤ _; decide⟩
  · exact ⟨by show 0 < _; decide, by show 0 ≤ _; decide⟩

theorem do_ok {b : BaseV} (h : BaseOk b) {o : OpV} (ho : OpOk o) : BaseOk (doM b o).1 ∧ (doM b o).2.code < 256 ∧ (doM b o).2.data.length ≤ 9223372036854775807 := by
  unfold doM
  split
  · rename_i hw
    obtain ⟨_, _, _, _, _, hd⟩ := writes_client hw
    split
    · exact ⟨h, seen_ok h o⟩
    · have hc := code_le (objOf b o) o
      exact ⟨putLast_ok (putObj_ok h o (change_ok (objOf_ok h o) hd ho.pos)) o ho.seq (show (changeM (objOf b o) o).2 < 256 by omega) (by show 0 ≤ _; decide), show (changeM (objOf b o) o).2 < 256 by omega, by show 0 ≤ _; decide⟩
  · exact ⟨h, by show 3 < _; decide, by show 0 ≤ _; decide⟩
end Go.Proofs.YtecilienolabfaaGreatDoor

/- ObjKnown: A whole row into its variable; the world behind it has a name. (Stage 7's text in the place of stage 6's ObjKnown.) -/
namespace Go.Proofs.YtecilienolabfaaGreatDoor
set_option linter.unusedSimpArgs false
set_option linter.unusedVariables false
open Go.RowKit

/-- A whole row into its variable; the world behind it has a name. -/
theorem wpList_store_to {P : Program} {ops : Array Oper} {rest : List Oper} {o : Oper} {a : Act} {w : World} {Q : Exit → Act → World → Prop} (hw : Region.wanted o (yielded ops a.tmps) = true) (ty : TypeId) (x y : Operand) (ho : o.op = .store ty x y) (g : Nat) (hx : a.eval x = .pointer (some ⟨g, 0, none⟩))
    (c : Array Value) (hy : a.eval y = .agg c) (t : TypeId) (old : Array Value) (hi : (P.info? ty).map (·.size) = some c.size) (hs : old.size = c.size) (h1 : c.all (·.oneCell') = true)
    (hg : Has w g t old) (W : World) (hW : w.setRow g c = W) (h : wpList P ops Q rest (a.put o.dst undef) W) : wpList P ops Q (o :: rest) a w :=
  wpList_store_has hw ty x y ho g hx c hy t old hi hs h1 hg (hW ▸ h)
end Go.Proofs.YtecilienolabfaaGreatDoor

/- EqObj: A base, an object, a result held against itself by '==': true. -/
namespace Go.Proofs.YtecilienolabfaaGreatDoor
set_option linter.unusedSimpArgs false
set_option linter.unusedVariables false
set_option maxRecDepth 100000
open Go.RowKit

theorem wfo_u8 {n : Nat} (h : n < 256) : (Lit.int .u8 n).wf = true := by
  simp [Lit.wf, IntKind.min, IntKind.max, IntKind.signed, IntKind.bits]; omega
theorem wfo_u32 {n : Nat} (h : n < 4294967296) : (Lit.int .u32 n).wf = true := by
  simp [Lit.wf, IntKind.min, IntKind.max, IntKind.signed, IntKind.bits]; omega

theorem co_u8 : Tryz.prog.cellsOf 5 = 1 := by kernel_rfl
theorem co_u32 : Tryz.prog.cellsOf 22 = 1 := by kernel_rfl
theorem co_bool : Tryz.prog.cellsOf 4 = 1 := by kernel_rfl
theorem co_string : Tryz.prog.cellsOf 9 = 1 := by kernel_rfl
theorem co_attrs : Tryz.prog.cellsOf 27 = 3 := by kernel_rfl
theorem co_obj : Tryz.prog.cellsOf 29 = 5 := by kernel_rfl
theorem co_objs : Tryz.prog.cellsOf 30 = 30 := by kernel_rfl
theorem co_res : Tryz.prog.cellsOf 32 = 2 := by kernel_rfl
theorem co_last : Tryz.prog.cellsOf 34 = 3 := by kernel_rfl
theorem co_lasts : Tryz.prog.cellsOf 35 = 9 := by kernel_rfl
theorem co_base : Tryz.prog.cellsOf 37 = 39 := by kernel_rfl

theorem str_lits (l : List UInt8) (h : l.length ≤ 9223372036854775807) (D : Nat) : Tryz.prog.keyLits (D + 1) 9 [strV l] = some [.string l] := by
  unfold Program.keyLits strV
  rw [Tryz.underlying9]
  have hs : (mkS l).size ≤ maxLen := by rw [mkS_size]; unfold maxLen; omega
  simp only [hs, if_true]
  simp [mkS]

theorem res_lits (r : ResV) (h1 : r.code < 256) (h2 : r.data.length ≤ 9223372036854775807) (D : Nat) : ∃ K, Tryz.prog.keyLits (D + 2) 32 (resL r) = some K := by
  have w0 := wfo_u8 h1
  have e := str_lits r.data h2 D
  have e8 : Tryz.prog.keyLits (D + 1) 5 [.int .u8 (r.code : Int)] = some [.int .u8 (r.code : Int)] := by
    unfold Program.keyLits
    rw [Tryz.underlying5]
    simp [w0]
  unfold Program.keyLits
  rw [Tryz.underlying32]
  simp [resL, co_res, co_u8, co_string, e, e8]

theorem last_lits (l : LastV) (h0 : l.seq < 4294967296) (h1 : l.r.code < 256) (h2 : l.r.data.length ≤ 9223372036854775807) (D : Nat) : ∃ K, Tryz.prog.keyLits (D + 3) 34 (lastL l) = some K := by
  have w0 := wfo_u32 h0
  obtain ⟨K, e⟩ := res_lits l.r h1 h2 D
  have e4 : Tryz.prog.keyLits (D + 2) 22 [.int .u32 (l.seq : Int)] = some [.int .u32 (l.seq : Int)] := by
    unfold Program.keyLits
    rw [Tryz.underlying22]
    simp [w0]
  have e : Tryz.prog.keyLits (D + 2) 32 [.int .u8 (l.r.code : Int), strV l.r.data] = some K := e
  unfold Program.keyLits
  rw [Tryz.underlying34]
  simp [lastL, resL, co_last, co_u32, co_res, e, e4]

theorem obj_lits (x : ObjV) (h0 : x.data.length ≤ 9223372036854775807) (h1 : x.a0.length ≤ 9223372036854775807) (h2 : x.a1.length ≤ 9223372036854775807) (h3 : x.a2.length ≤ 9223372036854775807) (D : Nat) : ∃ K, Tryz.prog.keyLits (D + 3) 29 (objL x) = some K := by
  have e0 := str_lits x.data h0 (D + 1)
  have f0 := str_lits x.a0 h1 D
  have f1 := str_lits x.a1 h2 D
  have f2 := str_lits x.a2 h3 D
  have eb : Tryz.prog.keyLits (D + 2) 4 [.bool x.there] = some [.bool x.there] := by
    unfold Program.keyLits
    rw [Tryz.underlying4]
  have ea : Tryz.prog.keyLits (D + 2) 27 [strV x.a0, strV x.a1, strV x.a2] = some [.string x.a0, .string x.a1, .string x.a2] := by
    unfold Program.keyLits
    rw [Tryz.underlying27]
    simp [co_attrs, co_string, show List.range 3 = [0, 1, 2] from rfl, f0, f1, f2]
  unfold Program.keyLits
  rw [Tryz.underlying29]
  simp [objL, co_obj, co_bool, co_string, co_attrs, e0, eb, ea]

theorem objs_lits (f : Fin 6 → ObjV) (h : ∀ i, ∃ K, Tryz.prog.keyLits 6 29 (objL (f i)) = some K) : ∃ K, Tryz.prog.keyLits 7 30 (objsL f) = some K := by
  obtain ⟨K0, e0⟩ := h 0
  obtain ⟨K1, e1⟩ := h 1
  obtain ⟨K2, e2⟩ := h 2
  obtain ⟨K3, e3⟩ := h 3
  obtain ⟨K4, e4⟩ := h 4
  obtain ⟨K5, e5⟩ := h 5
  simp only [objL] at e0 e1 e2 e3 e4 e5
  unfold Program.keyLits
  rw [Tryz.underlying30]
  simp [objsL, objL, co_obj, co_objs, show List.range 6 = [0, 1, 2, 3, 4, 5] from rfl, e0, e1, e2, e3, e4, e5]

theorem lasts_lits (f : Fin 3 → LastV) (h : ∀ i, ∃ K, Tryz.prog.keyLits 6 34 (lastL (f i)) = some K) : ∃ K, Tryz.prog.keyLits 7 35 (lastsL f) = some K := by
  obtain ⟨K0, e0⟩ := h 0
  obtain ⟨K1, e1⟩ := h 1
  obtain ⟨K2, e2⟩ := h 2
  simp only [lastL, resL] at e0 e1 e2
  unfold Program.keyLits
  rw [Tryz.underlying35]
  simp [lastsL, lastL, resL, co_last, co_lasts, show List.range 3 = [0, 1, 2] from rfl, e0, e1, e2]

theorem base_lits (b : BaseV) (h : BaseOk b) : ∃ K, Tryz.prog.keyLits 8 37 (baseL b) = some K := by
  obtain ⟨K0, e0⟩ := objs_lits b.obj (fun i => obj_lits (b.obj i) (by have := h.data i; omega) (by have := h.a0 i; omega) (by have := h.a1 i; omega) (by have := h.a2 i; omega) 3)
  obtain ⟨K1, e1⟩ := lasts_lits b.last (fun i => last_lits (b.last i) (h.seq i) (h.code i) (h.rdata i) 3)
  have l0 : (objsL b.obj).length = 30 := rfl
  have l1 : (lastsL b.last).length = 9 := rfl
  unfold Program.keyLits baseL
  rw [Tryz.underlying37]
  generalize objsL b.obj = A at *
  generalize lastsL b.last = B at *
  have t0 : (A ++ B).take 30 = A := by rw [← l0, List.take_left]
  have t1 : (A ++ B).drop 30 = B := by rw [← l0, List.drop_left]
  have t2 : B.take 9 = B := List.take_of_length_le (by omega)
  simp [co_base, co_objs, co_lasts, l0, l1, t0, t1, t2, e0, e1]

theorem eq_self_in (t : TypeId) (c : Array Value) (hk : Tryz.prog.keyTypeAt 8 t = true) (hf : (Value.agg c).formed Tryz.prog t = true) (hl : ∃ K, Tryz.prog.keyLits 8 t c.toList = some K) (w : World) : (Op.equalIn 10000 t (.agg c) (.agg c)).run Tryz.prog w = .ok true w := by
  obtain ⟨K, e⟩ := hl
  obtain ⟨r, hr, hiff⟩ := run_equalIn_deep 9992 8 t hk w 8 8 (.agg c) (.agg c) K K hf hf e e
  rw [hiff.2 rfl] at hr
  exact hr
theorem eq_self (t : TypeId) (c : Array Value) (hk : Tryz.prog.keyTypeAt 8 t = true) (hf : (Value.agg c).formed Tryz.prog t = true) (hl : ∃ K, Tryz.prog.keyLits 8 t c.toList = some K) (w : World) : (binOp .eql t (.agg c) (.agg c)).run Tryz.prog w = .ok (.bool true) w := by
  rw [run_eql_struct, eq_self_in t c hk hf hl w]
  rfl
theorem neq_self (t : TypeId) (c : Array Value) (hk : Tryz.prog.keyTypeAt 8 t = true) (hf : (Value.agg c).formed Tryz.prog t = true) (hl : ∃ K, Tryz.prog.keyLits 8 t c.toList = some K) (w : World) : (binOp .neq t (.agg c) (.agg c)).run Tryz.prog w = .ok (.bool false) w := by
  rw [run_neq_struct, eq_self_in t c hk hf hl w]
  rfl

theorem key_base : Tryz.prog.keyTypeAt 8 37 = true := by kernel_rfl
theorem key_obj : Tryz.prog.keyTypeAt 8 29 = true := by kernel_rfl
theorem key_objs : Tryz.prog.keyTypeAt 8 30 = true := by kernel_rfl
theorem key_last : Tryz.prog.keyTypeAt 8 34 = true := by kernel_rfl
theorem key_res : Tryz.prog.keyTypeAt 8 32 = true := by kernel_rfl

theorem eq_base (b : BaseV) (h : BaseOk b) (w : World) : (binOp .eql 37 (.agg (baseC b)) (.agg (baseC b))).run Tryz.prog w = .ok (.bool true) w :=
  eq_self 37 (baseC b) key_base (by simp [Value.formed, Tryz.underlying37, co_base]; rfl) (base_lits b h) w
theorem neq_base (b : BaseV) (h : BaseOk b) (w : World) : (binOp .neq 37 (.agg (baseC b)) (.agg (baseC b))).run Tryz.prog w = .ok (.bool false) w :=
  neq_self 37 (baseC b) key_base (by simp [Value.formed, Tryz.underlying37, co_base]; rfl) (base_lits b h) w
theorem eq_res (r : ResV) (h1 : r.code < 256) (h2 : r.data.length ≤ 9223372036854775807) (w : World) : (binOp .eql 32 (.agg (resC r)) (.agg (resC r))).run Tryz.prog w = .ok (.bool true) w :=
  eq_self 32 (resC r) key_res (by simp [Value.formed, Tryz.underlying32, co_res]; rfl) (res_lits r h1 h2 6) w
theorem neq_res (r : ResV) (h1 : r.code < 256) (h2 : r.data.length ≤ 9223372036854775807) (w : World) : (binOp .neq 32 (.agg (resC r)) (.agg (resC r))).run Tryz.prog w = .ok (.bool false) w :=
  neq_self 32 (resC r) key_res (by simp [Value.formed, Tryz.underlying32, co_res]; rfl) (res_lits r h1 h2 6) w

theorem guard_base : Tryz.prog.eqGuardType Tryz.prog.depth 37 = false := by kernel_rfl
theorem guard_res : Tryz.prog.eqGuardType Tryz.prog.depth 32 = false := by kernel_rfl
theorem guard_obj : Tryz.prog.eqGuardType Tryz.prog.depth 29 = false := by kernel_rfl
end Go.Proofs.YtecilienolabfaaGreatDoor

/- ObjFacts: What doM and seenM make of bases: what is done twice is done once, elder ones are refused, what is touched, either order. -/
namespace Go.Proofs.YtecilienolabfaaGreatDoor
set_option linter.unusedSimpArgs false
set_option linter.unusedVariables false
open Go.RowKit

theorem last_putLast (b : BaseV) (o : OpV) (l : LastV) (h : o.client - 1 < 3) : lastOf (putLast b o l) o = l := by
  unfold lastOf putLast
  rw [dif_pos h, dif_pos h]
  show (if _ = _ then l else _) = l
  rw [if_pos rfl]
theorem seen_is {b : BaseV} {o : OpV} (h : writesM o = true) : (seenM b o).2 = true ↔ o.seq ≤ (lastOf b o).seq := by
  unfold seenM
  rw [if_pos h]
  split
  · simp; omega
  · split
    · simp; omega
    · simp; omega

theorem do_bad {b : BaseV} {o : OpV} (h : writesM o = false) : doM b o = (b, ⟨3, []⟩) := by
  unfold doM
  rw [h]; rfl
theorem do_seen {b : BaseV} {o : OpV} (h : writesM o = true) (hs : (seenM b o).2 = true) : doM b o = (b, (seenM b o).1) := by
  unfold doM
  rw [if_pos h, if_pos hs]
theorem do_new {b : BaseV} {o : OpV} (h : writesM o = true) (hs : ¬ (seenM b o).2 = true) :
    doM b o = (putLast (putObj b o (changeM (objOf b o) o).1) o ⟨o.seq, ⟨(changeM (objOf b o) o).2, []⟩⟩, ⟨(changeM (objOf b o) o).2, []⟩) := by
  unfold doM
  rw [if_pos h, if_neg hs]

/-- P6.4: behind Do, Seen tells the result. -/
theorem seen_do {b : BaseV} {o : OpV} (h : writesM o = true) : seenM (doM b o).1 o = ((doM b o).2, true) := by
  obtain ⟨h1, h2, _⟩ := writes_client h
  by_cases hs : (seenM b o).2 = true
  · rw [do_seen h hs]
    exact Prod.ext rfl hs
  · rw [do_new h hs]
    unfold seenM
    rw [if_pos h, last_putLast _ _ _ (by omega), if_neg (by show ¬ o.seq < o.seq; omega), if_pos rfl]
/-- P6.4: what is done twice is done once. -/
theorem do_twice {b : BaseV} {o : OpV} (h : writesM o = true) : doM (doM b o).1 o = doM b o := by
  have hs := seen_do (b := b) h
  rw [do_seen h (by rw [hs]), hs]

theorem do_last {b : BaseV} {o : OpV} (h : writesM o = true) : o.seq ≤ (lastOf (doM b o).1 o).seq := by
  have hs := seen_do (b := b) h
  exact (seen_is h).1 (by rw [hs])
theorem seen_elder {b : BaseV} {o : OpV} (h : writesM o = true) (hl : o.seq < (lastOf b o).seq) : seenM b o = (⟨3, []⟩, true) := by
  unfold seenM
  rw [if_pos h, if_neg (by omega), if_neg (by omega)]
theorem do_elder {b : BaseV} {o : OpV} (h : writesM o = true) (hl : o.seq < (lastOf b o).seq) : doM b o = (b, ⟨3, []⟩) := by
  have hs := seen_elder h hl
  rw [do_seen h (by rw [hs]), hs]

theorem isOp_seq {o : OpV} (n : Nat) (hn : 1 ≤ n) (h : isOpM o = true) : isOpM { o with seq := n } = true := by
  rw [isOp_is] at *
  simpa [hn] using ⟨h.1, h.2.1, h.2.2.2⟩
theorem writes_seq {o : OpV} (n : Nat) (hn : 1 ≤ n) (h : writesM o = true) : writesM { o with seq := n } = true := by
  rw [writes_is] at *
  exact ⟨isOp_seq n hn h.1, h.2⟩
/-- Behind a later one the elder one is refused. -/
theorem do_later {c : BaseV} {o : OpV} (h : writesM o = true) : doM (doM c { o with seq := o.seq + 1 }).1 o = ((doM c { o with seq := o.seq + 1 }).1, ⟨3, []⟩) := by
  have hl := do_last (b := c) (writes_seq (o.seq + 1) (by omega) h)
  exact do_elder h (by
    have : lastOf (doM c { o with seq := o.seq + 1 }).1 o = lastOf (doM c { o with seq := o.seq + 1 }).1 { o with seq := o.seq + 1 } := rfl
    rw [this]
    have : ({ o with seq := o.seq + 1 } : OpV).seq = o.seq + 1 := rfl
    omega)

/-- What isn't done changes no object. -/
theorem change_not {x : ObjV} {o : OpV} (h : (changeM x o).2 ≠ 0) : (changeM x o).1 = x := by
  revert h
  unfold changeM
  repeat' split
  all_goals simp

theorem putObj_last (b : BaseV) (o : OpV) (x : ObjV) : (putObj b o x).last = b.last := by
  unfold putObj
  split <;> rfl
theorem putLast_obj (b : BaseV) (o : OpV) (l : LastV) : (putLast b o l).obj = b.obj := by
  unfold putLast
  split <;> rfl
theorem putObj_other (b : BaseV) (o : OpV) (x : ObjV) (i : Fin 6) (h : i.val ≠ o.obj) : (putObj b o x).obj i = b.obj i := by
  unfold putObj
  split
  · show (if i = _ then x else b.obj i) = _
    rw [if_neg (fun e => h (by rw [e]))]
  · rfl
theorem putLast_other (b : BaseV) (o : OpV) (l : LastV) (i : Fin 3) (h : i.val ≠ o.client - 1) : (putLast b o l).last i = b.last i := by
  unfold putLast
  split
  · show (if i = _ then l else b.last i) = _
    rw [if_neg (fun e => h (by rw [e]))]
  · rfl
theorem putObj_same (b : BaseV) (o : OpV) : putObj b o (objOf b o) = b := by
  unfold putObj objOf
  split
  · show BaseV.mk (fun j => if j = _ then _ else b.obj j) b.last = b
    congr 1
    funext j
    split
    · rename_i e; rw [e]
    · rfl
  · rfl

theorem do_obj_other {b : BaseV} {o : OpV} (i : Fin 6) (h : i.val ≠ o.obj) : (doM b o).1.obj i = b.obj i := by
  unfold doM
  repeat' split
  · rfl
  · show (putLast _ _ _).obj i = _
    rw [putLast_obj, putObj_other _ _ _ _ h]
  · rfl
theorem do_last_other {b : BaseV} {o : OpV} (i : Fin 3) (h : i.val ≠ o.client - 1) : (doM b o).1.last i = b.last i := by
  unfold doM
  repeat' split
  · rfl
  · show (putLast _ _ _).last i = _
    rw [putLast_other _ _ _ _ h, putObj_last]
  · rfl
/-- Done, or no object has changed. -/
theorem do_code {b : BaseV} {o : OpV} (h : (doM b o).2.code ≠ 0) : (doM b o).1.obj = b.obj := by
  revert h
  unfold doM
  split
  · split
    · exact fun _ => rfl
    · intro h
      have h : (changeM (objOf b o) o).2 ≠ 0 := h
      show (putLast _ _ _).obj = _
      rw [putLast_obj, change_not h, putObj_same]
  · exact fun _ => rfl

theorem objOf_do {s : BaseV} {a b : OpV} (h : a.obj ≠ b.obj) : objOf (doM s a).1 b = objOf s b := by
  unfold objOf
  split
  · exact do_obj_other _ (fun e => h e.symm)
  · rfl
theorem lastOf_do {s : BaseV} {a b : OpV} (h : a.client - 1 ≠ b.client - 1) : lastOf (doM s a).1 b = lastOf s b := by
  unfold lastOf
  split
  · exact do_last_other _ (fun e => h e.symm)
  · rfl
theorem seen_do_other {s : BaseV} {a b : OpV} (h : a.client - 1 ≠ b.client - 1) : seenM (doM s a).1 b = seenM s b := by
  unfold seenM
  rw [lastOf_do h]

theorem objOf_at {b : BaseV} {o : OpV} (i : Fin 6) (h : i.val = o.obj) : objOf b o = b.obj i := by
  unfold objOf
  rw [dif_pos (by omega)]
  exact congrArg b.obj (Fin.ext h.symm)
theorem lastOf_at {b : BaseV} {o : OpV} (i : Fin 3) (h : i.val = o.client - 1) : lastOf b o = b.last i := by
  unfold lastOf
  rw [dif_pos (by omega)]
  exact congrArg b.last (Fin.ext h.symm)
theorem putObj_at (b : BaseV) (o : OpV) (x : ObjV) (i : Fin 6) (h : i.val = o.obj) : (putObj b o x).obj i = x := by
  unfold putObj
  rw [dif_pos (by omega)]
  show (if i = _ then x else b.obj i) = _
  rw [if_pos (Fin.ext h)]
theorem putLast_at (b : BaseV) (o : OpV) (l : LastV) (i : Fin 3) (h : i.val = o.client - 1) : (putLast b o l).last i = l := by
  unfold putLast
  rw [dif_pos (by omega)]
  show (if i = _ then l else b.last i) = _
  rw [if_pos (Fin.ext h)]

/-- Do looks at its object and its client's last one alone. -/
theorem do_congr {s t : BaseV} {o : OpV} (ho : objOf s o = objOf t o) (hl : lastOf s o = lastOf t o) :
    (doM s o).2 = (doM t o).2 ∧ (∀ i : Fin 6, i.val = o.obj → (doM s o).1.obj i = (doM t o).1.obj i) ∧ (∀ i : Fin 3, i.val = o.client - 1 → (doM s o).1.last i = (doM t o).1.last i) := by
  have hs : seenM s o = seenM t o := by unfold seenM; rw [hl]
  have ho' : ∀ i : Fin 6, i.val = o.obj → s.obj i = t.obj i := fun i h => by rw [← objOf_at i h, ← objOf_at i h, ho]
  have hl' : ∀ i : Fin 3, i.val = o.client - 1 → s.last i = t.last i := fun i h => by rw [← lastOf_at i h, ← lastOf_at i h, hl]
  cases hw : writesM o with
  | false =>
    rw [do_bad hw, do_bad hw]
    exact ⟨rfl, ho', hl'⟩
  | true =>
    by_cases hq : (seenM s o).2 = true
    · rw [do_seen hw hq, do_seen hw (hs ▸ hq), hs]
      exact ⟨rfl, ho', hl'⟩
    · rw [do_new hw hq, do_new hw (hs ▸ hq), ho]
      refine ⟨rfl, fun i h => ?_, fun i h => ?_⟩
      · show (putLast _ _ _).obj i = (putLast _ _ _).obj i
        rw [putLast_obj, putLast_obj, putObj_at _ _ _ _ h, putObj_at _ _ _ _ h]
      · show (putLast _ _ _).last i = (putLast _ _ _).last i
        rw [putLast_at _ _ _ _ h, putLast_at _ _ _ _ h]

theorem base_ext {a b : BaseV} (h1 : ∀ i, a.obj i = b.obj i) (h2 : ∀ i, a.last i = b.last i) : a = b := by
  cases a; cases b
  congr
  · exact funext h1
  · exact funext h2

/-- Unlike clients on unlike objects: either order. -/
theorem do_either (s : BaseV) {a b : OpV} (hc : a.client - 1 ≠ b.client - 1) (ho : a.obj ≠ b.obj) :
    (doM (doM s a).1 b).1 = (doM (doM s b).1 a).1 ∧ (doM (doM s a).1 b).2 = (doM s b).2 ∧ (doM (doM s b).1 a).2 = (doM s a).2 := by
  have hB := do_congr (o := b) (objOf_do (s := s) ho) (lastOf_do (s := s) hc)
  have hA := do_congr (o := a) (objOf_do (s := s) ho.symm) (lastOf_do (s := s) hc.symm)
  refine ⟨base_ext (fun i => ?_) (fun i => ?_), hB.1, hA.1⟩
  · by_cases h1 : i.val = a.obj
    · rw [do_obj_other (b := (doM s a).1) (o := b) i (by omega), hA.2.1 i h1]
    · rw [do_obj_other (b := (doM s b).1) (o := a) i h1]
      by_cases h2 : i.val = b.obj
      · rw [hB.2.1 i h2]
      · rw [do_obj_other _ h2, do_obj_other _ h1, do_obj_other _ h2]
  · by_cases h1 : i.val = a.client - 1
    · rw [do_last_other (b := (doM s a).1) (o := b) i (by omega), hA.2.2 i h1]
    · rw [do_last_other (b := (doM s b).1) (o := a) i h1]
      by_cases h2 : i.val = b.client - 1
      · rw [hB.2.2 i h2]
      · rw [do_last_other _ h2, do_last_other _ h1, do_last_other _ h2]

theorem all_two (s : BaseV) (a b : OpV) : allM s [a, b] = ((doM (doM s a).1 b).1, [(doM s a).2, (doM (doM s a).1 b).2]) := rfl
theorem all_snoc6 (s : BaseV) (l : List OpV) (o : OpV) : allM s (l ++ [o]) = ((doM (allM s l).1 o).1, (allM s l).2 ++ [(doM (allM s l).1 o).2]) := by
  unfold allM
  rw [List.foldl_append]
  rfl
theorem snoc_ind {α : Type} {P : List α → Prop} (h0 : P []) (h1 : ∀ l o, P l → P (l ++ [o])) (l : List α) : P l := by
  rw [← List.reverse_reverse l]
  induction l.reverse with
  | nil => exact h0
  | cons o l ih => rw [List.reverse_cons]; exact h1 _ _ ih
theorem all_len (s : BaseV) (l : List OpV) : (allM s l).2.length = l.length := by
  induction l using snoc_ind with
  | h0 => rfl
  | h1 l o ih => rw [all_snoc6, List.length_append, List.length_append, ih]; rfl
theorem all_ok {s : BaseV} (h : BaseOk s) (l : List OpV) (hl : ∀ o ∈ l, OpOk o) : BaseOk (allM s l).1 := by
  induction l using snoc_ind with
  | h0 => exact h
  | h1 l o ih =>
    rw [all_snoc6]
    exact (do_ok (ih (fun p hp => hl p (List.mem_append.2 (.inl hp)))) (hl o (by simp))).1
end Go.Proofs.YtecilienolabfaaGreatDoor

/- ResRow: A row of results in one block, filled from the front. -/
namespace Go.Proofs.YtecilienolabfaaGreatDoor
set_option linter.unusedSimpArgs false
set_option linter.unusedVariables false
set_option maxRecDepth 100000
open Go.RowKit

theorem flat_cons (x : ResV) (xs : List ResV) : (x :: xs).flatMap resL = .int .u8 (x.code : Int) :: strV x.data :: xs.flatMap resL := rfl

theorem flat_len6 (xs : List ResV) : (xs.flatMap resL).length = xs.length * 2 := by
  induction xs with
  | nil => rfl
  | cons x xs ih =>
    rw [flat_cons, List.length_cons, List.length_cons, List.length_cons, ih]
    omega

theorem flat_at6 (xs : List ResV) (n : Nat) (h : n < xs.length) (j : Nat) (hj : j < 2) : (xs.flatMap resL)[n * 2 + j]? = (resL xs[n])[j]? := by
  induction xs generalizing n with
  | nil => cases h
  | cons x xs ih =>
    rw [flat_cons]
    cases n with
    | zero =>
      match j, hj with
      | 0, _ => rfl
      | 1, _ => rfl
    | succ n =>
      rw [show (n + 1) * 2 + j = n * 2 + j + 2 by omega]
      exact ih n (by simpa using h)

theorem flat_set (xs : List ResV) (n : Nat) (h : n < xs.length) (r : ResV) : ((xs.flatMap resL).set (n * 2) (.int .u8 (r.code : Int))).set (n * 2 + 1) (strV r.data) = (xs.set n r).flatMap resL := by
  induction xs generalizing n with
  | nil => cases h
  | cons x xs ih =>
    rw [flat_cons]
    cases n with
    | zero => rfl
    | succ n =>
      rw [show (n + 1) * 2 = n * 2 + 2 by omega, show n * 2 + 2 + 1 = n * 2 + 1 + 2 by omega]
      show _ :: _ :: ((xs.flatMap resL).set (n * 2) _).set (n * 2 + 1) _ = _
      rw [ih n (by simpa using h)]
      rfl

/-- So many results of N. -/
def rowX (ps : List ResV) (N : Nat) : List ResV := ps ++ List.replicate (N - ps.length) res0
def rowC (ps : List ResV) (N : Nat) : Array Value := ((rowX ps N).flatMap resL).toArray
theorem rowX_len (ps : List ResV) (N : Nat) (h : ps.length ≤ N) : (rowX ps N).length = N := by
  unfold rowX
  rw [List.length_append, List.length_replicate]
  omega
theorem rowX_next (ps : List ResV) (N : Nat) (h : ps.length < N) (r : ResV) : (rowX ps N).set ps.length r = rowX (ps ++ [r]) N := by
  unfold rowX
  rw [List.set_append_right _ _ (Nat.le_refl _), Nat.sub_self, List.length_append, List.append_assoc]
  congr 1
  rw [show N - ps.length = (N - (ps.length + 1)) + 1 by omega]
  rfl
theorem rowC_size (ps : List ResV) (N : Nat) (h : ps.length ≤ N) : (rowC ps N).size = N * 2 := by
  unfold rowC
  rw [List.size_toArray, flat_len6, rowX_len ps N h]
theorem rowC_next (ps : List ResV) (N : Nat) (h : ps.length < N) (r : ResV) : ((rowC ps N).setIfInBounds (ps.length * 2) (.int .u8 (r.code : Int))).setIfInBounds (ps.length * 2 + 1) (strV r.data) = rowC (ps ++ [r]) N := by
  unfold rowC
  rw [List.setIfInBounds_toArray, List.setIfInBounds_toArray, flat_set _ _ (by rw [rowX_len ps N (by omega)]; exact h), rowX_next ps N h]
theorem rowX_all (ps : List ResV) : rowX ps ps.length = ps := by
  unfold rowX
  rw [Nat.sub_self]
  simp

theorem Has.next_res {w : World} {g : Nat} {ps : List ResV} {N : Nat} (h : Has w g 32 (rowC ps N)) (hn : ps.length < N) (r : ResV) : Has (w.setCells g (ps.length * 2) (resL r)) g 32 (rowC (ps ++ [r]) N) := by
  have := (h.set (ps.length * 2) (.int .u8 (r.code : Int))).set (ps.length * 2 + 1) (strV r.data)
  rw [rowC_next ps N hn r] at this
  exact this

theorem Has.res_slice {w : World} {g : Nat} {ps : List ResV} (h : Has w g 32 (rowC ps ps.length)) (hn : ps.length ≤ 1000) : Sl w (some ⟨g, 0, none⟩) ps.length 2 (resR ps) := by
  refine ⟨by unfold resR; rw [List.length_map]; exact Nat.le_refl _, by omega, (fun h => by cases h), ?_, fun ad had i hi j hj => ?_⟩
  · intro r hr
    obtain ⟨x, _, rfl⟩ := List.mem_map.1 hr
    rfl
  · obtain rfl := Option.some.inj had
    have hi' : i < ps.length := by unfold resR at hi; rw [List.length_map] at hi; exact hi
    rw [Addr.add_mid, Nat.zero_add, h.cell]
    have e : (resR ps)[i] = resL ps[i] := by simp [resR]
    rw [e]
    unfold rowC
    rw [List.getElem?_toArray, rowX_all, flat_at6 ps i hi' j hj]

theorem res_made (N : Nat) : (madeCells (Value.agg (resC res0)).cells (N * 2)).toList = (rowX [] N).flatMap resL := by
  apply List.ext_getElem?
  intro i
  unfold madeCells
  simp only [Array.toList_map, Array.toList_range]
  rw [List.getElem?_map]
  have hx : rowX [] N = List.replicate N res0 := rfl
  by_cases h : i < N * 2
  · rw [List.getElem?_range h]
    have e : i = i / 2 * 2 + i % 2 := by omega
    have := flat_at6 (List.replicate N res0) (i / 2) (by rw [List.length_replicate]; omega) (i % 2) (by omega)
    rw [← e] at this
    rw [hx, this, List.getElem_replicate]
    have hm : i % 2 = 0 ∨ i % 2 = 1 := by omega
    show some ((Value.agg (resC res0)).cells[i % 2]!) = _
    rcases hm with hm | hm <;> rw [hm] <;> rfl
  · rw [List.getElem?_eq_none (by simpa using h), List.getElem?_eq_none (by rw [flat_len6, hx, List.length_replicate]; omega)]
    rfl

theorem row_has {w : World} {g N : Nat} {b : Nat} (h : w.ownsRow b 32 2 (.slice (some ⟨g, 0, none⟩) N N) N (madeCells (Value.agg (resC res0)).cells (N * 2)).toList) : Has w g 32 (rowC [] N) := by
  rcases h.2 with ⟨hv, _⟩ | ⟨g', cap, cur, hv, hg, hc, hle, hm, hs, hx⟩
  · cases hv
  · injection hv with h1 h2 h3
    injection h1 with h1
    injection h1 with h1
    subst h1
    unfold Has rowC
    rw [hc]
    congr 1
    congr 1
    rw [res_made] at hx
    rw [List.take_of_length_le (by rw [Array.length_toList, hs, ← h3]; exact Nat.le_refl _)] at hx
    rw [← hx]

theorem res_info : ∃ i, Tryz.prog.info? 32 = some i ∧ i.zero = some (.agg (resC res0)) ∧ i.size = 2 ∧ i.bytes = 24 := by
  have h : (Tryz.prog.info? 32).map (fun i => (i.zero, i.size, i.bytes)) = some (some (.agg (resC res0)), 2, 24) := by kernel_rfl
  cases hi : Tryz.prog.info? 32 with
  | none => rw [hi] at h; cases h
  | some i =>
    rw [hi] at h
    simp only [Option.map_some, Option.some.injEq, Prod.mk.injEq] at h
    exact ⟨i, rfl, h.1, h.2.1, h.2.2⟩

theorem all_take (b : BaseV) (l : List OpV) (k : Nat) (h : k < l.length) : allM b (l.take (k + 1)) = ((doM (allM b (l.take k)).1 l[k]).1, (allM b (l.take k)).2 ++ [(doM (allM b (l.take k)).1 l[k]).2]) := by
  rw [List.take_succ_eq_append_getElem h, all_snoc6]
theorem all_take_len (b : BaseV) (l : List OpV) (k : Nat) (h : k ≤ l.length) : (allM b (l.take k)).2.length = k := by
  rw [all_len, List.length_take]
  omega

theorem op_at {w : World} {ad : Addr} {c : Nat} {l : List OpV} (h : Sl w (some ad) c 6 (opR l)) (i : Nat) (hi : i < l.length) :
    ∀ j v, (opL l[i])[j]? = some v → w.cell? ((ad.add (i * 6)).add j) = some v := by
  intro j v hj
  have hj6 : j < 6 := (List.getElem?_eq_some_iff.1 hj).1
  have h0 := h.at' ad rfl i (by unfold opR; rw [List.length_map]; exact hi) j hj6
  unfold opR at h0
  rw [List.getElem_map, hj] at h0
  rw [Go.Deep.add_add]
  exact h0
theorem res_at {w : World} {ad : Addr} {c : Nat} {l : List ResV} (h : Sl w (some ad) c 2 (resR l)) (i : Nat) (hi : i < l.length) :
    ∀ j v, (resL l[i])[j]? = some v → w.cell? ((ad.add (i * 2)).add j) = some v := by
  intro j v hj
  have hj6 : j < 2 := (List.getElem?_eq_some_iff.1 hj).1
  have h0 := h.at' ad rfl i (by unfold resR; rw [List.length_map]; exact hi) j hj6
  unfold resR at h0
  rw [List.getElem_map, hj] at h0
  rw [Go.Deep.add_add]
  exact h0
end Go.Proofs.YtecilienolabfaaGreatDoor

/- EqOp: '==' of operations; '==' and '!=' of what is the same, as steps of a walk. -/
namespace Go.Proofs.YtecilienolabfaaGreatDoor
set_option linter.unusedSimpArgs false
set_option linter.unusedVariables false
set_option maxRecDepth 100000
open Go.RowKit

def opK (o : OpV) : List Lit := [.int .u8 (o.client : Int), .int .u32 (o.seq : Int), .int .u8 (o.kind : Int), .int .u8 (o.obj : Int), .int .u8 (o.pos : Int), .string o.data]

theorem opK_inj {o p : OpV} (h : opK o = opK p) : o = p := by
  obtain ⟨a, b, c, d, e, f⟩ := o
  obtain ⟨a', b', c', d', e', f'⟩ := p
  simp [opK] at h
  obtain ⟨h1, h2, h3, h4, h5, rfl⟩ := h
  have e1 : a = a' := by omega
  have e2 : b = b' := by omega
  have e3 : c = c' := by omega
  have e4 : d = d' := by omega
  have e5 : e = e' := by omega
  subst e1 e2 e3 e4 e5
  rfl

theorem op_lits (o : OpV) (h : OpOk o) (D : Nat) : Tryz.prog.keyLits (D + 2) 39 (opL o) = some (opK o) := by
  have w0 := wfo_u8 h.client
  have w1 := wfo_u32 h.seq
  have w2 := wfo_u8 h.kind
  have w3 := wfo_u8 h.obj
  have w4 := wfo_u8 h.pos
  have e := str_lits o.data h.data D
  have eb : ∀ n : Nat, (Lit.int .u8 (n : Int)).wf = true → Tryz.prog.keyLits (D + 1) 5 [.int .u8 (n : Int)] = some [.int .u8 (n : Int)] := fun n hn => by
    unfold Program.keyLits
    rw [Tryz.underlying5]
    simp [hn]
  have e4 : Tryz.prog.keyLits (D + 1) 22 [.int .u32 (o.seq : Int)] = some [.int .u32 (o.seq : Int)] := by
    unfold Program.keyLits
    rw [Tryz.underlying22]
    simp [w1]
  unfold Program.keyLits
  rw [Tryz.underlying39]
  have co : Tryz.prog.cellsOf 39 = 6 := by kernel_rfl
  simp [opL, opK, co, co_u8, co_u32, co_string, e, e4, eb _ w0, eb _ w2, eb _ w3, eb _ w4]

def sameOp (o p : OpV) : Bool := decide (o.client = p.client) && (decide (o.seq = p.seq) && (decide (o.kind = p.kind) && (decide (o.obj = p.obj) && (decide (o.pos = p.pos) && decide (o.data = p.data)))))
theorem sameOp_is (o p : OpV) : sameOp o p = true ↔ o = p := by
  unfold sameOp
  simp only [Bool.and_eq_true, decide_eq_true_iff]
  constructor
  · rintro ⟨h1, h2, h3, h4, h5, h6⟩
    obtain ⟨a, b, c, d, e, f⟩ := o
    obtain ⟨a', b', c', d', e', f'⟩ := p
    simp_all
  · rintro rfl
    exact ⟨rfl, rfl, rfl, rfl, rfl, rfl⟩

theorem key_op : Tryz.prog.keyTypeAt 8 39 = true := by kernel_rfl
theorem guard_op : Tryz.prog.eqGuardType Tryz.prog.depth 39 = false := by kernel_rfl
theorem eq_op (o p : OpV) (ho : OpOk o) (hp : OpOk p) (w : World) : (binOp .eql 39 (.agg (opC o)) (.agg (opC p))).run Tryz.prog w = .ok (.bool (sameOp o p)) w := by
  have co : Tryz.prog.cellsOf 39 = 6 := by kernel_rfl
  have fa : (Value.agg (opC o)).formed Tryz.prog 39 = true := by simp [Value.formed, Tryz.underlying39, co]; rfl
  have fb : (Value.agg (opC p)).formed Tryz.prog 39 = true := by simp [Value.formed, Tryz.underlying39, co]; rfl
  obtain ⟨r, hr, hiff⟩ := run_equalIn_deep 9992 8 39 key_op w 8 8 (.agg (opC o)) (.agg (opC p)) (opK o) (opK p) fa fb (op_lits o ho 6) (op_lits p hp 6)
  have hr : (Op.equalIn 10000 39 (.agg (opC o)) (.agg (opC p))).run Tryz.prog w = .ok r w := hr
  have hs : r = sameOp o p := by
    rw [Bool.eq_iff_iff, sameOp_is]
    exact hiff.trans ⟨opK_inj, fun h => by rw [h]⟩
  rw [run_eql_struct, hr, hs]
  rfl
end Go.Proofs.YtecilienolabfaaGreatDoor

/- OpenObj: What comes in, opened: operations by value and in rows. -/
namespace Go.Proofs.YtecilienolabfaaGreatDoor
set_option linter.unusedSimpArgs false
set_option linter.unusedVariables false
set_option maxRecDepth 100000
open Go.ChangeShapes Go.WideShapes Go.ChangeAt Go.RowKit

section
variable {H : Type} {enc : TypeId × Value → H} {W : World} {base : Nat} {spare : Nat → Bool} {held : Bool} {fuel : Nat} {y : DataW H × List MemPlace}

theorem co_op : Tryz.prog.cellsOf 39 = 6 := by kernel_rfl

theorem some_of' {α : Type} {l : List α} {i : Nat} {o : Option α} (h : o = l[i]?) (hi : i < l.length) : ∃ x, o = some x := ⟨l[i], by rw [h, List.getElem?_eq_getElem hi]⟩
theorem list6 {α : Type} (l : List α) (h : l.length = 6) : ∃ a b c d e f, l = [a, b, c, d, e, f] := by
  match l, h with
  | [a, b, c, d, e, f], _ => exact ⟨a, b, c, d, e, f, rfl⟩

theorem str_of (s : ByteArray) : (.string s : Value) = strV s.data.toList := by
  unfold strV mkS
  congr

theorem reads_op {cs : List Value} (h : DataW.trod enc Tryz.prog W base spare held fuel 39 cs = some y) : ∃ o : OpV, cs = opL o ∧ OpOk o := by
  obtain ⟨xs, n, _, _, hl, hxl, hf⟩ := DataW.trod_struct Tryz.underlying39 h
  rw [co_op] at hl
  have hxl : xs.length = 6 := hxl
  obtain ⟨c0, c1, c2, c3, c4, c5, rfl⟩ := list6 cs hl
  have h0 : DataW.trod enc Tryz.prog W base spare held n 5 (([c0, c1, c2, c3, c4, c5].drop 0).take (Tryz.prog.cellsOf 5)) = xs[0]? := hf 0 _ rfl
  have h1 : DataW.trod enc Tryz.prog W base spare held n 22 (([c0, c1, c2, c3, c4, c5].drop 1).take (Tryz.prog.cellsOf 22)) = xs[1]? := hf 1 _ rfl
  have h2 : DataW.trod enc Tryz.prog W base spare held n 5 (([c0, c1, c2, c3, c4, c5].drop 2).take (Tryz.prog.cellsOf 5)) = xs[2]? := hf 2 _ rfl
  have h3 : DataW.trod enc Tryz.prog W base spare held n 5 (([c0, c1, c2, c3, c4, c5].drop 3).take (Tryz.prog.cellsOf 5)) = xs[3]? := hf 3 _ rfl
  have h4 : DataW.trod enc Tryz.prog W base spare held n 5 (([c0, c1, c2, c3, c4, c5].drop 4).take (Tryz.prog.cellsOf 5)) = xs[4]? := hf 4 _ rfl
  have h5 : DataW.trod enc Tryz.prog W base spare held n 9 (([c0, c1, c2, c3, c4, c5].drop 5).take (Tryz.prog.cellsOf 9)) = xs[5]? := hf 5 _ rfl
  rw [co_u8] at h0 h2 h3 h4
  rw [co_u32] at h1
  rw [co_string] at h5
  obtain ⟨y0, e0⟩ := some_of' h0 (by omega)
  obtain ⟨y1, e1⟩ := some_of' h1 (by omega)
  obtain ⟨y2, e2⟩ := some_of' h2 (by omega)
  obtain ⟨y3, e3⟩ := some_of' h3 (by omega)
  obtain ⟨y4, e4⟩ := some_of' h4 (by omega)
  obtain ⟨y5, e5⟩ := some_of' h5 (by omega)
  obtain ⟨x0, q0, _, w0⟩ := DataW.trod_int Tryz.underlying5 e0
  obtain ⟨x1, q1, _, w1⟩ := DataW.trod_int Tryz.underlying22 e1
  obtain ⟨x2, q2, _, w2⟩ := DataW.trod_int Tryz.underlying5 e2
  obtain ⟨x3, q3, _, w3⟩ := DataW.trod_int Tryz.underlying5 e3
  obtain ⟨x4, q4, _, w4⟩ := DataW.trod_int Tryz.underlying5 e4
  obtain ⟨s, q5, _, hs⟩ := DataW.trod_string Tryz.underlying9 e5
  simp at q0 q1 q2 q3 q4 q5
  subst q0 q1 q2 q3 q4 q5
  have b0 := bounds_u8 w0
  have b1 := bounds_u32 w1
  have b2 := bounds_u8 w2
  have b3 := bounds_u8 w3
  have b4 := bounds_u8 w4
  obtain ⟨k0, rfl⟩ := Int.eq_ofNat_of_zero_le b0.1
  obtain ⟨k1, rfl⟩ := Int.eq_ofNat_of_zero_le b1.1
  obtain ⟨k2, rfl⟩ := Int.eq_ofNat_of_zero_le b2.1
  obtain ⟨k3, rfl⟩ := Int.eq_ofNat_of_zero_le b3.1
  obtain ⟨k4, rfl⟩ := Int.eq_ofNat_of_zero_le b4.1
  have hsz : s.data.toList.length ≤ 9223372036854775807 := by
    rw [Array.length_toList]
    exact hs
  exact ⟨⟨k0, k1, k2, k3, k4, s.data.toList⟩, by unfold opL; rw [← str_of], ⟨show k0 < 256 by omega, show k1 < 4294967296 by omega, show k2 < 256 by omega, show k3 < 256 by omega, show k4 < 256 by omega, hsz⟩⟩
end

theorem open_op {H : Type} {enc : TypeId × Value → H} {W : World} {base : Nat} {v : Value} {d : DataW H} {p : List MemPlace} (ok : Value.okWide Tryz.prog W .any base 39 v) (h : DataW.Trod enc Tryz.prog W 0 (fun _ => true) true 39 v d p) : ∃ o : OpV, v = .agg (opC o) ∧ OpOk o := by
  obtain ⟨cs, rfl, hsz⟩ := okWide_struct Tryz.underlying39 ok
  obtain ⟨fuel, hf⟩ := h
  obtain ⟨o, hx, hk⟩ := reads_op hf
  exact ⟨o, by rw [show cs = opC o from Array.toList_inj.1 hx], hk⟩

end Go.Proofs.YtecilienolabfaaGreatDoor

/- LandOps: The contracts of objects.IsOp and objects.Writes. -/
namespace Go.Proofs.YtecilienolabfaaGreatDoor
set_option linter.unusedSimpArgs false
set_option linter.unusedVariables false
set_option maxRecDepth 100000
open Go.RowKit

theorem op_zero : (Tryz.prog.info? 39).map (·.zero) = some (some (.agg (opC op0))) := by kernel_rfl
theorem bare_built (a b c d : Nat) : Tryz.prog.built 39 [(0, .int .u8 (a : Int)), (1, .int .u32 (b : Int)), (2, .int .u8 (c : Int)), (3, .int .u8 (d : Int))] = some (opC ⟨a, b, c, d, 0, []⟩) := by kernel_rfl

theorem wpList_build_four {P : Program} {ops : Array Oper} {rest : List Oper} {o : Oper} {a : Act} {w : World} {Q : Exit → Act → World → Prop} (hw : Region.wanted o (yielded ops a.tmps) = true) (t : TypeId) (i j k l : Nat) (x y z u : Operand) (ho : o.op = .build t #[(i, x), (j, y), (k, z), (l, u)]) (p q r s : Value) (hx : a.eval x = p) (hy : a.eval y = q) (hz : a.eval z = r) (hu : a.eval u = s) (c : Array Value) (hf : P.built t [(i, p), (j, q), (k, r), (l, s)] = some c)
    (h : wpList P ops Q rest (a.put o.dst (.agg c)) w) : wpList P ops Q (o :: rest) a w :=
  wpList_build_has hw t _ ho c (by simpa [hx, hy, hz, hu] using hf) h

theorem same_bare {cl sq kd ob p : Nat} {d : List UInt8} (q : Nat) : sameOp ⟨cl, sq, kd, ob, p, d⟩ ⟨cl, sq, kd, ob, q, []⟩ = true ↔ p = q ∧ d.length = 0 := by
  rw [sameOp_is, List.length_eq_zero_iff]
  constructor
  · intro h
    cases h
    exact ⟨rfl, rfl⟩
  · rintro ⟨rfl, rfl⟩
    rfl

set_option maxHeartbeats 8000000 in
theorem isop_any (o : OpV) (w : World) (h : OpOk o) :
    Calls Tryz.prog 117 #[.agg (opC o)] w fun e w' => e = .returned (.bool (isOpM o)) ∧ Below w.heap.size w w' := by
  obtain ⟨cl, sq, kd, ob, ps, da⟩ := o
  have hm : Hid _ := isOp_is ⟨cl, sq, kd, ob, ps, da⟩
  generalize isOpM ⟨cl, sq, kd, ob, ps, da⟩ = m at hm ⊢
  have hO := Has.new w 39 (opC ⟨cl, sq, kd, ob, ps, da⟩)
  have hb0 := (Below.refl w.heap.size w).alloc (Nat.le_refl _) (.cells (opC ⟨cl, sq, kd, ob, ps, da⟩) 39)
  obtain ⟨w0, hw0⟩ : ∃ W, w.alloc (.cells (opC ⟨cl, sq, kd, ob, ps, da⟩) 39) = W := ⟨_, rfl⟩
  have hs0 : w0.heap.size = w.heap.size + 1 := by rw [← hw0]; simp
  rw [hw0] at hO hb0
  obtain ⟨w2, hw2⟩ : ∃ W, (w0.alloc (.cells (opC op0) 39)).setRow (w.heap.size + 1) (opC ⟨cl, sq, kd, ob, 0, []⟩) = W := ⟨_, rfl⟩
  have hN : Has (w0.alloc (.cells (opC op0) 39)) (w.heap.size + 1) 39 (opC op0) := hs0 ▸ Has.new w0 39 (opC op0)
  have hB2 : Has w2 (w.heap.size + 1) 39 (opC ⟨cl, sq, kd, ob, 0, []⟩) := hw2 ▸ hN.row _
  have hO2 : Has w2 w.heap.size 39 (opC ⟨cl, sq, kd, ob, ps, da⟩) := hw2 ▸ (hO.alloc _).row_other (by omega) _
  have hb2 : Below w.heap.size w w2 := hw2 ▸ below_setRow (hb0.alloc (by omega) _) (by omega) _
  obtain ⟨w3, hw3⟩ : ∃ W, w2.setCell ⟨w.heap.size + 1, 4, none⟩ (.int .u8 (ps : Int)) = W := ⟨_, rfl⟩
  have hB3 : Has w3 (w.heap.size + 1) 39 (opC ⟨cl, sq, kd, ob, ps, []⟩) := hw3 ▸ hB2.set 4 (.int .u8 (ps : Int))
  have hO3 : Has w3 w.heap.size 39 (opC ⟨cl, sq, kd, ob, ps, da⟩) := hw3 ▸ hO2.set_other (a := ⟨w.heap.size + 1, 4, none⟩) (show w.heap.size ≠ w.heap.size + 1 by omega) _
  have hb3 : Below w.heap.size w w3 := hw3 ▸ hb2.setCell (show w.heap.size ≤ (⟨w.heap.size + 1, 4, none⟩ : Addr).block by show _ ≤ w.heap.size + 1; omega) _
  have k1 : OpOk ⟨cl, sq, kd, ob, 0, []⟩ := ⟨h.client, h.seq, h.kind, h.obj, by show 0 < 256; decide, by show 0 ≤ _; decide⟩
  have k2 : OpOk ⟨cl, sq, kd, ob, ps, []⟩ := ⟨h.client, h.seq, h.kind, h.obj, h.pos, by show 0 ≤ _; decide⟩
  have e1 := eq_op _ _ h k1
  have e2 := eq_op _ _ h k2
  have q1 : Hid _ := same_bare (cl := cl) (sq := sq) (kd := kd) (ob := ob) (p := ps) (d := da) 0
  have q2 : Hid _ := same_bare (cl := cl) (sq := sq) (kd := kd) (ob := ob) (p := ps) (d := da) ps
  obtain ⟨h1, h2, h3, h4, h5, h6⟩ := h
  simp only at h1 h2 h3 h4 h5 h6
  generalize sameOp ⟨cl, sq, kd, ob, ps, da⟩ ⟨cl, sq, kd, ob, 0, []⟩ = s1 at *
  generalize sameOp ⟨cl, sq, kd, ob, ps, da⟩ ⟨cl, sq, kd, ob, ps, []⟩ = s2 at *
  have hs := mkS_size da
  have hd0 : Hid (da = [] ↔ da.length = 0) := List.length_eq_zero_iff.symm
  have c0 : w0.cell? ⟨w.heap.size, 0, none⟩ = some (.int .u8 (cl : Int)) := (hO.cell 0).trans rfl
  have c1 : w0.cell? ⟨w.heap.size, 1, none⟩ = some (.int .u32 (sq : Int)) := (hO.cell 1).trans rfl
  have c2 : w0.cell? ⟨w.heap.size, 2, none⟩ = some (.int .u8 (kd : Int)) := (hO.cell 2).trans rfl
  have c3 : w0.cell? ⟨w.heap.size, 3, none⟩ = some (.int .u8 (ob : Int)) := (hO.cell 3).trans rfl
  have d2 : w2.cell? ⟨w.heap.size, 2, none⟩ = some (.int .u8 (kd : Int)) := (hO2.cell 2).trans rfl
  have d4 : w2.cell? ⟨w.heap.size, 4, none⟩ = some (.int .u8 (ps : Int)) := (hO2.cell 4).trans rfl
  have d5 : w2.cell? ⟨w.heap.size, 5, none⟩ = some (.string (mkS da)) := (hO2.cell 5).trans rfl
  have x4 : w2.cell? ⟨w.heap.size + 1, 4, none⟩ = some (.int .u8 0) := (hB2.cell 4).trans rfl
  have x4f := hB2.free 4
  go_enter Tryz.func117, Tryz.ntmps117
  go_wp2_with (first
    | (refine wpList_build_four (by rfl) 39 0 1 2 3 _ _ _ _ rfl (.int .u8 (cl : Int)) (.int .u32 (sq : Int)) (.int .u8 (kd : Int)) (.int .u8 (ob : Int)) rfl rfl rfl rfl (opC ⟨cl, sq, kd, ob, 0, []⟩) (bare_built cl sq kd ob) ?_)
    | (refine wpList_alloc_has (by rfl) 39 rfl (opC op0) op_zero ?_; rw [hs0])
    | (refine wpList_store_to (by rfl) 39 _ _ rfl (w.heap.size + 1) rfl (opC ⟨cl, sq, kd, ob, 0, []⟩) rfl 39 (opC op0) (op_size ⟨cl, sq, kd, ob, 0, []⟩) rfl (op_one ⟨cl, sq, kd, ob, 0, []⟩) ?hg w2 ?hW ?_; (case hg => exact hN); (case hW => exact hw2))
    | (refine wpList_load_has (by rfl) 39 _ rfl w.heap.size rfl 39 (opC ⟨cl, sq, kd, ob, ps, da⟩) _ Tryz.underlying39 rfl (op_size _) ?hg ?_; (case hg => first | exact hO2 | exact hO3))
    | (refine wpList_load_has (by rfl) 39 _ rfl (w.heap.size + 1) rfl 39 (opC ⟨cl, sq, kd, ob, 0, []⟩) _ Tryz.underlying39 rfl (op_size _) ?hg ?_; (case hg => exact hB2))
    | (refine wpList_load_has (by rfl) 39 _ rfl (w.heap.size + 1) rfl 39 (opC ⟨cl, sq, kd, ob, ps, []⟩) _ Tryz.underlying39 rfl (op_size _) ?hg ?_; (case hg => exact hB3))
    | (refine wpList_bin_agg (by rfl) .eql 39 _ _ _ rfl (opC ⟨cl, sq, kd, ob, ps, da⟩) (opC ⟨cl, sq, kd, ob, 0, []⟩) rfl rfl (.bool s1) guard_op ?hg ?_; (case hg => exact e1 _))
    | (refine wpList_bin_agg (by rfl) .eql 39 _ _ _ rfl (opC ⟨cl, sq, kd, ob, ps, da⟩) (opC ⟨cl, sq, kd, ob, ps, []⟩) rfl rfl (.bool s2) guard_op ?hg ?_; (case hg => exact e2 _)))
  all_goals
    go_ret
    refine ⟨retB ?_, by first | exact hb0 | exact hb2 | exact hb3⟩
    replace hm := hm.out
    replace q1 := q1.out
    replace q2 := q2.out
    rw [hd0.out] at hm
    rw [Bool.eq_iff_iff, hm]
    try rw [q1]
    try rw [q2]
    clear q1 q2 hd0
    generalize da.length = n at *
    simp only [bne_iff_ne, bne_eq_false_iff_eq, beq_iff_eq, beq_eq_false_iff_ne, ne_eq, Bool.not_eq_true', Bool.not_eq_false', decide_eq_true_iff, decide_eq_false_iff_not, Bool.false_eq_true, true_and] at *
    try simp
    omega

set_option maxHeartbeats 1000000 in
theorem writes_any (o : OpV) (w : World) (h : OpOk o) :
    Calls Tryz.prog 116 #[.agg (opC o)] w fun e w' => e = .returned (.bool (writesM o)) ∧ Below w.heap.size w w' := by
  have hO := Has.new w 39 (opC o)
  have hb0 := (Below.refl w.heap.size w).alloc (Nat.le_refl _) (.cells (opC o) 39)
  have hm := writes_is o
  have hk := h.kind
  go_enter Tryz.func116, Tryz.ntmps116
  go_wp2_with (first
    | (refine wpList_load_has (by rfl) 39 _ rfl w.heap.size rfl 39 (opC o) _ Tryz.underlying39 rfl (op_size o) ?hg ?_; (case hg => exact hO)))
  refine (isop_any o _ h).mono ?_
  rintro e w1 ⟨rfl, hq⟩
  replace hO := hO.later hq
  replace hb0 := hb0.trans (hq.mono hb0.size)
  have c2 : w1.cell? ⟨w.heap.size, 2, none⟩ = some (.int .u8 (o.kind : Int)) := (hO.cell 2).trans rfl
  clear hq hO
  cases hi : isOpM o with
  | false =>
    have hr : writesM o = false := by unfold writesM; rw [hi]; rfl
    go_wp2
    go_ret
    exact ⟨by rw [hr]; rfl, hb0⟩
  | true =>
    have hm' : Hid _ := hm
    clear hm
    go_wp2
    go_ret
    refine ⟨retB ?_, hb0⟩
    rw [Bool.eq_iff_iff, hm'.out]
    simp [hi]
    omega
end Go.Proofs.YtecilienolabfaaGreatDoor
