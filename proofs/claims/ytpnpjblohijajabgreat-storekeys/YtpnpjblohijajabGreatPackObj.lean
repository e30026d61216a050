/- Several texts in one, in build order: ObjMath. -/
import Derived.Below
import Derived.OwnWalk
import Derived.Laws.Concat
import Derived.Laws.Slices
import Derived.Laws.Strings

/- ObjMath: Objects, operations, bases, as mathematics, and the cells that they are. Nothing of the program is in it. -/
namespace Go.Proofs.YtpnpjblohijajabGreat
set_option linter.unusedSimpArgs false
set_option linter.unusedVariables false

/-- A string by its bytes. -/
def mkS (l : List UInt8) : ByteArray := ⟨l.toArray⟩
def strV (l : List UInt8) : Value := .string (mkS l)

theorem mkS_size (l : List UInt8) : (mkS l).size = l.length := by
  show l.toArray.size = _
  simp
theorem mkS_isEmpty (l : List UInt8) : (mkS l).toList.isEmpty = decide (l.length = 0) := by
  rw [ByteArray.toList_eq]
  cases l with
  | nil => rfl
  | cons x xs => rfl
theorem mkS_append (a b : List UInt8) : mkS a ++ mkS b = mkS (a ++ b) := ByteArray.mk_append_mk a b
theorem mkS_take (l : List UInt8) (n : Nat) (h : n ≤ l.length) : (mkS l).extract 0 n = mkS (l.take n) := by
  apply ByteArray.ext
  unfold mkS
  simp [ByteArray.data_extract, List.extract_toArray]
theorem mkS_drop (l : List UInt8) (n : Nat) (h : n ≤ l.length) : (mkS l).extract n l.length = mkS (l.drop n) := by
  apply ByteArray.ext
  unfold mkS
  simp [ByteArray.data_extract, List.extract_toArray]
  exact List.take_of_length_le (by rw [List.length_drop]; omega)

section
variable {P : Program} (w : World)
theorem addS (a b : List UInt8) (h : a.length + b.length ≤ 1000000) : (Op.stringOp .add (mkS a) (mkS b)).run P w = .ok (.string (mkS (a ++ b))) w := by
  rw [run_string_add_sum w (mkS a) (mkS b) (by rw [mkS_size, mkS_size]; omega), mkS_append]
theorem headS (t : TypeId) (ht : P.underlying t = some .string) (l : List UInt8) (n : Nat) (h : n ≤ l.length) : (Instr.slice t (.string (mkS l)) none (some (.int .i64 (n : Int))) none).run P w = .ok (.string (mkS (l.take n))) w := by
  rw [run_slice_string_h w t (mkS l) ht .i64 (n : Int) (by omega) (by rw [mkS_size]; omega)]
  rw [Int.toNat_natCast, mkS_take l n h]
theorem tailS (t : TypeId) (ht : P.underlying t = some .string) (l : List UInt8) (k : Int) (n : Nat) (hk : k = (n : Int)) (h : n ≤ l.length) : (Instr.slice t (.string (mkS l)) (some (.int .i64 k)) none none).run P w = .ok (.string (mkS (l.drop n))) w := by
  subst hk
  rw [run_slice_string_l w t (mkS l) ht .i64 (n : Int) (by omega) (by rw [mkS_size]; omega)]
  rw [Int.toNat_natCast, mkS_size, mkS_drop l n h]
end
theorem mkS_inj {a b : List UInt8} (h : mkS a = mkS b) : a = b := by
  have := congrArg ByteArray.data h
  simpa [mkS] using this

structure ResV where
  code : Nat
  data : List UInt8

structure LastV where
  seq : Nat
  r : ResV

structure ObjV where
  there : Bool
  data : List UInt8
  a0 : List UInt8
  a1 : List UInt8
  a2 : List UInt8

structure BaseV where
  obj : Fin 6 → ObjV
  last : Fin 3 → LastV

structure OpV where
  client : Nat
  seq : Nat
  kind : Nat
  obj : Nat
  pos : Nat
  data : List UInt8

def resL (r : ResV) : List Value := [.int .u8 (r.code : Int), strV r.data]
def lastL (l : LastV) : List Value := .int .u32 (l.seq : Int) :: resL l.r
def objL (x : ObjV) : List Value := [.bool x.there, strV x.data, strV x.a0, strV x.a1, strV x.a2]
def opL (o : OpV) : List Value := [.int .u8 (o.client : Int), .int .u32 (o.seq : Int), .int .u8 (o.kind : Int), .int .u8 (o.obj : Int), .int .u8 (o.pos : Int), strV o.data]
def objsL (f : Fin 6 → ObjV) : List Value := objL (f 0) ++ (objL (f 1) ++ (objL (f 2) ++ (objL (f 3) ++ (objL (f 4) ++ objL (f 5)))))
def lastsL (f : Fin 3 → LastV) : List Value := lastL (f 0) ++ (lastL (f 1) ++ lastL (f 2))
def baseL (b : BaseV) : List Value := objsL b.obj ++ lastsL b.last
def resC (r : ResV) : Array Value := (resL r).toArray
def lastC (l : LastV) : Array Value := (lastL l).toArray
def objC (x : ObjV) : Array Value := (objL x).toArray
def opC (o : OpV) : Array Value := (opL o).toArray
def baseC (b : BaseV) : Array Value := (baseL b).toArray

def res0 : ResV := ⟨0, []⟩
def last0 : LastV := ⟨0, res0⟩
def obj0 : ObjV := ⟨false, [], [], [], []⟩
def base0 : BaseV := ⟨fun _ => obj0, fun _ => last0⟩
def op0 : OpV := ⟨0, 0, 0, 0, 0, []⟩

structure ResOk (r : ResV) : Prop where
  code : r.code < 256
  data : r.data.length ≤ 1000000000000
structure LastOk (l : LastV) : Prop where
  seq : l.seq < 4294967296
  r : ResOk l.r

/-- An attribute by its key. -/
def ObjV.attr (x : ObjV) (k : Nat) : List UInt8 := if k = 0 then x.a0 else if k = 1 then x.a1 else x.a2
def ObjV.setAttr (x : ObjV) (k : Nat) (v : List UInt8) : ObjV := if k = 0 then { x with a0 := v } else if k = 1 then { x with a1 := v } else { x with a2 := v }

def BaseV.setObj (b : BaseV) (i : Fin 6) (x : ObjV) : BaseV := { b with obj := fun j => if j = i then x else b.obj j }
def BaseV.setLast (b : BaseV) (i : Fin 3) (l : LastV) : BaseV := { b with last := fun j => if j = i then l else b.last j }

/-- P6.1. -/
def isOpM (o : OpV) : Bool :=
  decide (1 ≤ o.client ∧ o.client ≤ 3 ∧ 1 ≤ o.seq ∧ 1 ≤ o.kind ∧ o.kind ≤ 5 ∧ o.obj < 6 ∧ o.data.length ≤ 16 ∧ (o.kind = 1 ∨ o.kind = 3 ∨ o.data = []) ∧ (o.kind = 4 ∨ o.kind = 5 → o.pos = 0))
def writesM (o : OpV) : Bool := isOpM o && decide (o.kind ≠ 5)

theorem isOp_is (o : OpV) : isOpM o = true ↔ (1 ≤ o.client ∧ o.client ≤ 3 ∧ 1 ≤ o.seq ∧ 1 ≤ o.kind ∧ o.kind ≤ 5 ∧ o.obj < 6 ∧ o.data.length ≤ 16 ∧ (o.kind = 1 ∨ o.kind = 3 ∨ o.data = []) ∧ (o.kind = 4 ∨ o.kind = 5 → o.pos = 0)) := by
  unfold isOpM
  rw [decide_eq_true_iff]
theorem writes_is (o : OpV) : writesM o = true ↔ isOpM o = true ∧ o.kind ≠ 5 := by
  unfold writesM
  rw [Bool.and_eq_true, decide_eq_true_iff]

/-- The last one of an operation's client. -/
def lastOf (b : BaseV) (o : OpV) : LastV := if h : o.client - 1 < 3 then b.last ⟨o.client - 1, h⟩ else last0
def objOf (b : BaseV) (o : OpV) : ObjV := if h : o.obj < 6 then b.obj ⟨o.obj, h⟩ else obj0
def putObj (b : BaseV) (o : OpV) (x : ObjV) : BaseV := if h : o.obj < 6 then b.setObj ⟨o.obj, h⟩ x else b
def putLast (b : BaseV) (o : OpV) (l : LastV) : BaseV := if h : o.client - 1 < 3 then b.setLast ⟨o.client - 1, h⟩ l else b

/-- P6.2. -/
def seenM (b : BaseV) (o : OpV) : ResV × Bool :=
  if writesM o = true then (if (lastOf b o).seq < o.seq then (res0, false) else if (lastOf b o).seq = o.seq then ((lastOf b o).r, true) else (⟨3, []⟩, true)) else (res0, false)

/-- n bytes: of a string what it has of them, noughts behind it. -/
def fitS (n : Nat) (d : List UInt8) : List UInt8 := d.take n ++ List.replicate (n - d.length) 0
/-- Written at a place. -/
def writeS (d : List UInt8) (n : Nat) (s : List UInt8) : List UInt8 := fitS n d ++ s ++ d.drop (n + s.length)

theorem writeS_short {d s : List UInt8} {p : Nat} (h : d.length < p) : writeS d p s = (d ++ List.replicate (p - d.length) 0).take p ++ s ++ [] := by
  unfold writeS fitS
  rw [List.take_of_length_le (show d.length ≤ p by omega), List.drop_of_length_le (show d.length ≤ p + s.length by omega), List.take_of_length_le (by rw [List.length_append, List.length_replicate]; omega)]
theorem writeS_long {d s : List UInt8} {p : Nat} (h : p ≤ d.length) : writeS d p s = d.take p ++ s ++ d.drop (p + s.length) := by
  unfold writeS fitS
  rw [show p - d.length = 0 by omega]
  simp
theorem fitS_short {d : List UInt8} {p : Nat} (h : d.length < p) : fitS p d = (d ++ List.replicate (p - d.length) 0).take p := by
  unfold fitS
  rw [List.take_of_length_le (show d.length ≤ p by omega), List.take_of_length_le (by rw [List.length_append, List.length_replicate]; omega)]
theorem fitS_long {d : List UInt8} {p : Nat} (h : p ≤ d.length) : fitS p d = d.take p := by
  unfold fitS
  rw [show p - d.length = 0 by omega]
  simp

def changeM (x : ObjV) (o : OpV) : ObjV × Nat :=
  if o.kind = 1 then (if 16 < o.pos + o.data.length then (x, 2) else ({ x with there := true, data := writeS x.data o.pos o.data }, 0))
  else if o.kind = 2 then (if x.there = false then (x, 1) else if 16 < o.pos then (x, 2) else ({ x with data := fitS o.pos x.data }, 0))
  else if o.kind = 3 then (if 3 ≤ o.pos then (x, 3) else if x.there = false then (x, 1) else (x.setAttr o.pos o.data, 0))
  else (if x.there = false then (x, 1) else (obj0, 0))

def doM (b : BaseV) (o : OpV) : BaseV × ResV :=
  if writesM o = true then
    (if (seenM b o).2 = true then (b, (seenM b o).1)
     else (putLast (putObj b o (changeM (objOf b o) o).1) o ⟨o.seq, ⟨(changeM (objOf b o) o).2, []⟩⟩, ⟨(changeM (objOf b o) o).2, []⟩))
  else (b, ⟨3, []⟩)

/-- P6.3. -/
def attrS (k : Nat) (v : List UInt8) : List UInt8 := if v = [] then [] else 59 :: (UInt8.ofNat (48 + k)) :: 61 :: v
def readM (b : BaseV) (o : OpV) : ResV :=
  if isOpM o = true ∧ o.kind = 5 then
    (if (objOf b o).there = true then ⟨0, (objOf b o).data ++ attrS 0 (objOf b o).a0 ++ attrS 1 (objOf b o).a1 ++ attrS 2 (objOf b o).a2⟩ else ⟨1, []⟩)
  else ⟨3, []⟩

def allM (b : BaseV) (l : List OpV) : BaseV × List ResV := l.foldl (fun p o => ((doM p.1 o).1, p.2 ++ [(doM p.1 o).2])) (b, [])
end Go.Proofs.YtpnpjblohijajabGreat
