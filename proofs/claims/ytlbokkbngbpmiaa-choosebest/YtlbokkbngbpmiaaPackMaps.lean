/- Several texts in one, in build order: MapMath, MapMem, Folds, Ints, OpenMap, EqMap, Held, EqMore, IsMaps, RefFirst, MapsFirst, Those, FoldMath, MapsApply. -/
import Derived.Test.YtlbokkbngbpmiaaPackTools
import Derived.Test.YtlbokkbngbpmiaaChecked
import Derived.WalkKit
import Derived.WalkSpells
import Derived.WalkLawsBesides
import Derived.Deep.QuietTactic
import Derived.BigQuiet
import Derived.Carry
import Derived.OpenShut
import Derived.ProofKit
import Derived.Lib.SmallJoins
import Derived.DeepKeys

/- MapMath: Maps and increments as mathematics, and as rows of cells. -/
namespace Go.Proofs.Ytlbokkbngbpmiaa
set_option linter.unusedSimpArgs false
set_option linter.unusedVariables false
open Go.RowKit

/-- A daemon as a map has it. -/
structure OsdV where
  up : Bool
  wt : Int
  host : Nat

/-- A map. -/
structure MapV where
  epoch : Nat
  osd : Fin 5 → OsdV

/-- An increment. -/
structure IncV where
  kind : Nat
  osd : Nat
  n : Int

def osdL (o : OsdV) : List Value := [.bool o.up, .int .i64 o.wt, .int .u8 o.host]

def mapL (m : MapV) : List Value := .int .u32 m.epoch :: (osdL (m.osd 0) ++ (osdL (m.osd 1) ++ (osdL (m.osd 2) ++ (osdL (m.osd 3) ++ osdL (m.osd 4)))))

def osdC (o : OsdV) : Array Value := (osdL o).toArray

def mapC (m : MapV) : Array Value := (mapL m).toArray

def incC (x : IncV) : Array Value := #[.int .u8 x.kind, .int .u8 x.osd, .int .i64 x.n]

theorem mapL_length (m : MapV) : (mapL m).length = 16 := rfl

theorem mapC_size (m : MapV) : (mapC m).size = 16 := by
  unfold mapC
  rw [List.size_toArray, mapL_length]

/-- The numbers of a map fit their kinds. -/
structure MapOk (m : MapV) : Prop where
  epoch : m.epoch < 4294967296
  wt : ∀ i, -9223372036854775808 ≤ (m.osd i).wt ∧ (m.osd i).wt ≤ 9223372036854775807
  host : ∀ i, (m.osd i).host < 256

structure IncOk (x : IncV) : Prop where
  kind : x.kind < 256
  osd : x.osd < 256
  lo : -9223372036854775808 ≤ x.n
  hi : x.n ≤ 9223372036854775807

theorem mapC_epoch (m : MapV) : (mapC m)[0]? = some (.int .u32 m.epoch) := by
  unfold mapC
  rw [List.getElem?_toArray]
  rfl

theorem mapC_wt (m : MapV) (i : Fin 5) : (mapC m)[1 + i.val * 3 + 1]? = some (.int .i64 (m.osd i).wt) := by
  unfold mapC
  rw [List.getElem?_toArray]
  match i with
  | 0 => rfl
  | 1 => rfl
  | 2 => rfl
  | 3 => rfl
  | 4 => rfl

theorem mapC_up (m : MapV) (i : Fin 5) : (mapC m)[1 + i.val * 3]? = some (.bool (m.osd i).up) := by
  unfold mapC
  rw [List.getElem?_toArray]
  match i with
  | 0 => rfl
  | 1 => rfl
  | 2 => rfl
  | 3 => rfl
  | 4 => rfl

theorem mapC_host (m : MapV) (i : Fin 5) : (mapC m)[1 + i.val * 3 + 2]? = some (.int .u8 (m.osd i).host) := by
  unfold mapC
  rw [List.getElem?_toArray]
  match i with
  | 0 => rfl
  | 1 => rfl
  | 2 => rfl
  | 3 => rfl
  | 4 => rfl

theorem inc_cells {w : World} {g : Nat} {t : TypeId} {k o : Nat} {n : Int} (h : Has w g t (incC ⟨k, o, n⟩)) :
    w.cell? ⟨g, 0, none⟩ = some (.int .u8 k) ∧ w.cell? ⟨g, 1, none⟩ = some (.int .u8 o) ∧ w.cell? ⟨g, 2, none⟩ = some (.int .i64 n) := ⟨h.cell 0, h.cell 1, h.cell 2⟩

theorem mapC_one (m : MapV) : (mapC m).all (·.oneCell') = true := by
  unfold mapC mapL osdL
  simp [Value.oneCell']

def zeroM : MapV := ⟨0, fun _ => ⟨false, 0, 0⟩⟩

/-- A map with another daemon at a place. -/
def MapV.put (m : MapV) (i : Fin 5) (o : OsdV) : MapV := { m with osd := fun j => if j = i then o else m.osd j }

theorem mapC_setEpoch (m : MapV) (e : Nat) : (mapC m).setIfInBounds 0 (.int .u32 e) = mapC { m with epoch := e } := by
  unfold mapC
  rw [List.setIfInBounds_toArray]
  rfl

theorem mapC_setUp (m : MapV) (i : Fin 5) (u : Bool) : (mapC m).setIfInBounds (1 + i.val * 3) (.bool u) = mapC (m.put i { m.osd i with up := u }) := by
  unfold mapC
  rw [List.setIfInBounds_toArray]
  match i with
  | 0 => rfl
  | 1 => rfl
  | 2 => rfl
  | 3 => rfl
  | 4 => rfl

theorem mapC_setWt (m : MapV) (i : Fin 5) (n : Int) : (mapC m).setIfInBounds (1 + i.val * 3 + 1) (.int .i64 n) = mapC (m.put i { m.osd i with wt := n }) := by
  unfold mapC
  rw [List.setIfInBounds_toArray]
  match i with
  | 0 => rfl
  | 1 => rfl
  | 2 => rfl
  | 3 => rfl
  | 4 => rfl

theorem mapC_setHost (m : MapV) (i : Fin 5) (n : Nat) : (mapC m).setIfInBounds (1 + i.val * 3 + 2) (.int .u8 n) = mapC (m.put i { m.osd i with host := n }) := by
  unfold mapC
  rw [List.setIfInBounds_toArray]
  match i with
  | 0 => rfl
  | 1 => rfl
  | 2 => rfl
  | 3 => rfl
  | 4 => rfl

theorem MapV.put_put (m : MapV) (i : Fin 5) (o o' : OsdV) : (m.put i o).put i o' = m.put i o' := by
  unfold MapV.put
  congr 1
  funext j
  by_cases h : j = i <;> simp [h]

theorem MapV.put_at (m : MapV) (i : Fin 5) (o : OsdV) : (m.put i o).osd i = o := by simp [MapV.put]

/-- The document's Is. -/
def osdOk (o : OsdV) : Bool := decide (0 ≤ o.wt ∧ o.wt ≤ 16 ∧ o.host < 8)
def isM (m : MapV) : Bool := decide (1 ≤ m.epoch ∧ m.epoch ≤ 60) && (osdOk (m.osd 0) && osdOk (m.osd 1) && osdOk (m.osd 2) && osdOk (m.osd 3) && osdOk (m.osd 4))

/-- The document's IsInc. -/
def isInc (x : IncV) : Bool := decide (((x.kind = 1 ∨ x.kind = 2) ∧ x.osd < 5 ∧ x.n = 0) ∨ (x.kind = 3 ∧ x.osd < 5 ∧ 0 ≤ x.n ∧ x.n ≤ 16) ∨ (x.kind = 4 ∧ x.osd = 0 ∧ x.n = 0))

theorem isInc_of (k o : Nat) (n : Int) : isInc ⟨k, o, n⟩ = decide (((k = 1 ∨ k = 2) ∧ o < 5 ∧ n = 0) ∨ (k = 3 ∧ o < 5 ∧ 0 ≤ n ∧ n ≤ 16) ∨ (k = 4 ∧ o = 0 ∧ n = 0)) := rfl

/-- Whether Apply tells a map. -/
def okA (m : MapV) (x : IncV) : Bool := isM m && isInc x && decide (m.epoch < 60)

/-- What an increment makes of a daemon. -/
def turn (x : IncV) (o : OsdV) : OsdV := if x.kind = 1 then { o with up := true } else if x.kind = 2 then { o with up := false } else if x.kind = 3 then { o with wt := x.n } else o

/-- The next map. -/
def nextM (m : MapV) (x : IncV) : MapV := ⟨m.epoch + 1, fun j => if j.val = x.osd then turn x (m.osd j) else m.osd j⟩

theorem next_at (m : MapV) (x : IncV) (i : Fin 5) (h : x.osd = i.val) : nextM m x = MapV.put { m with epoch := m.epoch + 1 } i (turn x (m.osd i)) := by
  unfold nextM MapV.put
  congr 1
  funext j
  by_cases e : j = i
  · subst e
    simp [h]
  · have : ¬ j.val = x.osd := fun h' => e (Fin.ext (by omega))
    simp [this, e]

theorem next_none (m : MapV) (x : IncV) (h : x.kind = 4) : nextM m x = { m with epoch := m.epoch + 1 } := by
  unfold nextM turn
  congr 1
  funext j
  simp [h]

theorem turn_ok {x : IncV} {o : OsdV} (hx : IncOk x) (h : (-9223372036854775808 ≤ o.wt ∧ o.wt ≤ 9223372036854775807) ∧ o.host < 256) :
    (-9223372036854775808 ≤ (turn x o).wt ∧ (turn x o).wt ≤ 9223372036854775807) ∧ (turn x o).host < 256 := by
  unfold turn
  split
  · exact h
  · split
    · exact h
    · split
      · exact ⟨⟨hx.lo, hx.hi⟩, h.2⟩
      · exact h

theorem next_ok {m : MapV} {x : IncV} (hm : MapOk m) (hx : IncOk x) (he : m.epoch < 60) : MapOk (nextM m x) := by
  refine ⟨show m.epoch + 1 < 4294967296 by omega, fun i => ?_, fun i => ?_⟩
  · show _ ≤ (if i.val = x.osd then turn x (m.osd i) else m.osd i).wt ∧ (if i.val = x.osd then turn x (m.osd i) else m.osd i).wt ≤ _
    split
    · exact (turn_ok hx ⟨hm.wt i, hm.host i⟩).1
    · exact hm.wt i
  · show (if i.val = x.osd then turn x (m.osd i) else m.osd i).host < 256
    split
    · exact (turn_ok hx ⟨hm.wt i, hm.host i⟩).2
    · exact hm.host i

/-- The document's Apply. -/
def applyM (m : MapV) (x : IncV) : MapV := if okA m x then nextM m x else zeroM

/-- The document's First. -/
def firstM : MapV := ⟨1, fun i => ⟨true, 8, i.val % 4⟩⟩

theorem ret_bool {a b : Bool} (h : a = b) : Ending.returned (.bool a) = .returned (.bool b) := by rw [h]

theorem osdOk_is (o : OsdV) : osdOk o = true ↔ (0 ≤ o.wt ∧ o.wt ≤ 16 ∧ o.host < 8) := by
  unfold osdOk
  exact decide_eq_true_iff

theorem isM_bad {m : MapV} {i : Fin 5} (h : osdOk (m.osd i) = false) : isM m = false := by
  unfold isM
  match i, h with
  | 0, h => rw [h]; simp
  | 1, h => rw [h]; simp
  | 2, h => rw [h]; simp
  | 3, h => rw [h]; simp
  | 4, h => rw [h]; simp

theorem isM_good {m : MapV} (h : ∀ j : Fin 5, osdOk (m.osd j) = true) : isM m = decide (1 ≤ m.epoch ∧ m.epoch ≤ 60) := by
  unfold isM
  rw [h 0, h 1, h 2, h 3, h 4]
  simp
end Go.Proofs.Ytlbokkbngbpmiaa

/- MapMem: Maps and increments in variables: the laws of Mem at this seat's types. -/
namespace Go.Proofs.Ytlbokkbngbpmiaa
set_option linter.unusedSimpArgs false
set_option linter.unusedVariables false
open Go.RowKit

theorem map_size (m : MapV) : (Try.prog.info? 106).map (·.size) = some (mapC m).size := by
  rw [mapC_size]
  kernel_rfl
theorem map_zero : (Try.prog.info? 106).map (·.zero) = some (some (.agg (mapC zeroM))) := by kernel_rfl
theorem map_built : Try.prog.built 106 [] = some (mapC zeroM) := by kernel_rfl
theorem inc_size (x : IncV) : (Try.prog.info? 73).map (·.size) = some (incC x).size := by
  show _ = some 3
  kernel_rfl

theorem inc_zero : (Try.prog.info? 73).map (·.zero) = some (some (.agg (incC ⟨0, 0, 0⟩))) := by kernel_rfl
theorem inc_one (x : IncV) : (incC x).all (·.oneCell') = true := by
  unfold incC
  simp [Value.oneCell']

section laws
variable {ops : Array Oper} {rest : List Oper} {o : Oper} {a : Act} {w : World} {Q : Exit → Act → World → Prop}

theorem load_map (m : MapV) (hw : Region.wanted o (yielded ops a.tmps) = true) (x : Operand) (ho : o.op = .load 106 x) (g : Nat) (hx : a.eval x = .pointer (some ⟨g, 0, none⟩))
    (hg : Has w g 106 (mapC m)) (h : wpList Try.prog ops Q rest (a.put o.dst (.agg (mapC m))) w) : wpList Try.prog ops Q (o :: rest) a w :=
  wpList_load_has hw 106 x ho g hx 106 (mapC m) _ Try.underlying106 rfl (map_size m) hg h

theorem store_map (m old : MapV) (hw : Region.wanted o (yielded ops a.tmps) = true) (x y : Operand) (ho : o.op = .store 106 x y) (g : Nat) (hx : a.eval x = .pointer (some ⟨g, 0, none⟩)) (hy : a.eval y = .agg (mapC m))
    (hg : Has w g 106 (mapC old)) (h : wpList Try.prog ops Q rest (a.put o.dst undef) (w.setRow g (mapC m))) : wpList Try.prog ops Q (o :: rest) a w :=
  wpList_store_has hw 106 x y ho g hx (mapC m) hy 106 (mapC old) (map_size m) (by rw [mapC_size, mapC_size]) (mapC_one m) hg h

theorem alloc_map (hw : Region.wanted o (yielded ops a.tmps) = true) (ho : o.op = .alloc 106)
    (h : wpList Try.prog ops Q rest (a.put o.dst (.pointer (some ⟨w.heap.size, 0, none⟩))) (w.alloc (.cells (mapC zeroM) 106))) : wpList Try.prog ops Q (o :: rest) a w :=
  wpList_alloc_has hw 106 ho (mapC zeroM) map_zero h

theorem build_map0 (hw : Region.wanted o (yielded ops a.tmps) = true) (ho : o.op = .build 106 #[])
    (h : wpList Try.prog ops Q rest (a.put o.dst (.agg (mapC zeroM))) w) : wpList Try.prog ops Q (o :: rest) a w :=
  wpList_build_has hw 106 #[] ho (mapC zeroM) (by simpa using map_built) h

theorem load_inc (y : IncV) (hw : Region.wanted o (yielded ops a.tmps) = true) (x : Operand) (ho : o.op = .load 73 x) (g : Nat) (hx : a.eval x = .pointer (some ⟨g, 0, none⟩))
    (hg : Has w g 73 (incC y)) (h : wpList Try.prog ops Q rest (a.put o.dst (.agg (incC y))) w) : wpList Try.prog ops Q (o :: rest) a w :=
  wpList_load_has hw 73 x ho g hx 73 (incC y) _ Try.underlying73 rfl (inc_size y) hg h

theorem store_inc (y old : IncV) (hw : Region.wanted o (yielded ops a.tmps) = true) (x z : Operand) (ho : o.op = .store 73 x z) (g : Nat) (hx : a.eval x = .pointer (some ⟨g, 0, none⟩)) (hy : a.eval z = .agg (incC y))
    (hg : Has w g 73 (incC old)) (h : wpList Try.prog ops Q rest (a.put o.dst undef) (w.setRow g (incC y))) : wpList Try.prog ops Q (o :: rest) a w :=
  wpList_store_has hw 73 x z ho g hx (incC y) hy 73 (incC old) (inc_size y) rfl (inc_one y) hg h

theorem alloc_inc (hw : Region.wanted o (yielded ops a.tmps) = true) (ho : o.op = .alloc 73)
    (h : wpList Try.prog ops Q rest (a.put o.dst (.pointer (some ⟨w.heap.size, 0, none⟩))) (w.alloc (.cells (incC ⟨0, 0, 0⟩) 73))) : wpList Try.prog ops Q (o :: rest) a w :=
  wpList_alloc_has hw 73 ho (incC ⟨0, 0, 0⟩) inc_zero h

theorem ret_map_tmp (m : MapV) {fn : Func} {R : Ending → World → Prop} {p u : Tmp} (h : fn.results = #[.cell p 106, .tmp u]) (g : Nat) (hp : a.tmps.getD p undef = .pointer (some ⟨g, 0, none⟩))
    (hg : Has w g 106 (mapC m)) (hdf : a.defers = []) (hR : R (.returned (.tuple #[.agg (mapC m), a.tmps.getD u undef])) w) : bodyPost Try.prog fn R .ret a w :=
  ret_has_tmp h g hp 106 (mapC m) _ Try.underlying106 rfl (map_size m) hg hdf hR

theorem ret_map (m : MapV) {fn : Func} {R : Ending → World → Prop} {p : Tmp} (h : fn.results = #[.cell p 106]) (g : Nat) (hp : a.tmps.getD p undef = .pointer (some ⟨g, 0, none⟩))
    (hg : Has w g 106 (mapC m)) (hdf : a.defers = []) (hR : R (.returned (.agg (mapC m))) w) : bodyPost Try.prog fn R .ret a w :=
  ret_has h g hp 106 (mapC m) _ Try.underlying106 rfl (map_size m) hg hdf hR
end laws
end Go.Proofs.Ytlbokkbngbpmiaa

/- Folds: The document's Fold, In and Up, as mathematics. -/
namespace Go.Proofs.Ytlbokkbngbpmiaa
set_option linter.unusedSimpArgs false
set_option linter.unusedVariables false

/-- What Apply says: 0, or that it is none. -/
def errI (ok : Bool) : Int := if ok then 0 else 40

theorem errI_bd (ok : Bool) : 0 ≤ errI ok ∧ errI ok ≤ 40 := by cases ok <;> decide

/-- A row of increments applied, from a map on: the map, and whether all went. -/
def foldFrom (m : MapV) : List IncV → MapV × Bool
  | [] => (m, true)
  | x :: l => if okA m x then foldFrom (nextM m x) l else (zeroM, false)

def foldM (l : List IncV) : MapV × Bool := foldFrom firstM l

/-- The daemons, rising, of which something holds. -/
def pickL (p : OsdV → Bool) (m : MapV) : List Int := ((List.finRange 5).filter fun i => p (m.osd i)).map fun i => (i.val : Int)

def inL (m : MapV) : List Int := pickL (fun o => decide (0 < o.wt)) m
def upL (m : MapV) : List Int := pickL (fun o => o.up) m
end Go.Proofs.Ytlbokkbngbpmiaa

/- Ints: The contract of paddocklaw9.ints, and what a slice of int reads as. -/
namespace Go.Proofs.Ytlbokkbngbpmiaa
set_option linter.unusedSimpArgs false
set_option linter.unusedVariables false
open Go.RowKit

/-- What a slice of int reads as. -/
structure Ix (w : World) (ao : Option Addr) (c : Nat) (xs : List Int) : Prop where
  le : xs.length ≤ c
  cap : c ≤ 9223372036854775807
  nil : ao = none → c = 0
  at' : ∀ ad, ao = some ad → ∀ (j : Nat) (h : j < xs.length), w.cell? (ad.add j) = some (.int .i64 xs[j])

theorem Ix.later {w w' : World} {ao : Option Addr} {c : Nat} {xs : List Int} (h : Ix w ao c xs) (hb : Below w.heap.size w w') : Ix w' ao c xs := by
  refine ⟨h.le, h.cap, h.nil, fun ad had j hj => ?_⟩
  have hc := h.at' ad had j hj
  have hlt := World.block_lt_of_cell? w _ hc
  rw [hb.cell hlt]
  exact hc

theorem Ix.drewN {w : World} {ao : Option Addr} {c : Nat} {xs : List Int} (h : Ix w ao c xs) (n : Nat) : Ix (w.drewN n) ao c xs := ⟨h.le, h.cap, h.nil, h.at'⟩

theorem Ix.nothing (w : World) : Ix w none 0 [] := ⟨Nat.le_refl _, by decide, fun _ => rfl, fun _ h => by cases h⟩

theorem eq_of_take {xs ys : List Int} (h : xs.length = ys.length) (hn : ∀ n : Nat, n < xs.length → xs.getD n 0 = ys.getD n 0) : xs = ys := by
  apply List.ext_getElem? 
  intro i
  by_cases hi : i < xs.length
  · have := hn i hi
    simp [List.getD, hi, show i < ys.length by omega] at this
    rw [List.getElem?_eq_getElem hi, List.getElem?_eq_getElem (by omega), this]
  · rw [List.getElem?_eq_none (by omega), List.getElem?_eq_none (by omega)]

set_option maxRecDepth 100000 in
set_option maxHeartbeats 1000000 in
theorem ints_any (ao bo : Option Addr) (c d : Nat) (xs ys : List Int) (w : World) (h : Ix w ao c xs) (k : Ix w bo d ys) :
    Calls Try.prog 18 #[.slice ao xs.length c, .slice bo ys.length d] w fun e w' => e = .returned (.bool (decide (xs = ys))) ∧ ∃ n, w' = w.drewN n := by
  have hle := h.le
  have hcap := h.cap
  have kle := k.le
  have kcap := k.cap
  by_cases hn : xs.length = ys.length
  · have HN : Hid (xs.length = ys.length) := hn
    have hnn : (xs.length : Int) = (ys.length : Int) := by omega
    have hn' : ((xs.length : Int) == (ys.length : Int)) = true := by rw [beq_iff_eq]; exact hnn
    rw [← hn] at kle
    rw [← hn]
    clear hn hnn hn'
    go_enter Try.func18, Try.ntmps18
    go_wp2
    go_loopw [5] (fun i wr => ∃ n : Nat, n ≤ xs.length ∧ i = .int .i64 n ∧ (∀ j : Nat, j < n → xs.getD j 0 = ys.getD j 0) ∧ ∃ q, wr = w.drewN q) (fun i _ => xs.length - (intOf i).toNat)
    case atStart => exact ⟨0, Nat.zero_le _, rfl, fun j hj => absurd hj (by omega), 0, rfl⟩
    case round =>
      obtain ⟨n, hn, rfl, heq, q, rfl⟩ := hrel
      by_cases hlt : n < xs.length
      · have hlt2 : n < ys.length := by have := HN.out; omega
        cases ao with
        | none => have := h.nil rfl; omega
        | some ad =>
          cases bo with
          | none => have := k.nil rfl; omega
          | some bd =>
            have c1 := h.at' ad rfl n hlt
            have c2 := k.at' bd rfl n hlt2
            have e1 : xs.getD n 0 = xs[n] := by simp [List.getD, hlt]
            have e2 : ys.getD n 0 = ys[n] := by simp [List.getD, hlt2]
            have i1 : (n : Int) < (xs.length : Int) := by omega
            by_cases hx : xs[n] = ys[n]
            · have hup : Hid (∀ j : Nat, j < n + 1 → xs.getD j 0 = ys.getD j 0) := by
                intro j hj
                by_cases e : j < n
                · exact heq j e
                · have : j = n := by omega
                  subst this
                  rw [e1, e2, hx]
              have hxb : (xs[n] == ys[n]) = true := by rw [beq_iff_eq]; exact hx
              clear e1 e2 hx heq
              generalize xs[n] = X at *
              generalize ys[n] = Y at *
              go_wp2
              go_quiet (fail)
              go_wp2
              go_roundw
              case rel => exact ⟨n + 1, by omega, by go_num, hup.out, q + nq, by first | rfl | exact World.drewN_drewN _ _ _⟩
              case measure => simp [intOf]; omega
            · have hne : Hid (decide (xs = ys) = false) := decide_eq_false (fun e => hx (by subst e; rfl))
              have hxb : (xs[n] == ys[n]) = false := by rw [beq_eq_false_iff_ne]; exact hx
              clear e1 e2 hx heq
              generalize xs[n] = X at *
              generalize ys[n] = Y at *
              go_wp2
              go_quiet (fail)
              go_wp2
              go_ret
              exact ⟨ret_bool (by rw [hne.out]), q + nq, by first | rfl | exact World.drewN_drewN _ _ _⟩
      · have hall : Hid (decide (xs = ys) = true) := decide_eq_true (eq_of_take HN.out (fun j hj => heq j (by omega)))
        go_wp2
        go_ret
        exact ⟨ret_bool (by rw [hall.out]), _, rfl⟩
  · have hne : decide (xs = ys) = false := decide_eq_false (fun e => hn (by rw [e]))
    have hn' : ((xs.length : Int) == (ys.length : Int)) = false := by rw [beq_eq_false_iff_ne]; omega
    have hn2 : (xs.length == ys.length) = false := by rw [beq_eq_false_iff_ne]; exact hn
    go_enter Try.func18, Try.ntmps18
    go_wp2
    go_ret
    exact ⟨ret_bool (by rw [hne]), 0, rfl⟩
end Go.Proofs.Ytlbokkbngbpmiaa

/- OpenMap: What comes in, opened: increments and maps by value. -/
namespace Go.Proofs.Ytlbokkbngbpmiaa
set_option linter.unusedSimpArgs false
set_option linter.unusedVariables false
set_option maxRecDepth 100000
open Go.ChangeShapes Go.WideShapes Go.ChangeAt Go.RowKit

variable {H : Type} {enc : TypeId × Value → H} {W : World} {base : Nat} {spare : Nat → Bool} {held : Bool} {fuel : Nat} {y : DataW H × List MemPlace}

theorem cells_u8 : Try.prog.cellsOf 5 = 1 := by kernel_rfl
theorem cells_int : Try.prog.cellsOf 3 = 1 := by kernel_rfl
theorem cells_bool : Try.prog.cellsOf 4 = 1 := by kernel_rfl
theorem cells_u32 : Try.prog.cellsOf 25 = 1 := by kernel_rfl
theorem cells_osd : Try.prog.cellsOf 103 = 3 := by kernel_rfl
theorem cells_osds : Try.prog.cellsOf 104 = 15 := by kernel_rfl
theorem cells_map : Try.prog.cellsOf 106 = 16 := by kernel_rfl
theorem cells_inc : Try.prog.cellsOf 73 = 3 := by kernel_rfl

theorem list3 {α : Type} (l : List α) (h : l.length = 3) : ∃ a b c, l = [a, b, c] := by
  match l, h with
  | [a, b, c], _ => exact ⟨a, b, c, rfl⟩

theorem some_of {α : Type} {l : List α} {i : Nat} {o : Option α} (h : o = l[i]?) (hi : i < l.length) : ∃ x, o = some x := ⟨l[i], by rw [h, List.getElem?_eq_getElem hi]⟩

theorem reads_inc {cs : List Value} (h : DataW.trod enc Try.prog W base spare held fuel 73 cs = some y) : ∃ x : IncV, cs = (incC x).toList ∧ IncOk x := by
  obtain ⟨xs, n, _, _, hl, hxl, hf⟩ := DataW.trod_struct Try.underlying73 h
  rw [cells_inc] at hl
  have hxl : xs.length = 3 := hxl
  obtain ⟨c0, c1, c2, rfl⟩ := list3 cs hl
  have h0 : DataW.trod enc Try.prog W base spare held n 5 (([c0, c1, c2].drop 0).take (Try.prog.cellsOf 5)) = xs[0]? := hf 0 _ rfl
  have h1 : DataW.trod enc Try.prog W base spare held n 5 (([c0, c1, c2].drop 1).take (Try.prog.cellsOf 5)) = xs[1]? := hf 1 _ rfl
  have h2 : DataW.trod enc Try.prog W base spare held n 3 (([c0, c1, c2].drop 2).take (Try.prog.cellsOf 3)) = xs[2]? := hf 2 _ rfl
  rw [cells_u8] at h0 h1
  rw [cells_int] at h2
  obtain ⟨y0, e0⟩ := some_of h0 (by omega)
  obtain ⟨y1, e1⟩ := some_of h1 (by omega)
  obtain ⟨y2, e2⟩ := some_of h2 (by omega)
  obtain ⟨x0, q0, _, w0⟩ := DataW.trod_int Try.underlying5 e0
  obtain ⟨x1, q1, _, w1⟩ := DataW.trod_int Try.underlying5 e1
  obtain ⟨x2, q2, _, w2⟩ := DataW.trod_int Try.underlying3 e2
  simp at q0 q1 q2
  subst q0 q1 q2
  have b0 := bounds_u8 w0
  have b1 := bounds_u8 w1
  have b2 := bounds_i64 w2
  obtain ⟨k, rfl⟩ := Int.eq_ofNat_of_zero_le b0.1
  obtain ⟨o, rfl⟩ := Int.eq_ofNat_of_zero_le b1.1
  exact ⟨⟨k, o, x2⟩, rfl, ⟨show k < 256 by omega, show o < 256 by omega, b2.1, b2.2⟩⟩

/-- The numbers of a daemon fit their kinds. -/
def OsdFit (o : OsdV) : Prop := (-9223372036854775808 ≤ o.wt ∧ o.wt ≤ 9223372036854775807) ∧ o.host < 256

theorem reads_osd {cs : List Value} (h : DataW.trod enc Try.prog W base spare held fuel 103 cs = some y) : ∃ o : OsdV, cs = osdL o ∧ OsdFit o := by
  obtain ⟨xs, n, _, _, hl, hxl, hf⟩ := DataW.trod_struct Try.underlying103 h
  rw [cells_osd] at hl
  have hxl : xs.length = 3 := hxl
  obtain ⟨c0, c1, c2, rfl⟩ := list3 cs hl
  have h0 : DataW.trod enc Try.prog W base spare held n 4 (([c0, c1, c2].drop 0).take (Try.prog.cellsOf 4)) = xs[0]? := hf 0 _ rfl
  have h1 : DataW.trod enc Try.prog W base spare held n 3 (([c0, c1, c2].drop 1).take (Try.prog.cellsOf 3)) = xs[1]? := hf 1 _ rfl
  have h2 : DataW.trod enc Try.prog W base spare held n 5 (([c0, c1, c2].drop 2).take (Try.prog.cellsOf 5)) = xs[2]? := hf 2 _ rfl
  rw [cells_bool] at h0
  rw [cells_int] at h1
  rw [cells_u8] at h2
  obtain ⟨y0, e0⟩ := some_of h0 (by omega)
  obtain ⟨y1, e1⟩ := some_of h1 (by omega)
  obtain ⟨y2, e2⟩ := some_of h2 (by omega)
  obtain ⟨x0, q0, _⟩ := DataW.trod_bool Try.underlying4 e0
  obtain ⟨x1, q1, _, w1⟩ := DataW.trod_int Try.underlying3 e1
  obtain ⟨x2, q2, _, w2⟩ := DataW.trod_int Try.underlying5 e2
  simp at q0 q1 q2
  subst q0 q1 q2
  have b1 := bounds_i64 w1
  have b2 := bounds_u8 w2
  obtain ⟨k, rfl⟩ := Int.eq_ofNat_of_zero_le b2.1
  exact ⟨⟨x0, x1, k⟩, rfl, b1, show k < 256 by omega⟩

theorem take_cut {α : Type} (l : List α) (k n : Nat) : l.drop k = (l.drop k).take n ++ l.drop (k + n) := by
  rw [← List.drop_drop, List.take_append_drop]

theorem reads_map {cs : List Value} (h : DataW.trod enc Try.prog W base spare held fuel 106 cs = some y) : ∃ m : MapV, cs = mapL m ∧ MapOk m := by
  obtain ⟨xs, n, _, _, hl, hxl, hf⟩ := DataW.trod_struct Try.underlying106 h
  rw [cells_map] at hl
  have hxl : xs.length = 2 := hxl
  have h0 : DataW.trod enc Try.prog W base spare held n 25 ((cs.drop 0).take (Try.prog.cellsOf 25)) = xs[0]? := hf 0 _ rfl
  have h1 : DataW.trod enc Try.prog W base spare held n 104 ((cs.drop 1).take (Try.prog.cellsOf 104)) = xs[1]? := hf 1 _ rfl
  rw [cells_u32] at h0
  rw [cells_osds] at h1
  obtain ⟨y0, e0⟩ := some_of h0 (by omega)
  obtain ⟨y1, e1⟩ := some_of h1 (by omega)
  obtain ⟨x0, q0, _, w0⟩ := DataW.trod_int Try.underlying25 e0
  obtain ⟨zs, m, _, _, hl2, hzl, hz⟩ := DataW.trod_array Try.underlying104 e1
  have hall : ∀ i : Fin 5, ∃ o : OsdV, (((cs.drop 1).take 15).drop (i.val * 3)).take 3 = osdL o ∧ OsdFit o := by
    intro i
    have hi := hz i.val i.isLt
    rw [cells_osd] at hi
    obtain ⟨y, ey⟩ := some_of hi (by rw [hzl]; exact i.isLt)
    exact reads_osd ey
  have b0 := bounds_u32 w0
  obtain ⟨e, rfl⟩ := Int.eq_ofNat_of_zero_le b0.1
  refine ⟨⟨e, fun i => (hall i).choose⟩, ?_, ⟨show e < 4294967296 by omega, fun i => (hall i).choose_spec.2.1, fun i => (hall i).choose_spec.2.2⟩⟩
  have s0 := (hall 0).choose_spec.1
  have s1 := (hall 1).choose_spec.1
  have s2 := (hall 2).choose_spec.1
  have s3 := (hall 3).choose_spec.1
  have s4 := (hall 4).choose_spec.1
  unfold mapL
  show cs = .int .u32 e :: (osdL (hall 0).choose ++ (osdL (hall 1).choose ++ (osdL (hall 2).choose ++ (osdL (hall 3).choose ++ osdL (hall 4).choose))))
  rw [← s0, ← s1, ← s2, ← s3, ← s4]
  have q0 : cs.take 1 = [.int .u32 e] := q0
  have hc : cs = cs.take 1 ++ cs.drop 1 := (List.take_append_drop 1 cs).symm
  have h15 : (cs.drop 1).take 15 = cs.drop 1 := List.take_of_length_le (by rw [List.length_drop]; omega)
  rw [h15]
  generalize hd : cs.drop 1 = ds at *
  have hdl : ds.length = 15 := by rw [← hd, List.length_drop]; omega
  rw [hc, q0]
  show _ :: ds = _ :: _
  congr 1
  have a0 := take_cut ds 0 3
  have a1 := take_cut ds 3 3
  have a2 := take_cut ds 6 3
  have a3 := take_cut ds 9 3
  have a4 : (ds.drop 12).take 3 = ds.drop 12 := List.take_of_length_le (by rw [List.length_drop]; omega)
  show ds = (ds.drop 0).take 3 ++ ((ds.drop 3).take 3 ++ ((ds.drop 6).take 3 ++ ((ds.drop 9).take 3 ++ (ds.drop 12).take 3)))
  rw [a4, ← a3, ← a2, ← a1, ← a0]
  rfl

theorem open_map {v : Value} {d : DataW H} {p : List MemPlace} (ok : Value.okWide Try.prog W .any base 106 v) (h : DataW.Trod enc Try.prog W 0 (fun _ => true) true 106 v d p) :
    ∃ m : MapV, v = .agg (mapC m) ∧ MapOk m := by
  obtain ⟨cs, rfl, hsz⟩ := okWide_struct Try.underlying106 ok
  obtain ⟨fuel, hf⟩ := h
  obtain ⟨m, hx, hk⟩ := reads_map hf
  have hx : cs.toList = mapL m := hx
  exact ⟨m, by rw [show cs = mapC m from Array.toList_inj.1 (by rw [hx]; rfl)], hk⟩

theorem open_inc {v : Value} {d : DataW H} {p : List MemPlace} (ok : Value.okWide Try.prog W .any base 73 v) (h : DataW.Trod enc Try.prog W 0 (fun _ => true) true 73 v d p) :
    ∃ x : IncV, v = .agg (incC x) ∧ IncOk x := by
  obtain ⟨cs, rfl, hsz⟩ := okWide_struct Try.underlying73 ok
  obtain ⟨fuel, hf⟩ := h
  obtain ⟨x, hx, hk⟩ := reads_inc hf
  exact ⟨x, by rw [show cs = incC x from Array.toList_inj.1 hx], hk⟩

theorem open_incs {v : Value} {d : DataW H} {p : List MemPlace} (ok : Value.okWide Try.prog W .any base 24 v) (h : DataW.Trod enc Try.prog W 0 (fun _ => true) true 24 v d p) :
    ∃ (ao : Option Addr) (c : Nat) (xs : List IncV), v = .slice ao xs.length c ∧ Sl W ao c 3 (xs.map fun x => (incC x).toList) ∧ ∀ x ∈ xs, IncOk x :=
  open_rows (fun x => (incC x).toList) IncOk 3 Try.underlying24 cells_inc (fun _ _ _ h => reads_inc h) (fun _ => rfl) ok h
end Go.Proofs.Ytlbokkbngbpmiaa

/- EqMap: Two maps held against each other by '=='. -/
namespace Go.Proofs.Ytlbokkbngbpmiaa
set_option linter.unusedSimpArgs false
set_option linter.unusedVariables false
open Go.RowKit

def osdK (o : OsdV) : List Lit := [.bool o.up, .int .i64 o.wt, .int .u8 o.host]

def mapK (m : MapV) : List Lit := .int .u32 m.epoch :: (osdK (m.osd 0) ++ (osdK (m.osd 1) ++ (osdK (m.osd 2) ++ (osdK (m.osd 3) ++ osdK (m.osd 4)))))

theorem map_key : Try.prog.keyTypeAt 5 106 = true := by kernel_rfl

theorem wf_i64 {n : Int} (h0 : -9223372036854775808 ≤ n) (h1 : n ≤ 9223372036854775807) : (Lit.int .i64 n).wf = true := by
  simp [Lit.wf, IntKind.min, IntKind.max, IntKind.signed, IntKind.bits]; omega
theorem wf_u8 {n : Nat} (h : n < 256) : (Lit.int .u8 n).wf = true := by
  simp [Lit.wf, IntKind.min, IntKind.max, IntKind.signed, IntKind.bits]; omega
theorem wf_u32 {n : Nat} (h : n < 4294967296) : (Lit.int .u32 n).wf = true := by
  simp [Lit.wf, IntKind.min, IntKind.max, IntKind.signed, IntKind.bits]; omega

theorem osd_lits (o : OsdV) (h : OsdFit o) (D : Nat) : Try.prog.keyLits (D + 2) 103 (osdL o) = some (osdK o) := by
  have w1 := wf_i64 h.1.1 h.1.2
  have w2 := wf_u8 h.2
  unfold Program.keyLits
  rw [Try.underlying103]
  simp [osdL, osdK, cells_osd, cells_bool, cells_int, cells_u8, Program.keyLits, Try.underlying4, Try.underlying3, Try.underlying5, w1, w2]

theorem osds_lits (f : Fin 5 → OsdV) (h : ∀ i, OsdFit (f i)) (D : Nat) :
    Try.prog.keyLits (D + 3) 104 (osdL (f 0) ++ (osdL (f 1) ++ (osdL (f 2) ++ (osdL (f 3) ++ osdL (f 4))))) = some (osdK (f 0) ++ (osdK (f 1) ++ (osdK (f 2) ++ (osdK (f 3) ++ osdK (f 4))))) := by
  unfold Program.keyLits
  rw [Try.underlying104]
  have e0 := osd_lits (f 0) (h 0) D
  have e1 := osd_lits (f 1) (h 1) D
  have e2 := osd_lits (f 2) (h 2) D
  have e3 := osd_lits (f 3) (h 3) D
  have e4 := osd_lits (f 4) (h 4) D
  simp only [osdL] at e0 e1 e2 e3 e4
  simp [osdL, cells_osd, cells_osds, show List.range 5 = [0, 1, 2, 3, 4] from rfl, e0, e1, e2, e3, e4]

theorem map_lits (m : MapV) (h : MapOk m) : Try.prog.keyLits 5 106 (mapL m) = some (mapK m) := by
  have w0 := wf_u32 h.epoch
  have e := osds_lits m.osd (fun i => ⟨h.wt i, h.host i⟩) 1
  have hl : (osdL (m.osd 0) ++ (osdL (m.osd 1) ++ (osdL (m.osd 2) ++ (osdL (m.osd 3) ++ osdL (m.osd 4))))).length = 15 := rfl
  unfold Program.keyLits mapL mapK
  rw [Try.underlying106]
  generalize osdL (m.osd 0) ++ (osdL (m.osd 1) ++ (osdL (m.osd 2) ++ (osdL (m.osd 3) ++ osdL (m.osd 4)))) = L at *
  generalize osdK (m.osd 0) ++ (osdK (m.osd 1) ++ (osdK (m.osd 2) ++ (osdK (m.osd 3) ++ osdK (m.osd 4)))) = K at *
  have ht : L.take 15 = L := List.take_of_length_le (by omega)
  have e' : Try.prog.keyLits 4 25 [.int .u32 m.epoch] = some [.int .u32 m.epoch] := by
    unfold Program.keyLits
    rw [Try.underlying25]
    simp [w0]
  simp [cells_map, cells_u32, cells_osds, hl, ht, e, e']

theorem mapK_inj {a b : MapV} (h : mapK a = mapK b) : a = b := by
  obtain ⟨e, f⟩ := a
  obtain ⟨e', f'⟩ := b
  have ho : ∀ o p : OsdV, ∀ r s : List Lit, osdK o ++ r = osdK p ++ s → o = p ∧ r = s := by
    intro o p r s hh
    obtain ⟨u, n, k⟩ := o
    obtain ⟨u', n', k'⟩ := p
    simp [osdK] at hh
    obtain ⟨rfl, rfl, h3, rfl⟩ := hh
    have : k = k' := by omega
    subst this
    exact ⟨rfl, rfl⟩
  unfold mapK at h
  simp only [List.cons.injEq, Lit.int.injEq, true_and] at h
  obtain ⟨h0, h⟩ := h
  obtain ⟨a0, h⟩ := ho _ _ _ _ h
  obtain ⟨a1, h⟩ := ho _ _ _ _ h
  obtain ⟨a2, h⟩ := ho _ _ _ _ h
  obtain ⟨a3, h⟩ := ho _ _ _ _ h
  have h4 : osdK (f 4) ++ [] = osdK (f' 4) ++ [] := by rw [List.append_nil, List.append_nil]; exact h
  obtain ⟨a4, _⟩ := ho _ _ _ _ h4
  have he : e = e' := by omega
  subst he
  congr 1
  funext i
  match i with
  | 0 => exact a0
  | 1 => exact a1
  | 2 => exact a2
  | 3 => exact a3
  | 4 => exact a4

/-- What '==' says of two maps. -/
theorem eq_map (a b : MapV) (ha : MapOk a) (hb : MapOk b) (w : World) : ∃ r : Bool, (binOp .eql 106 (.agg (mapC a)) (.agg (mapC b))).run Try.prog w = .ok (.bool r) w ∧ (r = true ↔ a = b) := by
  have fa : (Value.agg (mapC a)).formed Try.prog 106 = true := by simp [Value.formed, Try.underlying106, mapC_size, cells_map]
  have fb : (Value.agg (mapC b)).formed Try.prog 106 = true := by simp [Value.formed, Try.underlying106, mapC_size, cells_map]
  obtain ⟨r, hr, hiff⟩ := run_equalIn_deep 9995 5 106 map_key w 5 5 (.agg (mapC a)) (.agg (mapC b)) (mapK a) (mapK b) fa fb (map_lits a ha) (map_lits b hb)
  refine ⟨r, ?_, hiff.trans ⟨mapK_inj, fun h => by rw [h]⟩⟩
  have hr : (Op.equalIn 10000 106 (.agg (mapC a)) (.agg (mapC b))).run Try.prog w = .ok r w := hr
  rw [run_eql_struct, hr]
  rfl

theorem eq_map_same (a : MapV) (ha : MapOk a) (w : World) : (binOp .eql 106 (.agg (mapC a)) (.agg (mapC a))).run Try.prog w = .ok (.bool true) w := by
  obtain ⟨r, hr, hiff⟩ := eq_map a a ha ha w
  rw [hr, hiff.2 rfl]
end Go.Proofs.Ytlbokkbngbpmiaa

/- Held: The contracts of maps.heldWeight and maps.held. -/
namespace Go.Proofs.Ytlbokkbngbpmiaa
set_option linter.unusedSimpArgs false
set_option linter.unusedVariables false
open Go.RowKit

def heldWt (n : Int) : Int := if 16 < (if n < 0 then 0 else n) then 16 else (if n < 0 then 0 else n)
def maxE (n : Nat) : Nat := if n < 1 then 1 else n
def heldE (n : Nat) : Nat := if 60 < maxE n then 60 else maxE n
def heldH (n : Nat) : Nat := if 7 < n then 7 else n
def heldO (o : OsdV) : OsdV := ⟨o.up, heldWt o.wt, heldH o.host⟩
def heldM (m : MapV) : MapV := ⟨heldE m.epoch, fun i => heldO (m.osd i)⟩

/-- Held up to a daemon. -/
def heldTo (m : MapV) (n : Nat) : MapV := ⟨heldE m.epoch, fun i => if i.val < n then heldO (m.osd i) else m.osd i⟩

theorem heldTo_0 (m : MapV) : heldTo m 0 = { m with epoch := heldE m.epoch } := by
  unfold heldTo
  simp

theorem heldTo_5 (m : MapV) : heldTo m 5 = heldM m := by
  unfold heldTo heldM
  congr 1
  funext i
  simp [i.isLt]

theorem heldTo_at (m : MapV) (i : Fin 5) : (heldTo m i.val).osd i = m.osd i := by
  unfold heldTo
  simp

theorem heldTo_succ (m : MapV) (i : Fin 5) : MapV.put (heldTo m i.val) i (heldO (m.osd i)) = heldTo m (i.val + 1) := by
  unfold MapV.put heldTo
  congr 1
  funext j
  by_cases h : j = i
  · subst h
    simp
  · have : j.val ≠ i.val := fun e => h (Fin.ext e)
    by_cases h2 : j.val < i.val
    · simp [h, h2, show j.val < i.val + 1 by omega]
    · simp [h, h2, show ¬ j.val < i.val + 1 by omega]

/-- The fifteen cells of a map's daemons. -/
def osdsL (m : MapV) : List Value := osdL (m.osd 0) ++ (osdL (m.osd 1) ++ (osdL (m.osd 2) ++ (osdL (m.osd 3) ++ osdL (m.osd 4))))

theorem osdsL_at (m : MapV) (i : Fin 5) : ((osdsL m).toArray.extract (i.val * 3) (i.val * 3 + 3)) = osdC (m.osd i) := by
  match i with
  | 0 => rfl
  | 1 => rfl
  | 2 => rfl
  | 3 => rfl
  | 4 => rfl

theorem mapC_osds (m : MapV) (j : Nat) (v : Value) (h : (osdsL m)[j]? = some v) : (mapC m)[1 + j]? = some v := by
  unfold mapC mapL
  rw [List.getElem?_toArray, Nat.add_comm]
  exact h

theorem osds_size (m : MapV) : (Try.prog.info? 104).map (·.size) = some (osdsL m).length := by
  show _ = some 15
  kernel_rfl
theorem osd_size : (Try.prog.info? 103).map (·.size) = some 3 := by kernel_rfl
theorem osd_zero : (Try.prog.info? 103).map (·.zero) = some (some (.agg (osdC ⟨false, 0, 0⟩))) := by kernel_rfl
theorem osdC_size (o : OsdV) : (osdC o).size = 3 := rfl
theorem osdC_one (o : OsdV) : (osdC o).all (·.oneCell') = true := by
  unfold osdC osdL
  simp [Value.oneCell']

section laws
variable {ops : Array Oper} {rest : List Oper} {o : Oper} {a : Act} {w : World} {Q : Exit → Act → World → Prop}

/-- The daemons of a map, whole. -/
theorem load_osds (m : MapV) (hw : Region.wanted o (yielded ops a.tmps) = true) (x : Operand) (ho : o.op = .load 104 x) (g : Nat) (hx : a.eval x = .pointer (some ⟨g, 1, none⟩))
    (hg : Has w g 106 (mapC m)) (h : wpList Try.prog ops Q rest (a.put o.dst (.agg (osdsL m).toArray)) w) : wpList Try.prog ops Q (o :: rest) a w :=
  wpList_load_mid' hw 104 x ho g 1 hx (osdsL m) _ (hg.range 1 _ (mapC_osds m)) Try.underlying104 rfl (osds_size m) h

/-- One of them, out of the value. -/
theorem index_osd (m : MapV) (n : Nat) (hn : n < 5) (hw : Region.wanted o (yielded ops a.tmps) = true) (x y : Operand) (ho : o.op = .index 104 x y) (hx : a.eval x = .agg (osdsL m).toArray) (hy : a.eval y = .int .i64 (n : Int))
    (h : wpList Try.prog ops Q rest (a.put o.dst (.agg (osdC (m.osd ⟨n, hn⟩)))) w) : wpList Try.prog ops Q (o :: rest) a w :=
  wpList_index_row hw 104 x y ho n _ hx hy 103 5 3 _ Try.underlying104 hn Try.underlying103 rfl osd_size (by rw [osdsL_at m ⟨n, hn⟩]; exact h)

theorem alloc_osd (hw : Region.wanted o (yielded ops a.tmps) = true) (ho : o.op = .alloc 103)
    (h : wpList Try.prog ops Q rest (a.put o.dst (.pointer (some ⟨w.heap.size, 0, none⟩))) (w.alloc (.cells (osdC ⟨false, 0, 0⟩) 103))) : wpList Try.prog ops Q (o :: rest) a w :=
  wpList_alloc_has hw 103 ho _ osd_zero h

theorem store_osd (v old : OsdV) (hw : Region.wanted o (yielded ops a.tmps) = true) (x y : Operand) (ho : o.op = .store 103 x y) (g : Nat) (hx : a.eval x = .pointer (some ⟨g, 0, none⟩)) (hy : a.eval y = .agg (osdC v))
    (hg : Has w g 103 (osdC old)) (h : wpList Try.prog ops Q rest (a.put o.dst undef) (w.setRow g (osdC v))) : wpList Try.prog ops Q (o :: rest) a w :=
  wpList_store_has hw 103 x y ho g hx (osdC v) hy 103 (osdC old) osd_size rfl (osdC_one v) hg h

theorem load_osd (v : OsdV) (hw : Region.wanted o (yielded ops a.tmps) = true) (x : Operand) (ho : o.op = .load 103 x) (g : Nat) (hx : a.eval x = .pointer (some ⟨g, 0, none⟩))
    (hg : Has w g 103 (osdC v)) (h : wpList Try.prog ops Q rest (a.put o.dst (.agg (osdC v))) w) : wpList Try.prog ops Q (o :: rest) a w :=
  wpList_load_has hw 103 x ho g hx 103 (osdC v) _ Try.underlying103 rfl osd_size hg h
end laws

theorem ret_int {k : IntKind} {a b : Int} (h : a = b) : Ending.returned (.int k a) = .returned (.int k b) := by rw [h]

set_option maxRecDepth 100000 in
theorem heldw_any (n : Int) (w : World) (h0 : -9223372036854775808 ≤ n) (h1 : n ≤ 9223372036854775807) :
    Calls Try.prog 86 #[.int .i64 n] w fun e w' => e = .returned (.int .i64 (heldWt n)) ∧ w' = w := by
  go_enter Try.func86, Try.ntmps86
  go_wp2
  all_goals
    go_ret
    exact ⟨by first | rfl | exact ret_int (by unfold heldWt; split <;> split <;> omega), rfl⟩

theorem osd_cells {w : World} {g : Nat} {t : TypeId} {o : OsdV} (h : Has w g t (osdC o)) :
    w.cell? ⟨g, 0, none⟩ = some (.bool o.up) ∧ w.cell? ⟨g, 1, none⟩ = some (.int .i64 o.wt) ∧ w.cell? ⟨g, 2, none⟩ = some (.int .u8 o.host) := ⟨h.cell 0, h.cell 1, h.cell 2⟩

theorem Has.held {w : World} {g : Nat} {t : TypeId} {m : MapV} {i : Fin 5} (h : Has w g t (mapC (heldTo m i.val))) :
    Has ((w.setCell ⟨g, 1 + i.val * 3 + 1, none⟩ (.int .i64 (heldWt (m.osd i).wt))).setCell ⟨g, 1 + i.val * 3 + 2, none⟩ (.int .u8 (heldH (m.osd i).host : Nat))) g t (mapC (heldTo m (i.val + 1))) := by
  have h1 := h.set (1 + i.val * 3 + 1) (.int .i64 (heldWt (m.osd i).wt))
  rw [mapC_setWt] at h1
  have h2 := h1.set (1 + i.val * 3 + 2) (.int .u8 (heldH (m.osd i).host : Nat))
  rw [mapC_setHost] at h2
  simp only [MapV.put_put, MapV.put_at, heldTo_at] at h2
  rw [← heldTo_succ]
  exact h2

set_option maxRecDepth 100000 in
set_option maxHeartbeats 1000000 in
theorem held_any (m : MapV) (w : World) (hm : MapOk m) :
    Calls Try.prog 85 #[.agg (mapC m)] w fun e w' => e = .returned (.agg (mapC (heldM m))) ∧ Below w.heap.size w w' := by
  have hH1 : Has ((w.alloc (.cells (mapC m) 106)).alloc (.cells (mapC zeroM) 106)) w.heap.size 106 (mapC m) := (Has.new _ _ _).alloc _
  have hH2 : Has ((w.alloc (.cells (mapC m) 106)).alloc (.cells (mapC zeroM) 106)) (w.heap.size + 1) 106 (mapC zeroM) := by
    have := Has.new (w.alloc (.cells (mapC m) 106)) 106 (mapC zeroM)
    simpa using this
  have hbw : Below w.heap.size w ((w.alloc (.cells (mapC m) 106)).alloc (.cells (mapC zeroM) 106)) := ((Below.refl _ _).alloc (Nat.le_refl _) _).alloc (by simp) _
  have c0 := hH1.cell 0
  rw [mapC_epoch] at c0
  have f0 := hH1.free
  have he := hm.epoch
  have e1 : Hid ((if (1 : Int) > (m.epoch : Int) then (1 : Int) else (m.epoch : Int)) = ((maxE m.epoch : Nat) : Int)) := by show _ = _; unfold maxE; split <;> split <;> omega
  have e2 : Hid ((if (60 : Int) < ((maxE m.epoch : Nat) : Int) then (60 : Int) else ((maxE m.epoch : Nat) : Int)) = ((heldE m.epoch : Nat) : Int)) := by show _ = _; unfold heldE; split <;> split <;> omega
  go_enter Try.func85, Try.ntmps85
  go_wp2_with (first
    | (refine alloc_map (by rfl) rfl ?_; generalize (w.alloc (.cells (mapC m) 106)).alloc (.cells (mapC zeroM) 106) = w1 at *; have hN1 := hH1.set 0 (.int .u32 ((heldE m.epoch : Nat) : Int)); rw [mapC_setEpoch, ← heldTo_0] at hN1)
    | (refine wpList_max (by rfl) _ _ _ rfl _ _ _ _ _ rfl rfl e1.out ?_)
    | (refine wpList_min (by rfl) _ _ _ rfl _ _ _ _ _ rfl rfl e2.out ?_)
    | (refine load_osds _ (by rfl) _ rfl _ rfl hN1 ?_))
  have hN2 := hH2.set_other (a := ⟨w.heap.size, 0, none⟩) (by simp) (.int .u32 ((heldE m.epoch : Nat) : Int))
  have hbN : Below w.heap.size w (w1.setCell ⟨w.heap.size, 0, none⟩ (.int .u32 ((heldE m.epoch : Nat) : Int))) := hbw.setCell (Nat.le_refl _) _
  clear hH1 hH2 hbw c0 f0
  generalize w1.setCell ⟨w.heap.size, 0, none⟩ (.int .u32 ((heldE m.epoch : Nat) : Int)) = w2 at *
  go_loopw [12] (fun i wr => ∃ n : Nat, n ≤ 5 ∧ i = .int .i64 n ∧ Has wr w.heap.size 106 (mapC (heldTo m n)) ∧ Has wr (w.heap.size + 1) 106 (mapC zeroM) ∧ Below w.heap.size w wr) (fun i _ => (5 - intOf i).toNat)
  case atStart => exact ⟨0, by decide, rfl, hN1, hN2, hbN⟩
  case round =>
    obtain ⟨n, hn, rfl, hA, hR, hb⟩ := hrel
    by_cases hlt : n < 5
    · have hwt := hm.wt ⟨n, hlt⟩
      have hht := hm.host ⟨n, hlt⟩
      have hlt1 := hR.lt
      have hA1 := (hA.alloc (.cells (osdC ⟨false, 0, 0⟩) 103)).row_other (k := wr.heap.size) (by omega) (osdC (m.osd ⟨n, hlt⟩))
      have hR1 := (hR.alloc (.cells (osdC ⟨false, 0, 0⟩) 103)).row_other (k := wr.heap.size) (by omega) (osdC (m.osd ⟨n, hlt⟩))
      have hO1 := (Has.new wr 103 (osdC ⟨false, 0, 0⟩)).row (osdC (m.osd ⟨n, hlt⟩))
      have hb1 := below_setRow (hb.alloc hb.size (.cells (osdC ⟨false, 0, 0⟩) 103)) hb.size (osdC (m.osd ⟨n, hlt⟩))
      have hat := heldTo_at m ⟨n, hlt⟩
      have hsucc := heldTo_succ m ⟨n, hlt⟩
      have e3 : Hid ((if (7 : Int) < ((m.osd ⟨n, hlt⟩).host : Int) then (7 : Int) else ((m.osd ⟨n, hlt⟩).host : Int)) = ((heldH (m.osd ⟨n, hlt⟩).host : Nat) : Int)) := by show _ = _; unfold heldH; split <;> split <;> omega
      have hne : wr.heap.size ≠ w.heap.size := by omega
      have hne' : w.heap.size ≠ wr.heap.size := by omega
      clear hat hsucc
      go_wp2_with (first
        | (refine index_osd m n hlt (by rfl) _ _ rfl rfl rfl ?_)
        | (refine alloc_osd (by rfl) rfl ?_)
        | (refine store_osd _ _ (by rfl) _ _ rfl _ rfl rfl (Has.new _ _ _) ?_; generalize (wr.alloc (.cells (osdC ⟨false, 0, 0⟩) 103)).setRow wr.heap.size (osdC (m.osd ⟨n, hlt⟩)) = w3 at *; obtain ⟨d0, d1, d2⟩ := osd_cells hO1; have c1 := hA1.cell (1 + n * 3 + 1); have c2 := hA1.cell (1 + n * 3 + 2); rw [mapC_wt _ ⟨n, hlt⟩] at c1; rw [mapC_host _ ⟨n, hlt⟩] at c2; have f1 := hA1.free; have hZ := hA1.held (i := ⟨n, hlt⟩))
        | (go_at_call 86; refine (heldw_any _ _ hwt.1 hwt.2).mono ?_; rintro e w' ⟨rfl, rfl⟩)
        | (refine wpList_min (by rfl) _ _ _ rfl _ _ _ _ _ rfl rfl e3.out ?_))
      go_roundw
      case rel => exact ⟨n + 1, by omega, by go_num, hZ, (hR1.set_other (by simp) _).set_other (by simp) _, (hb1.setCell (Nat.le_refl _) _).setCell (Nat.le_refl _) _⟩
      case measure => simp [intOf]; omega
    · have e5 : n = 5 := by omega
      subst e5
      rw [heldTo_5] at hA
      go_wp2_with (first
        | (refine load_map _ (by rfl) _ rfl _ rfl hA ?_)
        | (refine store_map _ zeroM (by rfl) _ _ rfl _ rfl rfl hR ?_))
      exact ret_map _ rfl _ rfl (hR.row _) rfl ⟨rfl, below_setRow hb (by omega) _⟩
end Go.Proofs.Ytlbokkbngbpmiaa

/- EqMore: Daemons, rows of them and increments held against each other by '=='; what a walk needs of '==' of structs. -/
namespace Go.Proofs.Ytlbokkbngbpmiaa
set_option linter.unusedSimpArgs false
set_option linter.unusedVariables false
open Go.RowKit

theorem guard_map : Try.prog.eqGuardType Try.prog.depth 106 = false := by kernel_rfl
theorem guard_osds : Try.prog.eqGuardType Try.prog.depth 104 = false := by kernel_rfl
theorem guard_osd : Try.prog.eqGuardType Try.prog.depth 103 = false := by kernel_rfl
theorem guard_inc : Try.prog.eqGuardType Try.prog.depth 73 = false := by kernel_rfl

theorem bool_of {r : Bool} {p : Prop} [Decidable p] (h : r = true ↔ p) : r = decide p := by
  by_cases hp : p
  · rw [h.2 hp, decide_eq_true hp]
  · rw [decide_eq_false hp, ← Bool.not_eq_true]
    exact fun e => hp (h.1 e)

/-- Whether two daemons, two increments are one. -/
def sameOsd (a b : OsdV) : Bool := (a.up == b.up) && (decide (a.wt = b.wt) && decide (a.host = b.host))
theorem sameOsd_is (a b : OsdV) : sameOsd a b = true ↔ a = b := by
  obtain ⟨u, n, k⟩ := a
  obtain ⟨u', n', k'⟩ := b
  unfold sameOsd
  simp

def sameInc (a b : IncV) : Bool := decide (a.kind = b.kind) && (decide (a.osd = b.osd) && decide (a.n = b.n))
theorem sameInc_is (a b : IncV) : sameInc a b = true ↔ a = b := by
  obtain ⟨u, n, k⟩ := a
  obtain ⟨u', n', k'⟩ := b
  unfold sameInc
  simp

theorem bool_same {r s : Bool} {p : Prop} (h : r = true ↔ p) (k : s = true ↔ p) : r = s := by rw [Bool.eq_iff_iff, h, k]

def incK (x : IncV) : List Lit := [.int .u8 x.kind, .int .u8 x.osd, .int .i64 x.n]
theorem inc_key : Try.prog.keyTypeAt 5 73 = true := by kernel_rfl
theorem osd_key : Try.prog.keyTypeAt 5 103 = true := by kernel_rfl
theorem osds_key : Try.prog.keyTypeAt 5 104 = true := by kernel_rfl

theorem inc_lits (x : IncV) (h : IncOk x) (D : Nat) : Try.prog.keyLits (D + 2) 73 (incC x).toList = some (incK x) := by
  have w0 := wf_u8 h.kind
  have w1 := wf_u8 h.osd
  have w2 := wf_i64 h.lo h.hi
  unfold Program.keyLits
  rw [Try.underlying73]
  simp [incC, incK, cells_inc, cells_int, cells_u8, Program.keyLits, Try.underlying3, Try.underlying5, w0, w1, w2]

theorem incK_inj {x y : IncV} (h : incK x = incK y) : x = y := by
  obtain ⟨k, o, n⟩ := x
  obtain ⟨k', o', n'⟩ := y
  simp [incK] at h
  obtain ⟨h1, h2, rfl⟩ := h
  have : k = k' := by omega
  subst this
  have : o = o' := by omega
  subst this
  rfl

theorem eq_inc (x y : IncV) (hx : IncOk x) (hy : IncOk y) (w : World) : (binOp .eql 73 (.agg (incC x)) (.agg (incC y))).run Try.prog w = .ok (.bool (sameInc x y)) w := by
  have fa : (Value.agg (incC x)).formed Try.prog 73 = true := by simp [Value.formed, Try.underlying73, cells_inc, incC]
  have fb : (Value.agg (incC y)).formed Try.prog 73 = true := by simp [Value.formed, Try.underlying73, cells_inc, incC]
  obtain ⟨r, hr, hiff⟩ := run_equalIn_deep 9995 5 73 inc_key w 5 5 (.agg (incC x)) (.agg (incC y)) (incK x) (incK y) fa fb (inc_lits x hx 3) (inc_lits y hy 3)
  have hr : (Op.equalIn 10000 73 (.agg (incC x)) (.agg (incC y))).run Try.prog w = .ok r w := hr
  rw [run_eql_struct, hr, bool_same (hiff.trans ⟨incK_inj, fun h => by rw [h]⟩) (sameInc_is x y)]
  rfl

theorem osdK_inj {o p : OsdV} (h : osdK o = osdK p) : o = p := by
  obtain ⟨u, n, k⟩ := o
  obtain ⟨u', n', k'⟩ := p
  simp [osdK] at h
  obtain ⟨rfl, rfl, h3⟩ := h
  have : k = k' := by omega
  subst this
  rfl

theorem neq_osd (o p : OsdV) (ho : OsdFit o) (hp : OsdFit p) (w : World) : (binOp .neq 103 (.agg (osdC o)) (.agg (osdC p))).run Try.prog w = .ok (.bool (!sameOsd o p)) w := by
  have fa : (Value.agg (osdC o)).formed Try.prog 103 = true := by simp [Value.formed, Try.underlying103, cells_osd, osdC, osdL]
  have fb : (Value.agg (osdC p)).formed Try.prog 103 = true := by simp [Value.formed, Try.underlying103, cells_osd, osdC, osdL]
  obtain ⟨r, hr, hiff⟩ := run_equalIn_deep 9995 5 103 osd_key w 5 5 (.agg (osdC o)) (.agg (osdC p)) (osdK o) (osdK p) fa fb (osd_lits o ho 3) (osd_lits p hp 3)
  have hr : (Op.equalIn 10000 103 (.agg (osdC o)) (.agg (osdC p))).run Try.prog w = .ok r w := hr
  rw [run_neq_struct, hr, bool_same (hiff.trans ⟨osdK_inj, fun h => by rw [h]⟩) (sameOsd_is o p)]
  rfl

def osdsK (m : MapV) : List Lit := osdK (m.osd 0) ++ (osdK (m.osd 1) ++ (osdK (m.osd 2) ++ (osdK (m.osd 3) ++ osdK (m.osd 4))))

theorem osdsK_inj {a b : MapV} (h : osdsK a = osdsK b) : a.osd = b.osd := by
  have : mapK { a with epoch := 0 } = mapK { b with epoch := 0 } := by
    unfold osdsK at h
    unfold mapK
    simp only
    rw [h]
  have := mapK_inj this
  injection this

/-- Whether the daemons of two maps are one. -/
def sameO (a b : MapV) : Bool := sameOsd (a.osd 0) (b.osd 0) && (sameOsd (a.osd 1) (b.osd 1) && (sameOsd (a.osd 2) (b.osd 2) && (sameOsd (a.osd 3) (b.osd 3) && sameOsd (a.osd 4) (b.osd 4))))

theorem sameO_is (a b : MapV) : sameO a b = true ↔ a.osd = b.osd := by
  unfold sameO
  simp only [Bool.and_eq_true, sameOsd_is]
  constructor
  · rintro ⟨h0, h1, h2, h3, h4⟩
    funext i
    match i with
    | 0 => exact h0
    | 1 => exact h1
    | 2 => exact h2
    | 3 => exact h3
    | 4 => exact h4
  · intro h
    rw [h]
    exact ⟨rfl, rfl, rfl, rfl, rfl⟩

theorem eq_osds (a b : MapV) (ha : MapOk a) (hb : MapOk b) (w : World) : (binOp .eql 104 (.agg (osdsL a).toArray) (.agg (osdsL b).toArray)).run Try.prog w = .ok (.bool (sameO a b)) w := by
  have fa : (Value.agg (osdsL a).toArray).formed Try.prog 104 = true := by
    have : (osdsL a).length = 15 := rfl
    simp [Value.formed, Try.underlying104, cells_osds, this]
  have fb : (Value.agg (osdsL b).toArray).formed Try.prog 104 = true := by
    have : (osdsL b).length = 15 := rfl
    simp [Value.formed, Try.underlying104, cells_osds, this]
  obtain ⟨r, hr, hiff⟩ := run_equalIn_deep 9995 5 104 osds_key w 5 5 (.agg (osdsL a).toArray) (.agg (osdsL b).toArray) (osdsK a) (osdsK b) fa fb (osds_lits a.osd (fun i => ⟨ha.wt i, ha.host i⟩) 2) (osds_lits b.osd (fun i => ⟨hb.wt i, hb.host i⟩) 2)
  have hr : (Op.equalIn 10000 104 (.agg (osdsL a).toArray) (.agg (osdsL b).toArray)).run Try.prog w = .ok r w := hr
  have e : r = sameO a b := by
    rw [Bool.eq_iff_iff, hiff, sameO_is]
    exact ⟨osdsK_inj, fun h => by unfold osdsK; rw [h]⟩
  rw [run_eql_struct, hr, e]
  rfl

/-- Whether two maps are one. -/
def sameM (a b : MapV) : Bool := decide (a.epoch = b.epoch) && sameO a b
theorem sameM_is (a b : MapV) : sameM a b = true ↔ a = b := by
  unfold sameM
  rw [Bool.and_eq_true, decide_eq_true_iff, sameO_is]
  constructor
  · rintro ⟨h1, h2⟩
    obtain ⟨e, f⟩ := a
    obtain ⟨e', f'⟩ := b
    simp only at h1 h2
    rw [h1, h2]
  · intro h
    rw [h]
    exact ⟨rfl, rfl⟩

theorem eq_maps (a b : MapV) (ha : MapOk a) (hb : MapOk b) (w : World) : (binOp .eql 106 (.agg (mapC a)) (.agg (mapC b))).run Try.prog w = .ok (.bool (sameM a b)) w := by
  obtain ⟨r, hr, hiff⟩ := eq_map a b ha hb w
  have : r = sameM a b := by rw [Bool.eq_iff_iff, hiff, sameM_is]
  rw [hr, this]

section laws
variable {ops : Array Oper} {Q : Exit → Act → World → Prop} {S : World → Prop}

theorem yields_map {o : Oper} {a : Act} (m : MapV) (hw : Region.wanted o (yielded ops a.tmps) = true) (x : Operand) (ho : o.op = .load 106 x) (g : Nat) (hx : a.eval x = .pointer (some ⟨g, 0, none⟩))
    (hg : ∀ w, S w → Has w g 106 (mapC m)) : YieldsIf Try.prog ops S o (.agg (mapC m)) a :=
  yields_load_has hw 106 x ho g hx 106 (mapC m) _ Try.underlying106 rfl (map_size m) hg

theorem yields_inc {o : Oper} {a : Act} (y : IncV) (hw : Region.wanted o (yielded ops a.tmps) = true) (x : Operand) (ho : o.op = .load 73 x) (g : Nat) (hx : a.eval x = .pointer (some ⟨g, 0, none⟩))
    (hg : ∀ w, S w → Has w g 73 (incC y)) : YieldsIf Try.prog ops S o (.agg (incC y)) a :=
  yields_load_has hw 73 x ho g hx 73 (incC y) _ Try.underlying73 rfl (inc_size y) hg

theorem yields_eq_map {o : Oper} {a : Act} (m n : MapV) (hm : MapOk m) (hn : MapOk n) (hw : Region.wanted o (yielded ops a.tmps) = true) (x y : Operand) (ty' : TypeId) (ho : o.op = .binOp .eql 106 x y ty') (hx : a.eval x = .agg (mapC m)) (hy : a.eval y = .agg (mapC n)) :
    YieldsIf Try.prog ops S o (.bool (sameM m n)) a :=
  yields_bin_agg hw .eql 106 ty' x y ho _ _ hx hy _ guard_map (eq_maps m n hm hn)

theorem bin_map {o : Oper} {a : Act} {w : World} {rest : List Oper} (m n : MapV) (hm : MapOk m) (hn : MapOk n) (hw : Region.wanted o (yielded ops a.tmps) = true) (x y : Operand) (ty' : TypeId) (ho : o.op = .binOp .eql 106 x y ty') (hx : a.eval x = .agg (mapC m)) (hy : a.eval y = .agg (mapC n))
    (h : wpList Try.prog ops Q rest (a.put o.dst (.bool (sameM m n))) w) : wpList Try.prog ops Q (o :: rest) a w :=
  wpList_bin_agg hw .eql 106 ty' x y ho _ _ hx hy _ guard_map (eq_maps m n hm hn w) h

theorem bin_inc {o : Oper} {a : Act} {w : World} {rest : List Oper} (m n : IncV) (hm : IncOk m) (hn : IncOk n) (hw : Region.wanted o (yielded ops a.tmps) = true) (x y : Operand) (ty' : TypeId) (ho : o.op = .binOp .eql 73 x y ty') (hx : a.eval x = .agg (incC m)) (hy : a.eval y = .agg (incC n))
    (h : wpList Try.prog ops Q rest (a.put o.dst (.bool (sameInc m n))) w) : wpList Try.prog ops Q (o :: rest) a w :=
  wpList_bin_agg hw .eql 73 ty' x y ho _ _ hx hy _ guard_inc (eq_inc m n hm hn w) h

theorem bin_osds {o : Oper} {a : Act} {w : World} {rest : List Oper} (m n : MapV) (hm : MapOk m) (hn : MapOk n) (hw : Region.wanted o (yielded ops a.tmps) = true) (x y : Operand) (ty' : TypeId) (ho : o.op = .binOp .eql 104 x y ty') (hx : a.eval x = .agg (osdsL m).toArray) (hy : a.eval y = .agg (osdsL n).toArray)
    (h : wpList Try.prog ops Q rest (a.put o.dst (.bool (sameO m n))) w) : wpList Try.prog ops Q (o :: rest) a w :=
  wpList_bin_agg hw .eql 104 ty' x y ho _ _ hx hy _ guard_osds (eq_osds m n hm hn w) h
end laws
end Go.Proofs.Ytlbokkbngbpmiaa

/- IsMaps: The contracts of maps.Is and maps.IsInc. -/
namespace Go.Proofs.Ytlbokkbngbpmiaa
set_option linter.unusedSimpArgs false
set_option linter.unusedVariables false
open Go.RowKit

theorem heldO_ok (o : OsdV) : heldO o = o ↔ osdOk o = true := by
  obtain ⟨u, n, k⟩ := o
  rw [osdOk_is]
  unfold heldO heldWt heldH
  simp only [OsdV.mk.injEq, true_and]
  constructor
  · rintro ⟨h1, h2⟩
    split at h1 <;> split at h2 <;> (try split at h1) <;> omega
  · rintro ⟨h1, h2, h3⟩
    refine ⟨?_, ?_⟩
    · split <;> (try split) <;> omega
    · split <;> omega

theorem same_held (m : MapV) : sameM m (heldM m) = isM m := by
  rw [Bool.eq_iff_iff, sameM_is]
  constructor
  · intro h
    have he : heldE m.epoch = m.epoch := (congrArg MapV.epoch h).symm
    have ho : ∀ i, osdOk (m.osd i) = true := fun i => (heldO_ok _).1 (congrFun (congrArg MapV.osd h) i).symm
    rw [isM_good ho, decide_eq_true_iff]
    unfold heldE maxE at he
    split at he <;> (try split at he) <;> omega
  · intro h
    have hg : ∀ i, osdOk (m.osd i) = true := fun i => by
      rw [← Bool.not_eq_false]
      intro hb
      rw [isM_bad hb] at h
      cases h
    rw [isM_good hg, decide_eq_true_iff] at h
    obtain ⟨e, f⟩ := m
    unfold heldM
    congr 1
    · unfold heldE maxE
      simp only at h ⊢
      split <;> (try split) <;> omega
    · funext i
      exact ((heldO_ok _).2 (hg i)).symm

theorem heldM_ok {m : MapV} (h : MapOk m) : MapOk (heldM m) := by
  refine ⟨?_, fun i => ?_, fun i => ?_⟩
  · show heldE m.epoch < _
    unfold heldE
    split <;> omega
  · show _ ≤ heldWt (m.osd i).wt ∧ heldWt (m.osd i).wt ≤ _
    unfold heldWt
    split <;> (try split) <;> omega
  · show heldH (m.osd i).host < 256
    unfold heldH
    split <;> omega

set_option maxRecDepth 100000 in
set_option maxHeartbeats 1000000 in
theorem is_any (m : MapV) (w : World) (hm : MapOk m) :
    Calls Try.prog 70 #[.agg (mapC m)] w fun e w' => e = .returned (.bool (isM m)) ∧ Below w.heap.size w w' := by
  have hH := Has.new w 106 (mapC m)
  have hb := (Below.refl w.heap.size w).alloc (Nat.le_refl _) (.cells (mapC m) 106)
  go_enter Try.func70, Try.ntmps70
  go_wp2
  refine wp_region_plan (fun W => Has W w.heap.size 106 (mapC m) ∧ Below w.heap.size w W) (.take 0 (.take 1 (.run 2 (.take 3 (.take 4 .done))))) (by kernel_rfl) (by kernel_rfl) (by kernel_rfl) (by kernel_rfl) ⟨hH.drew, hb.drew⟩ ?_
  refine plan_take _ _ rfl (yields_map m (by rfl) _ rfl _ rfl (fun _ h => h.1)) ?_
  refine plan_take _ _ rfl (yields_map m (by rfl) _ rfl _ rfl (fun _ h => h.1)) ?_
  refine plan_run _ rfl (fun K hK => ?_)
  go_simp
  refine (held_any m _ hm).mono ?_
  rintro e w2 ⟨rfl, hb2⟩
  refine hK.out _ _ ⟨hH.drew.later hb2, hb.drew.trans (hb2.mono hb.drew.size)⟩ ?_
  clear hK K
  refine plan_take _ _ rfl (yields_eq_map m (heldM m) hm (heldM_ok hm) (by rfl) _ _ _ rfl rfl rfl) ?_
  refine plan_take _ _ rfl (yields_assign (by rfl) _ rfl) ?_
  refine plan_done ?_
  go_wp2
  go_ret
  exact ⟨ret_bool (same_held m), hb.drew.trans (hb2.mono hb.drew.size)⟩
theorem heldWt_is (n : Int) : heldWt n = n ↔ 0 ≤ n ∧ n ≤ 16 := by
  unfold heldWt
  split <;> (try split) <;> omega

set_option maxRecDepth 100000 in
set_option maxHeartbeats 1000000 in
theorem isinc_any (x : IncV) (w : World) (hx : IncOk x) :
    Calls Try.prog 71 #[.agg (incC x)] w fun e w' => e = .returned (.bool (isInc x)) ∧ Below w.heap.size w w' := by
  obtain ⟨k, o, n⟩ := x
  obtain ⟨h1, h2, h3, h4⟩ := hx
  simp only at h1 h2 h3 h4
  have hb := (Below.refl w.heap.size w).alloc (Nat.le_refl _) (.cells (incC ⟨k, o, n⟩) 73)
  have hI : Hid _ := isInc_of k o n
  by_cases k3 : k = 3
  · subst k3
    have hH := Has.new w 73 (incC ⟨3, o, n⟩)
    obtain ⟨c0, c1, c2⟩ := inc_cells hH
    by_cases ho : o < 5
    · have hoi : (o : Int) < 5 := by omega
      have hod : decide ((o : Int) < 5) = true := decide_eq_true hoi
      have hN : Hid ((n == heldWt n) = isInc ⟨3, o, n⟩) := by
        show _ = _
        have := heldWt_is n
        rw [isInc_of, Bool.eq_iff_iff, beq_iff_eq, decide_eq_true_iff]
        constructor
        · intro h
          have := this.1 h.symm
          omega
        · intro h
          exact (this.2 (by omega)).symm
      go_enter Try.func71, Try.ntmps71
      go_wp2
      refine wp_region_plan (fun W => Has W w.heap.size 73 (incC ⟨3, o, n⟩) ∧ Below w.heap.size w W) (Plan.of [(0, true), (1, true), (2, true), (3, true), (4, true), (5, true), (6, true), (7, true), (8, false), (9, true), (10, true), (11, true)] .done) (by kernel_rfl) (by kernel_rfl) (by kernel_rfl) (by kernel_rfl) ⟨hH.drew, hb.drew⟩ ?_
      iterate 8
        refine plan_take _ _ rfl (.inl ⟨by rfl, fun W hS => by obtain ⟨d0, d1, d2⟩ := inc_cells hS.1; go_simp; try with_reducible rfl⟩) ?_
        try simp only [Act.put, List.setIfInBounds_toArray, List.set_cons_zero, List.set_cons_succ]
      refine plan_run _ rfl (fun K hK => ?_)
      go_simp
      refine (heldw_any n _ h3 h4).mono ?_
      rintro e w2 ⟨rfl, rfl⟩
      refine hK.out _ _ ⟨hH.drew, hb.drew⟩ ?_
      clear hK K
      iterate 3
        refine plan_take _ _ rfl (.inl ⟨by rfl, fun W hS => by go_simp; try with_reducible rfl⟩) ?_
        try simp only [Act.put, List.setIfInBounds_toArray, List.set_cons_zero, List.set_cons_succ]
      refine plan_done ?_
      go_wp2
      go_ret
      exact ⟨ret_bool hN.out, hb.drew⟩
    · have hoi : (5 : Int) ≤ (o : Int) := by omega
      have hod : decide ((o : Int) < 5) = false := decide_eq_false (by omega)
      have hN : Hid (false = isInc ⟨3, o, n⟩) := by
        show _ = _
        rw [isInc_of, eq_comm, decide_eq_false_iff_not]
        omega
      go_enter Try.func71, Try.ntmps71
      go_wp2
      refine wp_region_plan (fun W => Has W w.heap.size 73 (incC ⟨3, o, n⟩) ∧ Below w.heap.size w W) (Plan.of [(0, true), (1, true), (2, true), (3, true), (4, true), (5, true), (6, true), (7, true), (8, true), (9, true), (10, true), (11, true)] .done) (by kernel_rfl) (by kernel_rfl) (by kernel_rfl) (by kernel_rfl) ⟨hH.drew, hb.drew⟩ ?_
      iterate 4
        refine plan_take _ _ rfl (.inl ⟨by rfl, fun W hS => by obtain ⟨d0, d1, d2⟩ := inc_cells hS.1; go_simp; try with_reducible rfl⟩) ?_
        try simp only [Act.put, List.setIfInBounds_toArray, List.set_cons_zero, List.set_cons_succ]
      iterate 6
        refine plan_pass _ rfl (by rfl) ?_
        try simp only [Act.put, List.setIfInBounds_toArray, List.set_cons_zero, List.set_cons_succ]
      iterate 2
        refine plan_take _ _ rfl (.inl ⟨by rfl, fun W hS => by go_simp; try with_reducible rfl⟩) ?_
        try simp only [Act.put, List.setIfInBounds_toArray, List.set_cons_zero, List.set_cons_succ]
      refine plan_done ?_
      go_wp2
      go_ret
      exact ⟨ret_bool hN.out, hb.drew⟩
  · have k3' : (k == 3) = false := by rw [beq_eq_false_iff_ne]; exact k3
    have k3'' : ((k : Int) == 3) = false := by rw [beq_eq_false_iff_ne]; omega
    show Calls Try.prog 71 #[.agg #[.int .u8 (k : Int), .int .u8 (o : Int), .int .i64 n]] w _
    go_enter Try.func71, Try.ntmps71
    go_wp2
    all_goals
      go_ret
      refine ⟨ret_bool ?_, (Below.refl _ _).alloc (Nat.le_refl _) _⟩
      rw [isInc_of, Bool.eq_iff_iff]
      simp only [beq_iff_eq, beq_eq_false_iff_ne, ne_eq] at *
      simp
      omega

end Go.Proofs.Ytlbokkbngbpmiaa

/- RefFirst: The contract of the document's First. -/
namespace Go.Proofs.Ytlbokkbngbpmiaa
set_option linter.unusedSimpArgs false
set_option linter.unusedVariables false
open Go.RowKit

/-- First, as far as it is made. -/
def firstTo (n : Nat) : MapV := ⟨1, fun i => if i.val < n then ⟨true, 8, i.val % 4⟩ else ⟨false, 0, 0⟩⟩

theorem firstTo_5 : firstTo 5 = firstM := by
  unfold firstTo firstM
  congr 1
  funext i
  simp [i.isLt]

theorem firstTo_succ (i : Fin 5) : MapV.put (firstTo i.val) i ⟨true, 8, i.val % 4⟩ = firstTo (i.val + 1) := by
  unfold MapV.put firstTo
  congr 1
  funext j
  by_cases h : j = i
  · subst h
    simp
  · have : j.val ≠ i.val := fun e => h (Fin.ext e)
    by_cases h2 : j.val < i.val
    · simp [h, h2, show j.val < i.val + 1 by omega]
    · simp [h, h2, show ¬ j.val < i.val + 1 by omega]

theorem firstTo_0 : firstTo 0 = { zeroM with epoch := 1 } := by
  unfold firstTo zeroM
  simp

theorem Has.put3 {w : World} {g : Nat} {t : TypeId} {m : MapV} (h : Has w g t (mapC m)) (i : Fin 5) (u : Bool) (n : Int) (k : Nat) :
    Has (((w.setCell ⟨g, 1 + i.val * 3, none⟩ (.bool u)).setCell ⟨g, 1 + i.val * 3 + 1, none⟩ (.int .i64 n)).setCell ⟨g, 1 + i.val * 3 + 2, none⟩ (.int .u8 k)) g t (mapC (m.put i ⟨u, n, k⟩)) := by
  have h1 := h.set (1 + i.val * 3) (.bool u)
  rw [mapC_setUp] at h1
  have h2 := h1.set (1 + i.val * 3 + 1) (.int .i64 n)
  rw [mapC_setWt] at h2
  have h3 := h2.set (1 + i.val * 3 + 2) (.int .u8 k)
  rw [mapC_setHost] at h3
  simp only [MapV.put_put, MapV.put_at] at h3
  exact h3

theorem build_first {ops : Array Oper} {rest : List Oper} {o : Oper} {a : Act} {w : World} {Q : Exit → Act → World → Prop} (hw : Region.wanted o (yielded ops a.tmps) = true) (ho : o.op = .build 106 #[(0, .const (.int .u32 1))])
    (h : wpList Try.prog ops Q rest (a.put o.dst (.agg (mapC (firstTo 0)))) w) : wpList Try.prog ops Q (o :: rest) a w :=
  wpList_build_has hw 106 _ ho (mapC (firstTo 0)) (by
    have h : Try.prog.built 106 [(0, .int .u32 1)] = some (mapC { zeroM with epoch := 1 }) := by kernel_rfl
    rw [firstTo_0]
    simp only [List.map_toArray, List.map_cons, List.map_nil, BigFrame.eval_const]
    exact h) h

set_option maxRecDepth 100000 in
set_option maxHeartbeats 1000000 in
theorem reffirst_any (w : World) :
    Calls Try.prog 63 #[] w fun e w' => e = .returned (.agg (mapC firstM)) ∧ Below w.heap.size w w' := by
  have hA : Has ((w.alloc (.cells (mapC zeroM) 106)).alloc (.cells (mapC zeroM) 106)) (w.heap.size + 1) 106 (mapC zeroM) := by
    have := Has.new (w.alloc (.cells (mapC zeroM) 106)) 106 (mapC zeroM)
    simpa using this
  have hR : Has ((w.alloc (.cells (mapC zeroM) 106)).alloc (.cells (mapC zeroM) 106)) w.heap.size 106 (mapC zeroM) := (Has.new _ _ _).alloc _
  have hb : Below w.heap.size w ((w.alloc (.cells (mapC zeroM) 106)).alloc (.cells (mapC zeroM) 106)) := ((Below.refl _ _).alloc (Nat.le_refl _) _).alloc (by simp) _
  go_enter Try.func63, Try.ntmps63
  go_wp2_with (first
    | (refine alloc_map (by rfl) rfl ?_)
    | (refine build_first (by rfl) rfl ?_)
    | (refine store_map _ zeroM (by rfl) _ _ rfl _ rfl rfl (Has.new _ _ _) ?_))
  have hA1 := hA.row (mapC (firstTo 0))
  have hR1 := hR.row_other (k := w.heap.size + 1) (by omega) (mapC (firstTo 0))
  have hb1 := below_setRow (g := w.heap.size + 1) hb (by omega) (mapC (firstTo 0))
  clear hA hR hb
  generalize ((w.alloc (.cells (mapC zeroM) 106)).alloc (.cells (mapC zeroM) 106)).setRow (w.heap.size + 1) (mapC (firstTo 0)) = w1 at *
  go_loopw [2] (fun i wr => ∃ n : Nat, n ≤ 5 ∧ i = .int .i64 n ∧ Has wr (w.heap.size + 1) 106 (mapC (firstTo n)) ∧ Has wr w.heap.size 106 (mapC zeroM) ∧ Below w.heap.size w wr) (fun i _ => (5 - intOf i).toNat)
  case atStart => exact ⟨0, by decide, rfl, hA1, hR1, hb1⟩
  case round =>
    obtain ⟨n, hn, rfl, hA2, hR2, hb2⟩ := hrel
    by_cases hlt : n < 5
    · have c0 := hA2.cell (1 + n * 3)
      have c1 := hA2.cell (1 + n * 3 + 1)
      have c2 := hA2.cell (1 + n * 3 + 2)
      rw [mapC_up _ ⟨n, hlt⟩] at c0
      rw [mapC_wt _ ⟨n, hlt⟩] at c1
      rw [mapC_host _ ⟨n, hlt⟩] at c2
      have f0 := hA2.free
      have hA3 := hA2.put3 ⟨n, hlt⟩ true 8 (n % 4)
      rw [firstTo_succ ⟨n, hlt⟩] at hA3
      go_wp2
      go_roundw
      case rel => exact ⟨n + 1, by omega, by go_num, hA3, ((hR2.set_other (by simp) _).set_other (by simp) _).set_other (by simp) _, ((hb2.setCell (by simp) _).setCell (by simp) _).setCell (by simp) _⟩
      case measure => simp [intOf]; omega
    · have e5 : n = 5 := by omega
      subst e5
      rw [firstTo_5] at hA2
      go_wp2_with (first
        | (refine load_map _ (by rfl) _ rfl _ rfl hA2 ?_)
        | (refine store_map _ zeroM (by rfl) _ _ rfl _ rfl rfl hR2 ?_))
      exact ret_map _ rfl _ rfl (hR2.row _) rfl ⟨rfl, below_setRow hb2 (Nat.le_refl _) _⟩
end Go.Proofs.Ytlbokkbngbpmiaa

/- MapsFirst: The contract of maps.First. -/
namespace Go.Proofs.Ytlbokkbngbpmiaa
set_option linter.unusedSimpArgs false
set_option linter.unusedVariables false
open Go.RowKit

set_option maxRecDepth 100000 in
set_option maxHeartbeats 1000000 in
theorem first_any (w : World) :
    Calls Try.prog 49 #[] w fun e w' => e = .returned (.agg (mapC firstM)) ∧ Below w.heap.size w w' := by
  have hA : Has ((w.alloc (.cells (mapC zeroM) 106)).alloc (.cells (mapC zeroM) 106)) (w.heap.size + 1) 106 (mapC zeroM) := by
    have := Has.new (w.alloc (.cells (mapC zeroM) 106)) 106 (mapC zeroM)
    simpa using this
  have hR : Has ((w.alloc (.cells (mapC zeroM) 106)).alloc (.cells (mapC zeroM) 106)) w.heap.size 106 (mapC zeroM) := (Has.new _ _ _).alloc _
  have hb : Below w.heap.size w ((w.alloc (.cells (mapC zeroM) 106)).alloc (.cells (mapC zeroM) 106)) := ((Below.refl _ _).alloc (Nat.le_refl _) _).alloc (by simp) _
  go_enter Try.func49, Try.ntmps49
  go_wp2_with (first
    | (refine alloc_map (by rfl) rfl ?_)
    | (refine build_first (by rfl) rfl ?_)
    | (refine store_map _ zeroM (by rfl) _ _ rfl _ rfl rfl (Has.new _ _ _) ?_))
  have hA1 := hA.row (mapC (firstTo 0))
  have hR1 := hR.row_other (k := w.heap.size + 1) (by omega) (mapC (firstTo 0))
  have hb1 := below_setRow (g := w.heap.size + 1) hb (by omega) (mapC (firstTo 0))
  clear hA hR hb
  generalize ((w.alloc (.cells (mapC zeroM) 106)).alloc (.cells (mapC zeroM) 106)).setRow (w.heap.size + 1) (mapC (firstTo 0)) = w1 at *
  go_loopw [4] (fun i wr => ∃ n : Nat, n ≤ 5 ∧ i = .int .i64 n ∧ Has wr (w.heap.size + 1) 106 (mapC (firstTo n)) ∧ Has wr w.heap.size 106 (mapC zeroM) ∧ Below w.heap.size w wr) (fun i _ => (5 - intOf i).toNat)
  case atStart => exact ⟨0, by decide, rfl, hA1, hR1, hb1⟩
  case round =>
    obtain ⟨n, hn, rfl, hA2, hR2, hb2⟩ := hrel
    by_cases hlt : n < 5
    · have c0 := hA2.cell (1 + n * 3)
      have c1 := hA2.cell (1 + n * 3 + 1)
      have c2 := hA2.cell (1 + n * 3 + 2)
      rw [mapC_up _ ⟨n, hlt⟩] at c0
      rw [mapC_wt _ ⟨n, hlt⟩] at c1
      rw [mapC_host _ ⟨n, hlt⟩] at c2
      have f0 := hA2.free
      have hA3 := hA2.put3 ⟨n, hlt⟩ true 8 (n % 4)
      rw [firstTo_succ ⟨n, hlt⟩] at hA3
      go_wp2
      go_roundw
      case rel => exact ⟨n + 1, by omega, by go_num, hA3, ((hR2.set_other (by simp) _).set_other (by simp) _).set_other (by simp) _, ((hb2.setCell (by simp) _).setCell (by simp) _).setCell (by simp) _⟩
      case measure => simp [intOf]; omega
    · have e5 : n = 5 := by omega
      subst e5
      rw [firstTo_5] at hA2
      go_wp2_with (first
        | (refine load_map _ (by rfl) _ rfl _ rfl hA2 ?_)
        | (refine store_map _ zeroM (by rfl) _ _ rfl _ rfl rfl hR2 ?_))
      exact ret_map _ rfl _ rfl (hR2.row _) rfl ⟨rfl, below_setRow hb2 (Nat.le_refl _) _⟩
end Go.Proofs.Ytlbokkbngbpmiaa

/- Those: The contracts of maps.In and maps.Up, by that of maps.those. -/
namespace Go.Proofs.Ytlbokkbngbpmiaa
set_option linter.unusedSimpArgs false
set_option linter.unusedVariables false
open Go.RowKit

theorem Try.infoInt : (Try.prog.info? 3).map (fun i => (i.zero, i.size, i.bytes)) = some (some (.int .i64 0), 1, 8) := by kernel_rfl

/-- What is picked of the first daemons. -/
def pickN (p : OsdV → Bool) (m : MapV) : Nat → List Int
  | 0 => []
  | n + 1 => pickN p m n ++ (if h : n < 5 then (if p (m.osd ⟨n, h⟩) then [(n : Int)] else []) else [])

theorem pickN_yes {p : OsdV → Bool} {m : MapV} {n : Nat} (h : n < 5) (hp : p (m.osd ⟨n, h⟩) = true) : pickN p m (n + 1) = pickN p m n ++ [(n : Int)] := by
  show pickN p m n ++ _ = _
  rw [dif_pos h, hp]
  rfl

theorem pickN_no {p : OsdV → Bool} {m : MapV} {n : Nat} (h : n < 5) (hp : p (m.osd ⟨n, h⟩) = false) : pickN p m (n + 1) = pickN p m n := by
  show pickN p m n ++ _ = _
  rw [dif_pos h, hp]
  exact List.append_nil _

theorem pickN_5 (p : OsdV → Bool) (m : MapV) : pickN p m 5 = pickL p m := by
  have h0 : ∀ n (h : n < 5), pickN p m (n + 1) = pickN p m n ++ (if p (m.osd ⟨n, h⟩) then [(n : Int)] else []) := fun n h => by
    show pickN p m n ++ _ = _
    rw [dif_pos h]
  rw [h0 4 (by decide), h0 3 (by decide), h0 2 (by decide), h0 1 (by decide), h0 0 (by decide)]
  unfold pickL
  have e : List.finRange 5 = [0, 1, 2, 3, 4] := rfl
  rw [e]
  have f0 : m.osd ⟨0, by decide⟩ = m.osd 0 := rfl
  have f1 : m.osd ⟨1, by decide⟩ = m.osd 1 := rfl
  have f2 : m.osd ⟨2, by decide⟩ = m.osd 2 := rfl
  have f3 : m.osd ⟨3, by decide⟩ = m.osd 3 := rfl
  have f4 : m.osd ⟨4, by decide⟩ = m.osd 4 := rfl
  rw [f0, f1, f2, f3, f4]
  simp only [List.filter_cons, List.filter_nil]
  cases p (m.osd 0) <;> cases p (m.osd 1) <;> cases p (m.osd 2) <;> cases p (m.osd 3) <;> cases p (m.osd 4) <;> rfl

theorem pickN_len (p : OsdV → Bool) (m : MapV) (n : Nat) : (pickN p m n).length ≤ n := by
  induction n with
  | zero => exact Nat.le_refl _
  | succ n ih =>
    show (pickN p m n ++ _).length ≤ _
    rw [List.length_append]
    split
    · split
      · simp; omega
      · simp; omega
    · simp; omega

def intsC (xs : List Int) : List Value := xs.map fun x => .int .i64 x

/-- A row of one's own, as a slice of int. -/
theorem ix_own {w : World} {base n : Nat} {v : Value} {xs : List Int} (h : w.ownsRow base 3 1 v n (intsC xs)) : n = xs.length ∧ ∃ ao c, v = .slice ao n c ∧ Ix w ao c xs := by
  have hl : n = xs.length := by
    have := h.1
    unfold intsC at this
    rw [List.length_map] at this
    omega
  refine ⟨hl, ?_⟩
  rcases h.2 with ⟨hv, h0⟩ | ⟨g, cap, cur, hv, hg, hc, hle, hm, hr⟩
  · have : xs = [] := List.eq_nil_of_length_eq_zero (by omega)
    subst this
    exact ⟨none, 0, by rw [hv, h0], Ix.nothing _⟩
  · refine ⟨some ⟨g, 0, none⟩, cap, hv, ⟨by omega, hm, (fun h => by cases h), fun ad had j hj => ?_⟩⟩
    obtain rfl := Option.some.inj had
    have hf : (intsC xs)[j]? = some (.int .i64 xs[j]) := by
      unfold intsC
      rw [List.getElem?_map, List.getElem?_eq_getElem hj]
      rfl
    exact h.cells (g := g) (by rw [hv]; rfl) j _ hf

theorem own_below {w w' : World} {base n sz : Nat} {e : TypeId} {v : Value} {xs : List Value} (h : w.ownsRow base e sz v n xs) (hb : Below w.heap.size w w') : w'.ownsRow base e sz v n xs := by
  refine ⟨h.1, ?_⟩
  rcases h.2 with h | ⟨g, cap, cur, hv, hg, hc, hr⟩
  · exact .inl h
  · refine .inr ⟨g, cap, cur, hv, hg, ?_, hr⟩
    rw [hb.block g (Array.getElem?_eq_some_iff.1 hc).1]
    exact hc

set_option maxRecDepth 100000 in
theorem in1_any (o : OsdV) (w : World) (h : -9223372036854775808 ≤ o.wt ∧ o.wt ≤ 9223372036854775807) :
    Calls Try.prog 99 #[.agg (osdC o)] w fun e w' => e = .returned (.bool (decide (0 < o.wt))) ∧ Below w.heap.size w w' := by
  have c1 : (osdC o)[1]? = some (.int .i64 o.wt) := rfl
  have hb := (Below.refl w.heap.size w).alloc (Nat.le_refl _) (.cells (osdC o) 103)
  go_enter Try.func99, Try.ntmps99
  go_wp2
  all_goals
    go_ret
    exact ⟨rfl, hb⟩

set_option maxRecDepth 100000 in
set_option maxHeartbeats 1000000 in
theorem those_any (p : OsdV → Bool) (f : FuncId) (hf : f = 99) (m : MapV) (w : World) (hm : MapOk m) (hp : ∀ (i : Fin 5) (w : World), Calls Try.prog f #[.agg (osdC (m.osd i))] w fun e w' => e = .returned (.bool (p (m.osd i))) ∧ Below w.heap.size w w') :
    Calls Try.prog 98 #[.agg (mapC m), .func (.func f) #[] #[]] w fun e w' => ∃ ao c, e = .returned (.slice ao (pickL p m).length c) ∧ Ix w' ao c (pickL p m) ∧ Below w.heap.size w w' := by
  obtain ⟨i0, hi, hz0, hz1, hz2⟩ := info_parts Try.infoInt
  have hM0 := Has.new w 106 (mapC m)
  have hb0 := (Below.refl w.heap.size w).alloc (Nat.le_refl _) (.cells (mapC m) 106)
  go_enter Try.func98, Try.ntmps98
  go_wp2_with (first
    | (refine load_osds m (by rfl) _ rfl _ rfl hM0 ?_; generalize w.alloc (.cells (mapC m) 106) = w1 at *))
  go_loopw [5, 10] (fun v i wr => ∃ n : Nat, n ≤ 5 ∧ i = .int .i64 n ∧ wr.ownsRow w.heap.size 3 1 v (pickN p m n).length (intsC (pickN p m n)) ∧ Below w.heap.size w wr) (fun _ i _ => (5 - intOf i).toNat)
  case atStart => exact ⟨0, by decide, rfl, World.ownsRow_nil _ _ _ _, hb0⟩
  case round =>
    obtain ⟨n, hn, rfl, hown, hb⟩ := hrel
    by_cases hlt : n < 5
    · have hO1 := (Has.new wr 103 (osdC ⟨false, 0, 0⟩)).row (osdC (m.osd ⟨n, hlt⟩))
      have hbb := below_setRow ((Below.refl wr.heap.size wr).alloc (Nat.le_refl _) (.cells (osdC ⟨false, 0, 0⟩) 103)) (Nat.le_refl _) (osdC (m.osd ⟨n, hlt⟩))
      have hb1 := hb.trans (hbb.mono hb.size)
      have hlenN := pickN_len p m n
      go_wp2_with (first
        | (refine index_osd m n hlt (by rfl) _ _ rfl rfl rfl ?_)
        | (refine alloc_osd (by rfl) rfl ?_)
        | (refine store_osd _ _ (by rfl) _ _ rfl _ rfl rfl (Has.new _ _ _) ?_; generalize (wr.alloc (.cells (osdC ⟨false, 0, 0⟩) 103)).setRow wr.heap.size (osdC (m.osd ⟨n, hlt⟩)) = w3 at *)
        | (refine load_osd _ (by rfl) _ rfl _ rfl hO1 ?_))
      subst hf
      all_goals go_wp2_with fail
      all_goals
        refine (hp ⟨n, hlt⟩ _).mono ?_
        rintro e w4 ⟨rfl, hb4⟩
        replace hbb := hbb.trans (hb4.mono hbb.size)
        replace hb1 := hb1.trans (hb4.mono hb1.size)
        have hown4 := own_below hown hbb
        clear hb4 hbb hown hO1 hb
        cases hpn : p (m.osd ⟨n, hlt⟩) with
        | false =>
          go_wp2
          go_roundw
          case rel => exact ⟨n + 1, by omega, by go_num, by rw [pickN_no hlt hpn]; exact hown4, hb1⟩
          case measure => simp [intOf]; omega
        | true =>
          go_wp2_with (at_builtin; refine wpList_append_own _ rfl _ _ 22 rfl w.heap.size 3 i0 (.int .i64 0) 1 8 Try.underlying22 hi hz0 hz1 hz2 rfl (by decide) _ (pickN p m n).length _ rfl (hown4.alloc _) ⟨w4.heap.size, 0, none⟩ 1 1 [.int .i64 n] rfl rfl ?c1 ?c2 (by unfold maxLen; omega) (by omega) (by have := hb1.size; simp; omega) ?_)
          case c1 =>
            intro j u hj
            match j, hj with
            | 0, hj => simp at hj; subst hj; simp [Addr.add]
          case c2 => intro u hu; simp at hu; rcases hu with rfl; rfl
          intro v' w5 hown5 hgrow _
          have hb5 : Below w.heap.size w w5 := (hb1.alloc hb1.size _).grown hgrow (by have := hb1.size; simp; omega) (fun k hk => (hown4.lt k hk).1)
          have hown6 : w5.ownsRow w.heap.size 3 1 v' (pickN p m (n + 1)).length (intsC (pickN p m (n + 1))) := by
            rw [pickN_yes hlt hpn]
            unfold intsC at hown5 ⊢
            rw [List.length_append, List.map_append]
            exact hown5
          clear hown4 hown5 hgrow hb1
          go_wp2
          go_roundw
          case rel => exact ⟨n + 1, by omega, by go_num, hown6, hb5⟩
          case measure => simp [intOf]; omega
    · have e5 : n = 5 := by omega
      subst e5
      rw [pickN_5] at hown
      obtain ⟨_, ao, c, rfl, hIx⟩ := ix_own hown
      go_wp2
      go_ret
      exact ⟨ao, c, rfl, hIx, hb⟩
set_option maxRecDepth 100000 in
theorem in_any (m : MapV) (w : World) (hm : MapOk m) :
    Calls Try.prog 90 #[.agg (mapC m)] w fun e w' => ∃ ao c, e = .returned (.slice ao (inL m).length c) ∧ Ix w' ao c (inL m) ∧ Below w.heap.size w w' := by
  have hH := Has.new w 106 (mapC m)
  have hb := (Below.refl w.heap.size w).alloc (Nat.le_refl _) (.cells (mapC m) 106)
  go_enter Try.func90, Try.ntmps90
  go_wp2_with (first
    | (refine load_map _ (by rfl) _ rfl _ rfl hH ?_))
  refine (those_any (fun o => decide (0 < o.wt)) 99 rfl m _ hm (fun i w => in1_any _ w (hm.wt i))).mono ?_
  rintro e w1 ⟨ao, c, rfl, hIx, hb1⟩
  go_wp2
  go_ret
  exact ⟨ao, c, rfl, hIx, hb.trans (hb1.mono hb.size)⟩

end Go.Proofs.Ytlbokkbngbpmiaa

/- FoldMath: Folds of one increment, again and again. -/
namespace Go.Proofs.Ytlbokkbngbpmiaa
set_option linter.unusedSimpArgs false
set_option linter.unusedVariables false

theorem okA_not {m : MapV} {x : IncV} (h : isM m = false ∨ isInc x = false ∨ 60 ≤ m.epoch) : okA m x = false ∧ applyM m x = zeroM := by
  have : okA m x = false := by
    unfold okA
    rcases h with h | h | h
    · rw [h]; rfl
    · rw [h, Bool.and_false]; rfl
    · rw [decide_eq_false (by omega), Bool.and_false]
  exact ⟨this, by unfold applyM; rw [this]; rfl⟩

theorem okA_yes {m : MapV} {x : IncV} (h1 : isM m = true) (h2 : isInc x = true) (h3 : m.epoch < 60) : okA m x = true ∧ applyM m x = nextM m x := by
  have : okA m x = true := by
    unfold okA
    rw [h1, h2, decide_eq_true h3]
    rfl
  exact ⟨this, by unfold applyM; rw [this]; rfl⟩

theorem osdOk_turn {x : IncV} {o : OsdV} (hx : isInc x = true) (h : osdOk o = true) : osdOk (turn x o) = true := by
  obtain ⟨k, p, n⟩ := x
  rw [isInc_of, decide_eq_true_iff] at hx
  rw [osdOk_is] at h ⊢
  unfold turn
  simp only
  split
  · exact h
  · split
    · exact h
    · split
      · exact ⟨by show 0 ≤ n; omega, by show n ≤ 16; omega, h.2.2⟩
      · exact h

theorem isM_is (m : MapV) : isM m = true ↔ (1 ≤ m.epoch ∧ m.epoch ≤ 60) ∧ ∀ i, osdOk (m.osd i) = true := by
  unfold isM
  simp only [Bool.and_eq_true, decide_eq_true_iff]
  constructor
  · rintro ⟨he, ⟨⟨⟨h0, h1⟩, h2⟩, h3⟩, h4⟩
    refine ⟨he, fun i => ?_⟩
    match i with
    | 0 => exact h0
    | 1 => exact h1
    | 2 => exact h2
    | 3 => exact h3
    | 4 => exact h4
  · rintro ⟨he, h⟩
    exact ⟨he, ⟨⟨⟨h 0, h 1⟩, h 2⟩, h 3⟩, h 4⟩

theorem isM_next {m : MapV} {x : IncV} (hm : isM m = true) (hx : isInc x = true) (he : m.epoch < 60) : isM (nextM m x) = true := by
  rw [isM_is] at hm ⊢
  refine ⟨⟨show 1 ≤ m.epoch + 1 by omega, show m.epoch + 1 ≤ 60 by omega⟩, fun i => ?_⟩
  show osdOk (if i.val = x.osd then turn x (m.osd i) else m.osd i) = true
  split
  · exact osdOk_turn hx (hm.2 i)
  · exact hm.2 i

theorem okA_is (m : MapV) (x : IncV) : okA m x = true ↔ isM m = true ∧ isInc x = true ∧ m.epoch < 60 := by
  unfold okA
  simp only [Bool.and_eq_true, decide_eq_true_iff, and_assoc]

theorem fold_rep {x : IncV} (hx : isInc x = true) (hk : IncOk x) (n : Nat) : ∀ m : MapV, isM m = true → MapOk m →
    (m.epoch + n ≤ 60 → (foldFrom m (List.replicate n x)).2 = true ∧ isM (foldFrom m (List.replicate n x)).1 = true ∧ (foldFrom m (List.replicate n x)).1.epoch = m.epoch + n ∧ MapOk (foldFrom m (List.replicate n x)).1) ∧
    (60 < m.epoch + n → (foldFrom m (List.replicate n x)).2 = false) := by
  induction n with
  | zero =>
    intro m hm ho
    refine ⟨fun _ => ⟨rfl, hm, rfl, ho⟩, fun h => ?_⟩
    have := ((isM_is m).1 hm).1
    omega
  | succ n ih =>
    intro m hm ho
    have e : List.replicate (n + 1) x = x :: List.replicate n x := rfl
    rw [e]
    show (m.epoch + (n + 1) ≤ 60 → (if okA m x then foldFrom (nextM m x) (List.replicate n x) else (zeroM, false)).2 = true ∧ isM (if okA m x then foldFrom (nextM m x) (List.replicate n x) else (zeroM, false)).1 = true ∧
      (if okA m x then foldFrom (nextM m x) (List.replicate n x) else (zeroM, false)).1.epoch = m.epoch + (n + 1) ∧ MapOk (if okA m x then foldFrom (nextM m x) (List.replicate n x) else (zeroM, false)).1) ∧
      (60 < m.epoch + (n + 1) → (if okA m x then foldFrom (nextM m x) (List.replicate n x) else (zeroM, false)).2 = false)
    by_cases h : m.epoch < 60
    · rw [if_pos ((okA_is m x).2 ⟨hm, hx, h⟩)]
      have := ih (nextM m x) (isM_next hm hx h) (next_ok ho hk h)
      have e2 : (nextM m x).epoch = m.epoch + 1 := rfl
      rw [e2] at this
      refine ⟨fun hle => ?_, fun hlt => this.2 (by omega)⟩
      obtain ⟨a, b, c, d⟩ := this.1 (by omega)
      exact ⟨a, b, by rw [c]; omega, d⟩
    · have hno : okA m x = false := by
        rw [← Bool.not_eq_true, okA_is]
        exact fun hh => h hh.2.2
      rw [hno]
      exact ⟨fun hle => absurd hle (by omega), fun _ => rfl⟩
end Go.Proofs.Ytlbokkbngbpmiaa

/- MapsApply: The contract of maps.Apply. -/
namespace Go.Proofs.Ytlbokkbngbpmiaa
set_option linter.unusedSimpArgs false
set_option linter.unusedVariables false
open Go.RowKit

set_option maxRecDepth 100000 in
set_option maxHeartbeats 1000000 in
theorem apply_any (m : MapV) (x : IncV) (w : World) (hm : MapOk m) (hx : IncOk x) :
    Calls Try.prog 51 #[.agg (mapC m), .agg (incC x)] w fun e w' => e = .returned (.tuple #[.agg (mapC (applyM m x)), .int .i64 (errI (okA m x))]) ∧ Below w.heap.size w w' := by
  have hH1 : ∀ o1 o2, Has (((w.alloc (.cells (mapC m) 106)).alloc o1).alloc o2) w.heap.size 106 (mapC m) := fun o1 o2 => ((Has.new _ _ _).alloc o1).alloc o2
  have hH2 : Has (((w.alloc (.cells (mapC m) 106)).alloc (.cells (incC x) 73)).alloc (.cells (mapC zeroM) 106)) (w.heap.size + 1) 73 (incC x) := by
    have := (Has.new (w.alloc (.cells (mapC m) 106)) 73 (incC x)).alloc (.cells (mapC zeroM) 106)
    simpa using this
  have hH3 : Has (((w.alloc (.cells (mapC m) 106)).alloc (.cells (incC x) 73)).alloc (.cells (mapC zeroM) 106)) (w.heap.size + 1 + 1) 106 (mapC zeroM) := by
    have := Has.new ((w.alloc (.cells (mapC m) 106)).alloc (.cells (incC x) 73)) 106 (mapC zeroM)
    simpa using this
  have hbw : Below w.heap.size w (((w.alloc (.cells (mapC m) 106)).alloc (.cells (incC x) 73)).alloc (.cells (mapC zeroM) 106)) := (((Below.refl _ _).alloc (Nat.le_refl _) _).alloc (by simp) _).alloc (by simp; omega) _
  go_enter Try.func51, Try.ntmps51
  go_wp2_with (first
    | (refine alloc_map (by rfl) rfl ?_)
    | (refine load_map m (by rfl) _ rfl _ rfl (hH1 _ _) ?_))
  refine (is_any m _ hm).mono ?_
  rintro e w2 ⟨rfl, hb2⟩
  have h1 := (hH1 _ _).later hb2
  have h2 := hH2.later hb2
  have h3 := hH3.later hb2
  replace hbw := hbw.trans (hb2.mono hbw.size)
  clear hH1 hH2 hH3 hb2
  cases hI : isM m with
  | false =>
    obtain ⟨e1, e2⟩ := okA_not (x := x) (.inl hI)
    go_wp2_with (first
      | (refine build_map0 (by rfl) rfl ?_)
      | (refine store_map zeroM zeroM (by rfl) _ _ rfl _ rfl rfl h3 ?_))
    exact ret_map_tmp zeroM rfl _ rfl (h3.row _) rfl ⟨by rw [e1, e2]; rfl, below_setRow hbw (by omega) _⟩
  | true =>
    go_wp2_with (first
      | (refine load_inc x (by rfl) _ rfl _ rfl h2 ?_))
    refine (isinc_any x _ hx).mono ?_
    rintro e w3 ⟨rfl, hb3⟩
    replace h1 := h1.later hb3
    replace h2 := h2.later hb3
    replace h3 := h3.later hb3
    replace hbw := hbw.trans (hb3.mono hbw.size)
    clear hb3
    cases hJ : isInc x with
    | false =>
      obtain ⟨e1, e2⟩ := okA_not (m := m) (.inr (.inl hJ))
      go_wp2_with (first
        | (refine build_map0 (by rfl) rfl ?_)
        | (refine store_map zeroM zeroM (by rfl) _ _ rfl _ rfl rfl h3 ?_))
      exact ret_map_tmp zeroM rfl _ rfl (h3.row _) rfl ⟨by rw [e1, e2]; rfl, below_setRow hbw (by omega) _⟩
    | true =>
      have c0 := h1.cell 0
      rw [mapC_epoch] at c0
      have hle := ((isM_is m).1 hI).1
      by_cases he : m.epoch = 60
      · obtain ⟨e1, e2⟩ := okA_not (m := m) (x := x) (.inr (.inr (by omega)))
        rw [he] at c0
        go_wp2_with (first
          | (refine build_map0 (by rfl) rfl ?_)
          | (refine store_map zeroM zeroM (by rfl) _ _ rfl _ rfl rfl h3 ?_))
        exact ret_map_tmp zeroM rfl _ rfl (h3.row _) rfl ⟨by rw [e1, e2]; rfl, below_setRow hbw (by omega) _⟩
      · obtain ⟨e1, e2⟩ := okA_yes hI hJ (show m.epoch < 60 by omega)
        have he' : ((m.epoch : Int) == 60) = false := by rw [beq_eq_false_iff_ne]; omega
        have he2 : (m.epoch == 60) = false := by rw [beq_eq_false_iff_ne]; omega
        have f0 := h1.free
        have hN := h1.set 0 (.int .u32 ((m.epoch + 1 : Nat) : Int))
        rw [mapC_setEpoch] at hN
        have hcast : ((m.epoch + 1 : Nat) : Int) = (m.epoch : Int) + 1 := rfl
        rw [hcast] at hN
        obtain ⟨k, o, n⟩ := x
        obtain ⟨d0, d1, d2⟩ := inc_cells h2
        rw [isInc_of, decide_eq_true_iff] at hJ
        have ho : o < 5 := by omega
        have cu := h1.cell (1 + o * 3)
        have cw := h1.cell (1 + o * 3 + 1)
        rw [mapC_up m ⟨o, ho⟩] at cu
        rw [mapC_wt m ⟨o, ho⟩] at cw
        clear h1 h2 hcast
        by_cases k1 : k = 1
        · subst k1
          have hN1 := hN.set (1 + o * 3) (.bool true)
          rw [mapC_setUp _ ⟨o, ho⟩] at hN1
          have hS := h3.set_other (a := ⟨w.heap.size, 0, none⟩) (by simp; omega) (.int .u32 ((m.epoch : Int) + 1))
          replace hS := hS.set_other (a := ⟨w.heap.size, 1 + o * 3, none⟩) (by simp; omega) (.bool true)
          go_wp2_with (first
            | (refine load_map _ (by rfl) _ rfl _ rfl hN1 ?_)
            | (refine store_map _ zeroM (by rfl) _ _ rfl _ rfl rfl hS ?_))
          exact ret_map_tmp _ rfl _ rfl (hS.row _) rfl ⟨by rw [e1, e2, next_at m _ ⟨o, ho⟩ rfl]; rfl, below_setRow ((hbw.setCell (Nat.le_refl _) _).setCell (Nat.le_refl _) _) (by omega) _⟩
        · by_cases k2 : k = 2
          · subst k2
            have hN1 := hN.set (1 + o * 3) (.bool false)
            rw [mapC_setUp _ ⟨o, ho⟩] at hN1
            have hS := h3.set_other (a := ⟨w.heap.size, 0, none⟩) (by simp; omega) (.int .u32 ((m.epoch : Int) + 1))
            replace hS := hS.set_other (a := ⟨w.heap.size, 1 + o * 3, none⟩) (by simp; omega) (.bool false)
            go_wp2_with (first
              | (refine load_map _ (by rfl) _ rfl _ rfl hN1 ?_)
              | (refine store_map _ zeroM (by rfl) _ _ rfl _ rfl rfl hS ?_))
            exact ret_map_tmp _ rfl _ rfl (hS.row _) rfl ⟨by rw [e1, e2, next_at m _ ⟨o, ho⟩ rfl]; rfl, below_setRow ((hbw.setCell (Nat.le_refl _) _).setCell (Nat.le_refl _) _) (by omega) _⟩
          · by_cases k3 : k = 3
            · subst k3
              have hN1 := hN.set (1 + o * 3 + 1) (.int .i64 n)
              rw [mapC_setWt _ ⟨o, ho⟩] at hN1
              have hS := h3.set_other (a := ⟨w.heap.size, 0, none⟩) (by simp; omega) (.int .u32 ((m.epoch : Int) + 1))
              replace hS := hS.set_other (a := ⟨w.heap.size, 1 + o * 3 + 1, none⟩) (by simp; omega) (.int .i64 n)
              go_wp2_with (first
                | (refine load_map _ (by rfl) _ rfl _ rfl hN1 ?_)
                | (refine store_map _ zeroM (by rfl) _ _ rfl _ rfl rfl hS ?_))
              exact ret_map_tmp _ rfl _ rfl (hS.row _) rfl ⟨by rw [e1, e2, next_at m _ ⟨o, ho⟩ rfl]; rfl, below_setRow ((hbw.setCell (Nat.le_refl _) _).setCell (Nat.le_refl _) _) (by omega) _⟩
            · have k4 : k = 4 := by omega
              subst k4
              have hS := h3.set_other (a := ⟨w.heap.size, 0, none⟩) (by simp; omega) (.int .u32 ((m.epoch : Int) + 1))
              go_wp2_with (first
                | (refine load_map _ (by rfl) _ rfl _ rfl hN ?_)
                | (refine store_map _ zeroM (by rfl) _ _ rfl _ rfl rfl hS ?_))
              exact ret_map_tmp _ rfl _ rfl (hS.row _) rfl ⟨by rw [e1, e2, next_none m _ rfl]; rfl, below_setRow (hbw.setCell (Nat.le_refl _) _) (by omega) _⟩
end Go.Proofs.Ytlbokkbngbpmiaa
