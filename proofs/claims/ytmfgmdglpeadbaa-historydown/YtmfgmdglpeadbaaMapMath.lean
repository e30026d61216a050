/- Maps and increments as mathematics, and as rows of cells. -/
import Derived.Test.YtmfgmdglpeadbaaMem
namespace Go.Proofs.Ytmfgmdglpeadbaa
set_option linter.unusedSimpArgs false
set_option linter.unusedVariables false
open Go.RowKit

/-- A daemon as a map has it. -/
structure OsdV where
  up : Bool
  wt : Int
  host : Nat

/-- A map. -/
structure MapV where
  epoch : Nat
  osd : Fin 5 → OsdV

/-- An increment. -/
structure IncV where
  kind : Nat
  osd : Nat
  n : Int

def osdL (o : OsdV) : List Value := [.bool o.up, .int .i64 o.wt, .int .u8 o.host]

def mapL (m : MapV) : List Value := .int .u32 m.epoch :: (osdL (m.osd 0) ++ (osdL (m.osd 1) ++ (osdL (m.osd 2) ++ (osdL (m.osd 3) ++ osdL (m.osd 4)))))

def osdC (o : OsdV) : Array Value := (osdL o).toArray

def mapC (m : MapV) : Array Value := (mapL m).toArray

def incC (x : IncV) : Array Value := #[.int .u8 x.kind, .int .u8 x.osd, .int .i64 x.n]

theorem mapL_length (m : MapV) : (mapL m).length = 16 := rfl

theorem mapC_size (m : MapV) : (mapC m).size = 16 := by
  unfold mapC
  rw [List.size_toArray, mapL_length]

/-- The numbers of a map fit their kinds. -/
structure MapOk (m : MapV) : Prop where
  epoch : m.epoch < 4294967296
  wt : ∀ i, -9223372036854775808 ≤ (m.osd i).wt ∧ (m.osd i).wt ≤ 9223372036854775807
  host : ∀ i, (m.osd i).host < 256

structure IncOk (x : IncV) : Prop where
  kind : x.kind < 256
  osd : x.osd < 256
  lo : -9223372036854775808 ≤ x.n
  hi : x.n ≤ 9223372036854775807

theorem mapC_epoch (m : MapV) : (mapC m)[0]? = some (.int .u32 m.epoch) := by
  unfold mapC
  rw [List.getElem?_toArray]
  rfl

theorem mapC_wt (m : MapV) (i : Fin 5) : (mapC m)[1 + i.val * 3 + 1]? = some (.int .i64 (m.osd i).wt) := by
  unfold mapC
  rw [List.getElem?_toArray]
  match i with
  | 0 => rfl
  | 1 => rfl
  | 2 => rfl
  | 3 => rfl
  | 4 => rfl

theorem mapC_up (m : MapV) (i : Fin 5) : (mapC m)[1 + i.val * 3]? = some (.bool (m.osd i).up) := by
  unfold mapC
  rw [List.getElem?_toArray]
  match i with
  | 0 => rfl
  | 1 => rfl
  | 2 => rfl
  | 3 => rfl
  | 4 => rfl

theorem mapC_host (m : MapV) (i : Fin 5) : (mapC m)[1 + i.val * 3 + 2]? = some (.int .u8 (m.osd i).host) := by
  unfold mapC
  rw [List.getElem?_toArray]
  match i with
  | 0 => rfl
  | 1 => rfl
  | 2 => rfl
  | 3 => rfl
  | 4 => rfl

theorem inc_cells {w : World} {g : Nat} {t : TypeId} {k o : Nat} {n : Int} (h : Has w g t (incC ⟨k, o, n⟩)) :
    w.cell? ⟨g, 0, none⟩ = some (.int .u8 k) ∧ w.cell? ⟨g, 1, none⟩ = some (.int .u8 o) ∧ w.cell? ⟨g, 2, none⟩ = some (.int .i64 n) := ⟨h.cell 0, h.cell 1, h.cell 2⟩

theorem mapC_one (m : MapV) : (mapC m).all (·.oneCell') = true := by
  unfold mapC mapL osdL
  simp [Value.oneCell']

def zeroM : MapV := ⟨0, fun _ => ⟨false, 0, 0⟩⟩

/-- A map with another daemon at a place. -/
def MapV.put (m : MapV) (i : Fin 5) (o : OsdV) : MapV := { m with osd := fun j => if j = i then o else m.osd j }

theorem mapC_setEpoch (m : MapV) (e : Nat) : (mapC m).setIfInBounds 0 (.int .u32 e) = mapC { m with epoch := e } := by
  unfold mapC
  rw [List.setIfInBounds_toArray]
  rfl

theorem mapC_setUp (m : MapV) (i : Fin 5) (u : Bool) : (mapC m).setIfInBounds (1 + i.val * 3) (.bool u) = mapC (m.put i { m.osd i with up := u }) := by
  unfold mapC
  rw [List.setIfInBounds_toArray]
  match i with
  | 0 => rfl
  | 1 => rfl
  | 2 => rfl
  | 3 => rfl
  | 4 => rfl

theorem mapC_setWt (m : MapV) (i : Fin 5) (n : Int) : (mapC m).setIfInBounds (1 + i.val * 3 + 1) (.int .i64 n) = mapC (m.put i { m.osd i with wt := n }) := by
  unfold mapC
  rw [List.setIfInBounds_toArray]
  match i with
  | 0 => rfl
  | 1 => rfl
  | 2 => rfl
  | 3 => rfl
  | 4 => rfl

theorem mapC_setHost (m : MapV) (i : Fin 5) (n : Nat) : (mapC m).setIfInBounds (1 + i.val * 3 + 2) (.int .u8 n) = mapC (m.put i { m.osd i with host := n }) := by
  unfold mapC
  rw [List.setIfInBounds_toArray]
  match i with
  | 0 => rfl
  | 1 => rfl
  | 2 => rfl
  | 3 => rfl
  | 4 => rfl

theorem MapV.put_put (m : MapV) (i : Fin 5) (o o' : OsdV) : (m.put i o).put i o' = m.put i o' := by
  unfold MapV.put
  congr 1
  funext j
  by_cases h : j = i <;> simp [h]

theorem MapV.put_at (m : MapV) (i : Fin 5) (o : OsdV) : (m.put i o).osd i = o := by simp [MapV.put]

/-- The document's Is. -/
def osdOk (o : OsdV) : Bool := decide (0 ≤ o.wt ∧ o.wt ≤ 16 ∧ o.host < 8)
def isM (m : MapV) : Bool := decide (1 ≤ m.epoch ∧ m.epoch ≤ 60) && (osdOk (m.osd 0) && osdOk (m.osd 1) && osdOk (m.osd 2) && osdOk (m.osd 3) && osdOk (m.osd 4))

/-- The document's IsInc. -/
def isInc (x : IncV) : Bool := decide (((x.kind = 1 ∨ x.kind = 2) ∧ x.osd < 5 ∧ x.n = 0) ∨ (x.kind = 3 ∧ x.osd < 5 ∧ 0 ≤ x.n ∧ x.n ≤ 16) ∨ (x.kind = 4 ∧ x.osd = 0 ∧ x.n = 0))

theorem isInc_of (k o : Nat) (n : Int) : isInc ⟨k, o, n⟩ = decide (((k = 1 ∨ k = 2) ∧ o < 5 ∧ n = 0) ∨ (k = 3 ∧ o < 5 ∧ 0 ≤ n ∧ n ≤ 16) ∨ (k = 4 ∧ o = 0 ∧ n = 0)) := rfl

/-- Whether Apply tells a map. -/
def okA (m : MapV) (x : IncV) : Bool := isM m && isInc x && decide (m.epoch < 60)

/-- What an increment makes of a daemon. -/
def turn (x : IncV) (o : OsdV) : OsdV := if x.kind = 1 then { o with up := true } else if x.kind = 2 then { o with up := false } else if x.kind = 3 then { o with wt := x.n } else o

/-- The next map. -/
def nextM (m : MapV) (x : IncV) : MapV := ⟨m.epoch + 1, fun j => if j.val = x.osd then turn x (m.osd j) else m.osd j⟩

theorem next_at (m : MapV) (x : IncV) (i : Fin 5) (h : x.osd = i.val) : nextM m x = MapV.put { m with epoch := m.epoch + 1 } i (turn x (m.osd i)) := by
  unfold nextM MapV.put
  congr 1
  funext j
  by_cases e : j = i
  · subst e
    simp [h]
  · have : ¬ j.val = x.osd := fun h' => e (Fin.ext (by omega))
    simp [this, e]

theorem next_none (m : MapV) (x : IncV) (h : x.kind = 4) : nextM m x = { m with epoch := m.epoch + 1 } := by
  unfold nextM turn
  congr 1
  funext j
  simp [h]

theorem turn_ok {x : IncV} {o : OsdV} (hx : IncOk x) (h : (-9223372036854775808 ≤ o.wt ∧ o.wt ≤ 9223372036854775807) ∧ o.host < 256) :
    (-9223372036854775808 ≤ (turn x o).wt ∧ (turn x o).wt ≤ 9223372036854775807) ∧ (turn x o).host < 256 := by
  unfold turn
  split
  · exact h
  · split
    · exact h
    · split
      · exact ⟨⟨hx.lo, hx.hi⟩, h.2⟩
      · exact h

theorem next_ok {m : MapV} {x : IncV} (hm : MapOk m) (hx : IncOk x) (he : m.epoch < 60) : MapOk (nextM m x) := by
  refine ⟨show m.epoch + 1 < 4294967296 by omega, fun i => ?_, fun i => ?_⟩
  · show _ ≤ (if i.val = x.osd then turn x (m.osd i) else m.osd i).wt ∧ (if i.val = x.osd then turn x (m.osd i) else m.osd i).wt ≤ _
    split
    · exact (turn_ok hx ⟨hm.wt i, hm.host i⟩).1
    · exact hm.wt i
  · show (if i.val = x.osd then turn x (m.osd i) else m.osd i).host < 256
    split
    · exact (turn_ok hx ⟨hm.wt i, hm.host i⟩).2
    · exact hm.host i

/-- The document's Apply. -/
def applyM (m : MapV) (x : IncV) : MapV := if okA m x then nextM m x else zeroM

/-- The document's First. -/
def firstM : MapV := ⟨1, fun i => ⟨true, 8, i.val % 4⟩⟩

theorem ret_bool {a b : Bool} (h : a = b) : Ending.returned (.bool a) = .returned (.bool b) := by rw [h]

theorem osdOk_is (o : OsdV) : osdOk o = true ↔ (0 ≤ o.wt ∧ o.wt ≤ 16 ∧ o.host < 8) := by
  unfold osdOk
  exact decide_eq_true_iff

theorem isM_bad {m : MapV} {i : Fin 5} (h : osdOk (m.osd i) = false) : isM m = false := by
  unfold isM
  match i, h with
  | 0, h => rw [h]; simp
  | 1, h => rw [h]; simp
  | 2, h => rw [h]; simp
  | 3, h => rw [h]; simp
  | 4, h => rw [h]; simp

theorem isM_good {m : MapV} (h : ∀ j : Fin 5, osdOk (m.osd j) = true) : isM m = decide (1 ≤ m.epoch ∧ m.epoch ≤ 60) := by
  unfold isM
  rw [h 0, h 1, h 2, h 3, h 4]
  simp
end Go.Proofs.Ytmfgmdglpeadbaa
