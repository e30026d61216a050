/- Ballots and acceptors as mathematics, and as rows of cells. -/
import Derived.Test.YthpmkhbkbpifkaaPackMaps
import Derived.Test.YthpmkhbkbpifkaaHold
namespace Go.Proofs.Ythpmkhbkbpifkaa
set_option linter.unusedSimpArgs false
set_option linter.unusedVariables false
open Go.RowKit

/-- A ballot. -/
structure BalV where
  n : Nat
  who : Nat

/-- What an acceptor keeps. -/
structure AccV where
  pro : BalV
  acc : BalV
  inc : IncV

def bal0 : BalV := ⟨0, 0⟩
def inc0 : IncV := ⟨0, 0, 0⟩
def acc0 : AccV := ⟨bal0, bal0, inc0⟩

def balC (b : BalV) : Array Value := #[.int .u32 b.n, .int .u8 b.who]
def accC (a : AccV) : Array Value := #[.int .u32 a.pro.n, .int .u8 a.pro.who, .int .u32 a.acc.n, .int .u8 a.acc.who, .int .u8 a.inc.kind, .int .u8 a.inc.osd, .int .i64 a.inc.n]

/-- Numbers fit their kinds. -/
structure BalOk (b : BalV) : Prop where
  n : b.n < 4294967296
  who : b.who < 256

structure AccOk (a : AccV) : Prop where
  pro : BalOk a.pro
  acc : BalOk a.acc
  inc : IncOk a.inc

theorem bal0_ok : BalOk bal0 := ⟨by decide, by decide⟩
theorem inc0_ok : IncOk inc0 := ⟨by decide, by decide, by decide, by decide⟩
theorem acc0_ok : AccOk acc0 := ⟨bal0_ok, bal0_ok, inc0_ok⟩

/-- The document's order, and what a ballot is. -/
def lessB (a b : BalV) : Bool := decide (a.n < b.n ∨ (a.n = b.n ∧ a.who < b.who))
def isB (b : BalV) : Bool := decide (0 < b.n ∧ b.who < 3)

theorem lessB_is (a b : BalV) : lessB a b = true ↔ (a.n < b.n ∨ (a.n = b.n ∧ a.who < b.who)) := decide_eq_true_iff
theorem isB_is (b : BalV) : isB b = true ↔ (0 < b.n ∧ b.who < 3) := decide_eq_true_iff

def sameBal (a b : BalV) : Bool := decide (a.n = b.n) && decide (a.who = b.who)
theorem sameBal_is (a b : BalV) : sameBal a b = true ↔ a = b := by
  obtain ⟨n, k⟩ := a
  obtain ⟨n', k'⟩ := b
  unfold sameBal
  simp

/-- Whether anything was accepted. -/
def hasA (a : AccV) : Bool := !sameBal a.acc bal0

/-- The errors, and what comes of Prepare and Accept. -/
def errP (p b : BalV) : Nat := if isB b = true then (if lessB b p = true then 100 else 0) else 10
def errA (p b : BalV) (x : IncV) : Nat := if isInc x = true then errP p b else 10
def prepM (a : AccV) (b : BalV) : AccV := if errP a.pro b = 0 then { a with pro := b } else a
def accM (a : AccV) (b : BalV) (x : IncV) : AccV := if errA a.pro b x = 0 then ⟨b, b, x⟩ else a
def tellB (a : AccV) (b : BalV) : BalV := if errP a.pro b = 0 then a.acc else bal0
def tellX (a : AccV) (b : BalV) : IncV := if errP a.pro b = 0 then a.inc else inc0
def tellH (a : AccV) (b : BalV) : Bool := if errP a.pro b = 0 then hasA a else false

theorem errP_cases (p b : BalV) : (errP p b = 10 ∧ isB b = false) ∨ (errP p b = 100 ∧ isB b = true ∧ lessB b p = true) ∨ (errP p b = 0 ∧ isB b = true ∧ lessB b p = false) := by
  unfold errP
  cases isB b <;> cases lessB b p <;> simp

theorem errA_cases (p b : BalV) (x : IncV) : (errA p b x = 10 ∧ (isInc x = false ∨ isB b = false)) ∨ (errA p b x = 100 ∧ isInc x = true ∧ isB b = true ∧ lessB b p = true) ∨ (errA p b x = 0 ∧ isInc x = true ∧ isB b = true ∧ lessB b p = false) := by
  unfold errA
  rcases errP_cases p b with ⟨h, k⟩ | ⟨h, k, l⟩ | ⟨h, k, l⟩ <;> cases isInc x <;> simp [*]

theorem prepM_ok {a : AccV} {b : BalV} (ha : AccOk a) (hb : BalOk b) : AccOk (prepM a b) := by
  unfold prepM
  split
  · exact ⟨hb, ha.acc, ha.inc⟩
  · exact ha
theorem accM_ok {a : AccV} {b : BalV} {x : IncV} (ha : AccOk a) (hb : BalOk b) (hx : IncOk x) : AccOk (accM a b x) := by
  unfold accM
  split
  · exact ⟨hb, hb, hx⟩
  · exact ha
theorem tellB_ok {a : AccV} {b : BalV} (ha : AccOk a) : BalOk (tellB a b) := by
  unfold tellB
  split
  · exact ha.acc
  · exact bal0_ok
theorem tellX_ok {a : AccV} {b : BalV} (ha : AccOk a) : IncOk (tellX a b) := by
  unfold tellX
  split
  · exact ha.inc
  · exact inc0_ok
end Go.Proofs.Ythpmkhbkbpifkaa
