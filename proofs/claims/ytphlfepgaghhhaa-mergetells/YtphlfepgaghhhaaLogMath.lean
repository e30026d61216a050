/- Entries and states as mathematics, the cells that they are, and what the document asks of them (layer 7). -/
import Derived.Test.YtphlfepgaghhhaaObjFacts
namespace Go.Proofs.Ytphlfepgaghhhaa
set_option linter.unusedSimpArgs false
set_option linter.unusedVariables false
open Go.RowKit

structure EntV where
  since : Nat
  n : Nat
  op : OpV

structure StV where
  started : Nat
  base : BaseV
  tail : EntV
  log : List EntV

def entL (e : EntV) : List Value := .int .u32 (e.since : Int) :: .int .u32 (e.n : Int) :: opL e.op
def entC (e : EntV) : Array Value := (entL e).toArray
def entR (l : List EntV) : List (List Value) := l.map entL
def stL (s : StV) (ao : Option Addr) (c : Nat) : List Value := .int .u32 (s.started : Int) :: (baseL s.base ++ (entL s.tail ++ [.slice ao s.log.length c]))
def stC (s : StV) (ao : Option Addr) (c : Nat) : Array Value := (stL s ao c).toArray

def ent0 : EntV := ⟨0, 0, op0⟩
def st0 : StV := ⟨0, base0, ent0, []⟩

structure EntOk (e : EntV) : Prop where
  since : e.since < 4294967296
  n : e.n < 4294967296
  op : OpOk e.op

/-- A base of whatever strings. -/
structure BaseIn (b : BaseV) : Prop where
  seq : ∀ i, (b.last i).seq < 4294967296
  code : ∀ i, (b.last i).r.code < 256
  rdata : ∀ i, (b.last i).r.data.length ≤ 9223372036854775807
  data : ∀ i, (b.obj i).data.length ≤ 9223372036854775807
  a0 : ∀ i, (b.obj i).a0.length ≤ 9223372036854775807
  a1 : ∀ i, (b.obj i).a1.length ≤ 9223372036854775807
  a2 : ∀ i, (b.obj i).a2.length ≤ 9223372036854775807

theorem BaseOk.in' {b : BaseV} (h : BaseOk b) : BaseIn b :=
  ⟨h.seq, h.code, h.rdata, fun i => by have := h.data i; omega, fun i => by have := h.a0 i; omega, fun i => by have := h.a1 i; omega, fun i => by have := h.a2 i; omega⟩

structure StOk (s : StV) : Prop where
  started : s.started < 4294967296
  base : BaseIn s.base
  tail : EntOk s.tail
  log : ∀ e ∈ s.log, EntOk e
  len : s.log.length ≤ 1000

/-- P7.1. -/
def isObjM (x : ObjV) : Bool := decide ((x.there = false → x.data = [] ∧ x.a0 = [] ∧ x.a1 = [] ∧ x.a2 = []) ∧ x.data.length ≤ 16 ∧ x.a0.length ≤ 16 ∧ x.a1.length ≤ 16 ∧ x.a2.length ≤ 16)
def isLastM (l : LastV) : Bool := decide (l.r.data = [] ∧ l.r.code ≤ 3 ∧ (l.seq = 0 → l.r.code = 0))
def isBaseM (b : BaseV) : Bool := decide (∀ i : Fin 6, isObjM (b.obj i) = true) && decide (∀ i : Fin 3, isLastM (b.last i) = true)
def isZeroOp (o : OpV) : Bool := decide (o.client = 0 ∧ o.seq = 0 ∧ o.kind = 0 ∧ o.obj = 0 ∧ o.pos = 0 ∧ o.data = [])
def isTailM (t : EntV) : Bool := decide (t.since ≤ 60) && isZeroOp t.op
def followsM (p e : EntV) : Bool := writesM e.op && decide (e.n = p.n + 1 ∧ p.since ≤ e.since ∧ e.since ≤ 60)
def posE (e : EntV) : EntV := ⟨e.since, e.n, op0⟩
def lastE (t : EntV) (l : List EntV) : EntV := match l.getLast? with
  | none => t
  | some e => posE e
def chainM : EntV → List EntV → Bool
  | _, [] => true
  | p, e :: l => followsM p e && chainM (posE e) l
def isLogM (t : EntV) (l : List EntV) : Bool := decide (l.length ≤ 6) && chainM t l
def isM (s : StV) : Bool := decide (s.started ≤ 60) && (isTailM s.tail && (isBaseM s.base && isLogM s.tail s.log))
def headE (s : StV) : EntV := lastE s.tail s.log
def headM (s : StV) : Nat × Nat := if isM s = true then ((headE s).since, (headE s).n) else (0, 0)

/-- P7.2. -/
def doneM (b : BaseV) (l : List EntV) : BaseV := l.foldl (fun b e => (doM b e.op).1) b
def foldK (s : StV) (k : Nat) : StV := ⟨s.started, doneM s.base (s.log.take k), lastE s.tail (s.log.take k), s.log.drop k⟩
def withLog (s : StV) (l : List EntV) : StV := ⟨s.started, s.base, s.tail, l⟩
def canM (s : StV) (e : EntV) : Bool := isM s && followsM (headE s) e
def addM (s : StV) (e : EntV) : StV × Nat := if canM s e = true then (foldK (withLog s (s.log ++ [e])) (s.log.length + 1 - 6), 0) else (st0, 10)
def foldM (s : StV) : BaseV := if isM s = true then doneM s.base s.log else base0
def reachM (s : StV) (n : Nat) : Nat × Nat := if isM s = false then (0, 10) else if n < s.tail.n then (0, 80) else if (headE s).n < n then (0, 141) else (n - s.tail.n, 0)
def uptoM (s : StV) (n : Nat) : BaseV × Bool := if (reachM s n).2 = 0 then (doneM s.base (s.log.take (reachM s n).1), true) else (base0, false)
def cutM (s : StV) (n : Nat) : StV × Nat := if (reachM s n).2 = 0 then (withLog s (s.log.take (reachM s n).1), 0) else if (reachM s n).2 = 80 then (st0, 141) else (st0, (reachM s n).2)
def tailM (s : StV) (n : Nat) : StV × Nat := if (reachM s n).2 = 0 then (foldK s (reachM s n).1, 0) else (st0, (reachM s n).2)
def findM (s : StV) (n : Nat) : EntV × Bool := if (reachM s n).2 = 0 ∧ (reachM s n).1 ≠ 0 then (s.log.getD ((reachM s n).1 - 1) ent0, true) else (ent0, false)

theorem lastE_nil (t : EntV) : lastE t [] = t := rfl
theorem lastE_snoc (t : EntV) (l : List EntV) (e : EntV) : lastE t (l ++ [e]) = posE e := by
  unfold lastE
  rw [List.getLast?_append]
  rfl
theorem lastE_cons (t e : EntV) (l : List EntV) : lastE t (e :: l) = lastE (posE e) l := by
  induction l using snoc_ind with
  | h0 => rfl
  | h1 l x ih => rw [lastE_snoc, ← List.cons_append, lastE_snoc]
theorem chain_snoc (p : EntV) (l : List EntV) (e : EntV) : chainM p (l ++ [e]) = (chainM p l && followsM (lastE p l) e) := by
  induction l generalizing p with
  | nil => show (followsM p e && true) = (true && followsM p e); rw [Bool.and_true, Bool.true_and]
  | cons x l ih =>
    show (followsM p x && chainM (posE x) (l ++ [e])) = (followsM p x && chainM (posE x) l && followsM (lastE p (x :: l)) e)
    rw [ih, lastE_cons, Bool.and_assoc]
theorem lastE_app (t : EntV) (a b : List EntV) : lastE t (a ++ b) = lastE (lastE t a) b := by
  induction b using snoc_ind with
  | h0 => rw [List.append_nil]; rfl
  | h1 b x ih => rw [← List.append_assoc, lastE_snoc, lastE_snoc]
theorem chain_app (p : EntV) (a b : List EntV) : chainM p (a ++ b) = (chainM p a && chainM (lastE p a) b) := by
  induction a generalizing p with
  | nil => rfl
  | cons x a ih =>
    show (followsM p x && chainM (posE x) (a ++ b)) = (followsM p x && chainM (posE x) a && chainM (lastE p (x :: a)) b)
    rw [ih, lastE_cons, Bool.and_assoc]
theorem follows_is {p e : EntV} : followsM p e = true ↔ writesM e.op = true ∧ e.n = p.n + 1 ∧ p.since ≤ e.since ∧ e.since ≤ 60 := by
  unfold followsM
  rw [Bool.and_eq_true, decide_eq_true_iff]
theorem chain_n (p : EntV) (l : List EntV) (h : chainM p l = true) : (lastE p l).n = p.n + l.length := by
  induction l generalizing p with
  | nil => rfl
  | cons x l ih =>
    have h' : (followsM p x && chainM (posE x) l) = true := h
    rw [Bool.and_eq_true] at h'
    have h1 := follows_is.1 h'.1
    rw [lastE_cons, ih _ h'.2, List.length_cons]
    show x.n + l.length = _
    omega
theorem chain_since (p : EntV) (l : List EntV) (h : chainM p l = true) : p.since ≤ (lastE p l).since ∧ (p.since ≤ 60 → (lastE p l).since ≤ 60) := by
  induction l generalizing p with
  | nil => exact ⟨Nat.le_refl _, fun h => h⟩
  | cons x l ih =>
    have h' : (followsM p x && chainM (posE x) l) = true := h
    rw [Bool.and_eq_true] at h'
    have h1 := follows_is.1 h'.1
    have h2 := ih _ h'.2
    have e : (posE x).since = x.since := rfl
    rw [lastE_cons]
    omega

theorem is_is (s : StV) : isM s = true ↔ s.started ≤ 60 ∧ isTailM s.tail = true ∧ isBaseM s.base = true ∧ s.log.length ≤ 6 ∧ chainM s.tail s.log = true := by
  unfold isM isLogM
  simp only [Bool.and_eq_true, decide_eq_true_iff]
theorem isBase_is (b : BaseV) : isBaseM b = true ↔ (∀ i, isObjM (b.obj i) = true) ∧ ∀ i, isLastM (b.last i) = true := by
  unfold isBaseM
  simp only [Bool.and_eq_true, decide_eq_true_iff]
theorem isObj_is (x : ObjV) : isObjM x = true ↔ ((x.there = false → x.data = [] ∧ x.a0 = [] ∧ x.a1 = [] ∧ x.a2 = []) ∧ x.data.length ≤ 16 ∧ x.a0.length ≤ 16 ∧ x.a1.length ≤ 16 ∧ x.a2.length ≤ 16) := by
  unfold isObjM
  rw [decide_eq_true_iff]
theorem isLast_is (l : LastV) : isLastM l = true ↔ (l.r.data = [] ∧ l.r.code ≤ 3 ∧ (l.seq = 0 → l.r.code = 0)) := by
  unfold isLastM
  rw [decide_eq_true_iff]
theorem isZero_is (o : OpV) : isZeroOp o = true ↔ o = op0 := by
  unfold isZeroOp
  rw [decide_eq_true_iff]
  obtain ⟨a, b, c, d, e, f⟩ := o
  simp [op0]
theorem isTail_is (t : EntV) : isTailM t = true ↔ t.since ≤ 60 ∧ t.op = op0 := by
  unfold isTailM
  rw [Bool.and_eq_true, decide_eq_true_iff, isZero_is]
theorem tail_pos {t : EntV} (h : isTailM t = true) : posE t = t := by
  have h2 := ((isTail_is t).1 h).2
  obtain ⟨a, b, c⟩ := t
  have h2 : c = op0 := h2
  subst h2
  rfl
end Go.Proofs.Ytphlfepgaghhhaa
