/- But for one block the world is as it was; several variables held at once. Nothing of the program is in it. -/
import Derived.Test.YthpmkhbkbpifkaaPackTools
namespace Go.Proofs.Ythpmkhbkbpifkaa
set_option linter.unusedSimpArgs false
set_option linter.unusedVariables false
open Go.RowKit

/-- But for one block the world is as it was. -/
structure But (p : Nat) (w w' : World) : Prop where
  os : w'.os = w.os
  tape : w'.tape = w.tape
  output : w'.output = w.output
  size : w.heap.size ≤ w'.heap.size
  block : ∀ k, k < w.heap.size → k ≠ p → w'.heap[k]? = w.heap[k]?

theorem But.of {p : Nat} {w w' : World} (h : Below w.heap.size w w') : But p w w' := ⟨h.os, h.tape, h.output, h.size, fun k hk _ => h.block k hk⟩
theorem But.trans {p : Nat} {a b c : World} (h : But p a b) (k : But p b c) : But p a c :=
  ⟨k.os.trans h.os, k.tape.trans h.tape, k.output.trans h.output, Nat.le_trans h.size k.size, fun i hi hn => (k.block i (Nat.lt_of_lt_of_le hi h.size) hn).trans (h.block i hi hn)⟩
theorem But.below {p : Nat} {w w' : World} {B : Nat} (h : But p w w') (hp : B ≤ p) (hB : B ≤ w.heap.size) : Below B w w' :=
  ⟨h.os, h.tape, h.output, h.size, fun k hk => h.block k (Nat.lt_of_lt_of_le hk hB) (by omega)⟩
theorem But.has {p : Nat} {w w' : World} {g : Nat} {t : TypeId} {c : Array Value} (h : But p w w') (hg : Has w g t c) (hn : g ≠ p) : Has w' g t c := by
  have := hg.lt
  unfold Has at *
  rw [h.block g this hn]
  exact hg
theorem But.later {p : Nat} {w w' w'' : World} (h : But p w w') (k : Below w'.heap.size w' w'') : But p w w'' := h.trans (But.of k)

theorem but_setCells {p : Nat} {w : World} (vs : List Value) (o : Nat) : But p w (w.setCells p o vs) := by
  induction vs generalizing w o with
  | nil => exact But.of (Below.refl _ _)
  | cons v vs ih =>
    have h1 : But p w (w.setCell ⟨p, o, none⟩ v) := by
      have := (Below.refl 0 w).setCell (show 0 ≤ (⟨p, o, none⟩ : Addr).block from Nat.zero_le _) v
      exact ⟨this.os, this.tape, this.output, this.size, fun k _ hk => Below.heap_setCell w ⟨p, o, none⟩ v k hk⟩
    exact h1.trans (ih (o + 1))

/-- A variable: its block, its type, its row. -/
abbrev Var := Nat × TypeId × Array Value

/-- Several variables, and what was there at first, as it was. -/
structure Env (w0 w : World) (l : List Var) : Prop where
  hold : ∀ e ∈ l, Has w e.1 e.2.1 e.2.2
  below : Below w0.heap.size w0 w

theorem Env.get {w0 w : World} {l : List Var} (h : Env w0 w l) (i : Nat) {g : Nat} {t : TypeId} {c : Array Value} (hi : l[i]? = some (g, t, c)) : Has w g t c := h.hold (g, t, c) (List.mem_of_getElem? hi)
theorem Env.start {w0 w : World} (h : Below w0.heap.size w0 w) : Env w0 w [] := ⟨(fun _ h => by cases h), h⟩
theorem Env.add {w0 w : World} {l : List Var} (h : Env w0 w l) {g : Nat} {t : TypeId} {c : Array Value} (hg : Has w g t c) : Env w0 w (l ++ [(g, t, c)]) :=
  ⟨fun e he => by
    rcases List.mem_append.1 he with he | he
    · exact h.hold e he
    · rw [List.mem_singleton.1 he]; exact hg, h.below⟩
theorem Env.later {w0 w w' : World} {l : List Var} (h : Env w0 w l) (k : Below w.heap.size w w') : Env w0 w' l := ⟨fun e he => (h.hold e he).later k, h.below.trans (k.mono h.below.size)⟩
theorem Env.drew {w0 w : World} {l : List Var} (h : Env w0 w l) : Env w0 w.drew l := ⟨fun e he => (h.hold e he).drew, h.below.drew⟩
theorem Env.but {w0 w w' : World} {l : List Var} {p : Nat} (h : Env w0 w l) (k : But p w w') (hp : w0.heap.size ≤ p) (ha : ∀ e ∈ l, e.1 ≠ p) : Env w0 w' l := ⟨fun e he => k.has (h.hold e he) (ha e he), h.below.trans (k.below hp h.below.size)⟩
theorem Env.alloc {w0 w : World} {l : List Var} (h : Env w0 w l) (t : TypeId) (c : Array Value) : Env w0 (w.alloc (.cells c t)) l := h.later ((Below.refl _ _).alloc (Nat.le_refl _) _)
theorem Env.row_other {w0 w : World} {l : List Var} (h : Env w0 w l) (g : Nat) (hg : w0.heap.size ≤ g) (ha : ∀ e ∈ l, e.1 ≠ g) (c : Array Value) : Env w0 (w.setRow g c) l := ⟨fun e he => (h.hold e he).row_other (ha e he) c, below_setRow h.below hg c⟩
theorem Env.lt {w0 w : World} {l : List Var} (h : Env w0 w l) : ∀ e ∈ l, e.1 < w.heap.size := fun e he => (h.hold e he).lt
theorem Env.ne {w0 w : World} {l : List Var} (h : Env w0 w l) {g : Nat} (hg : w.heap.size ≤ g) : ∀ e ∈ l, e.1 ≠ g := fun e he => by have := h.lt e he; omega
/-- The variables lie apart from a block. -/
def Apart (p : Nat) (l : List Var) : Prop := ∀ e ∈ l, e.1 ≠ p
theorem Apart.nil (p : Nat) : Apart p [] := fun _ h => by cases h
theorem Apart.add {p : Nat} {l : List Var} (h : Apart p l) {g : Nat} (hg : g ≠ p) (t : TypeId) (c : Array Value) : Apart p (l ++ [(g, t, c)]) := fun e he => by
  rcases List.mem_append.1 he with he | he
  · exact h e he
  · rw [List.mem_singleton.1 he]; exact hg
end Go.Proofs.Ythpmkhbkbpifkaa
