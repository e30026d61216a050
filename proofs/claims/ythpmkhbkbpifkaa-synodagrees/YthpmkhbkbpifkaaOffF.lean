/- But for some blocks the world is as it was: what a call that changes an object leaves. Nothing of the program is in it. -/
import Derived.Test.YthpmkhbkbpifkaaHold
namespace Go.Proofs.Ythpmkhbkbpifkaa
set_option linter.unusedSimpArgs false
set_option linter.unusedVariables false
open Go.RowKit

structure OffF (F : Nat → Prop) (w w' : World) : Prop where
  os : w'.os = w.os
  tape : w'.tape = w.tape
  output : w'.output = w.output
  size : w.heap.size ≤ w'.heap.size
  block : ∀ k, k < w.heap.size → ¬ F k → w'.heap[k]? = w.heap[k]?

theorem OffF.of {F : Nat → Prop} {w w' : World} (h : Below w.heap.size w w') : OffF F w w' := ⟨h.os, h.tape, h.output, h.size, fun k hk _ => h.block k hk⟩
theorem OffF.but {p : Nat} {w w' : World} (h : But p w w') : OffF (fun k => k = p) w w' := ⟨h.os, h.tape, h.output, h.size, fun k hk hn => h.block k hk hn⟩
theorem OffF.trans {F : Nat → Prop} {a b c : World} (h : OffF F a b) (k : OffF F b c) : OffF F a c :=
  ⟨k.os.trans h.os, k.tape.trans h.tape, k.output.trans h.output, Nat.le_trans h.size k.size, fun i hi hn => (k.block i (Nat.lt_of_lt_of_le hi h.size) hn).trans (h.block i hi hn)⟩
theorem OffF.below {F : Nat → Prop} {w w' : World} {B : Nat} (h : OffF F w w') (hF : ∀ b, F b → B ≤ b) (hB : B ≤ w.heap.size) : Below B w w' :=
  ⟨h.os, h.tape, h.output, h.size, fun k hk => h.block k (Nat.lt_of_lt_of_le hk hB) (fun hf => absurd (hF k hf) (by omega))⟩
theorem OffF.has {F : Nat → Prop} {w w' : World} {g : Nat} {t : TypeId} {c : Array Value} (h : OffF F w w') (hg : Has w g t c) (hn : ¬ F g) : Has w' g t c := by
  have := hg.lt
  unfold Has at *
  rw [h.block g this hn]
  exact hg
theorem Env.off {w0 w w' : World} {l : List Var} {F : Nat → Prop} (h : Env w0 w l) (k : OffF F w w') (hF : ∀ b, F b → w0.heap.size ≤ b) (ha : ∀ e ∈ l, ¬ F e.1) : Env w0 w' l := ⟨fun e he => k.has (h.hold e he) (ha e he), h.below.trans (k.below hF h.below.size)⟩
/-- The variables lie outside of some blocks. -/
def Clear (F : Nat → Prop) (l : List Var) : Prop := ∀ e ∈ l, ¬ F e.1
theorem Clear.nil (F : Nat → Prop) : Clear F [] := fun _ h => by cases h
theorem Clear.add {F : Nat → Prop} {l : List Var} (h : Clear F l) {g : Nat} (hg : ¬ F g) (t : TypeId) (c : Array Value) : Clear F (l ++ [(g, t, c)]) := fun e he => by
  rcases List.mem_append.1 he with he | he
  · exact h e he
  · rw [List.mem_singleton.1 he]; exact hg
theorem Clear.step {F F' : Nat → Prop} {w0 w : World} {l : List Var} (h : Clear F l) (hE : Env w0 w l) (hF : ∀ b, F' b → F b ∨ w.heap.size ≤ b) : Clear F' l := fun e he hf => by
  rcases hF e.1 hf with q | q
  · exact h e he q
  · have := hE.lt e he
    omega
theorem low_step {F F' : Nat → Prop} {B : Nat} {w : World} (h : ∀ b, F b → B ≤ b) (hB : B ≤ w.heap.size) (hF : ∀ b, F' b → F b ∨ w.heap.size ≤ b) : ∀ b, F' b → B ≤ b := fun b hb => by
  rcases hF b hb with q | q
  · exact h b q
  · omega
end Go.Proofs.Ythpmkhbkbpifkaa
