/- But for some blocks the world is as it was: what a call that changes an object leaves. Lists of intervals. Nothing of the program is in it. -/
import Derived.Test.YtlbokkbngbpmiaaPackTools
import Derived.Test.YtlbokkbngbpmiaaPackMaps
namespace Go.Proofs.Ytlbokkbngbpmiaa
set_option linter.unusedSimpArgs false
set_option linter.unusedVariables false
open Go.RowKit

structure Off (F : Nat → Prop) (w w' : World) : Prop where
  os : w'.os = w.os
  tape : w'.tape = w.tape
  output : w'.output = w.output
  size : w.heap.size ≤ w'.heap.size
  block : ∀ k, k < w.heap.size → ¬ F k → w'.heap[k]? = w.heap[k]?

theorem Off.of {F : Nat → Prop} {w w' : World} (h : Below w.heap.size w w') : Off F w w' := ⟨h.os, h.tape, h.output, h.size, fun k hk _ => h.block k hk⟩

theorem Off.trans {F : Nat → Prop} {a b c : World} (h : Off F a b) (k : Off F b c) : Off F a c :=
  ⟨k.os.trans h.os, k.tape.trans h.tape, k.output.trans h.output, Nat.le_trans h.size k.size, fun i hi hn => (k.block i (Nat.lt_of_lt_of_le hi h.size) hn).trans (h.block i hi hn)⟩

theorem Off.below {F : Nat → Prop} {w w' : World} {B : Nat} (h : Off F w w') (hF : ∀ b, F b → B ≤ b) (hB : B ≤ w.heap.size) : Below B w w' :=
  ⟨h.os, h.tape, h.output, h.size, fun k hk => h.block k (Nat.lt_of_lt_of_le hk hB) (fun hf => absurd (hF k hf) (by omega))⟩

theorem Off.has {F : Nat → Prop} {w w' : World} {g : Nat} {t : TypeId} {c : Array Value} (h : Off F w w') (hg : Has w g t c) (hn : ¬ F g) : Has w' g t c := by
  have := hg.lt
  unfold Has at *
  rw [h.block g this hn]
  exact hg

theorem Off.ix {F : Nat → Prop} {w w' : World} {ao : Option Addr} {c : Nat} {xs : List Int} (h : Off F w w') (hx : Ix w ao c xs) (hn : ∀ ad, ao = some ad → ¬ F ad.block) : Ix w' ao c xs := by
  refine ⟨hx.le, hx.cap, hx.nil, fun ad had k hk => ?_⟩
  have hc := hx.at' ad had k hk
  have hlt := World.block_lt_of_cell? w _ hc
  have hbl : (ad.add k).block = ad.block := by unfold Addr.add; split <;> rfl
  rw [World.cell?_of_block (w := w) (h.block _ hlt (by rw [hbl]; exact hn ad had))]
  exact hc

theorem Off.own {F : Nat → Prop} {w w' : World} {base n sz : Nat} {e : TypeId} {v : Value} {xs : List Value} (h : Off F w w') (ho : w.ownsRow base e sz v n xs) (hn : ∀ k, v.ownBlock = some k → ¬ F k) : w'.ownsRow base e sz v n xs := by
  refine ⟨ho.1, ?_⟩
  rcases ho.2 with h0 | ⟨g, cap, cur, hv, hg, hc, hr⟩
  · exact .inl h0
  · refine .inr ⟨g, cap, cur, hv, hg, ?_, hr⟩
    rw [h.block g (Array.getElem?_eq_some_iff.1 hc).1 (hn g (by rw [hv]; rfl))]
    exact hc

/-- What a slice of intervals reads as. -/
structure Iv (w : World) (ao : Option Addr) (c : Nat) (l : List (Nat × List Int)) : Prop where
  le : l.length ≤ c
  cap : c ≤ 9223372036854775807
  nil : ao = none → c = 0
  at' : ∀ ad, ao = some ad → ∀ (i : Nat) (h : i < l.length), w.cell? (ad.add (i * 2)) = some (.int .u32 (l[i].1 : Nat)) ∧ ∃ bo d, w.cell? (ad.add (i * 2 + 1)) = some (.slice bo l[i].2.length d) ∧ Ix w bo d l[i].2

theorem Iv.later {w w' : World} {ao : Option Addr} {c : Nat} {l : List (Nat × List Int)} (h : Iv w ao c l) (hb : Below w.heap.size w w') : Iv w' ao c l := by
  refine ⟨h.le, h.cap, h.nil, fun ad had i hi => ?_⟩
  obtain ⟨h1, bo, d, h2, h3⟩ := h.at' ad had i hi
  refine ⟨?_, bo, d, ?_, h3.later hb⟩
  · rw [hb.cell (World.block_lt_of_cell? w _ h1)]; exact h1
  · rw [hb.cell (World.block_lt_of_cell? w _ h2)]; exact h2

theorem Iv.drewN {w : World} {ao : Option Addr} {c : Nat} {l : List (Nat × List Int)} (h : Iv w ao c l) (n : Nat) : Iv (w.drewN n) ao c l :=
  ⟨h.le, h.cap, h.nil, fun ad had i hi => by
    obtain ⟨h1, bo, d, h2, h3⟩ := h.at' ad had i hi
    exact ⟨h1, bo, d, h2, h3.drewN n⟩⟩

theorem Iv.nothing (w : World) : Iv w none 0 [] := ⟨Nat.le_refl _, by decide, fun _ => rfl, fun _ h => by cases h⟩
end Go.Proofs.Ytlbokkbngbpmiaa
