/- JnlLaws, joined. -/
import Derived.Test.YtlalfagafbpkiaaGrp37
import Derived.Test.YtlalfagafbpkiaaGrp39
namespace Go.Proofs.Ytlalfagafbpkiaa
section
set_option linter.unusedSimpArgs false
set_option linter.unusedVariables false
set_option maxRecDepth 100000
open Go.RowKit Go.MapKept

theorem each_takenL {l : List (List UInt8)} {k : Nat} (h : takenM l ≤ k) : ∀ r ∈ l, r.length ≤ k := fun r hr => by
  unfold takenM at h
  have : r.length + 16 ≤ (l.map (fun r => r.length + 16)).sum := by
    obtain ⟨a, b, rfl⟩ := List.append_of_mem hr
    simp
    omega
  omega
theorem crash_in (w0 : World) (j p kb mb n : Nat) (lo : Option Addr) (lc : Nat) (l : List (List UInt8)) (N : Nat) (ao : Option Addr) (k c : Nat) (cs : List UInt8) (w : World) (H : JL w0 w j p kb mb n lo lc l N) (hB : By w0 ao c cs) (hk : k = cs.length) (hlt : ∀ ad, ao = some ad → ad.block < w0.heap.size) :
    Calls Try.prog 13 #[.pointer (some ⟨p, 0, none⟩), .slice ao k c] w fun e w' => e = .returned (.tuple #[]) ∧ ∃ D, DL w0 w' p kb mb n D ∧ GoodL n D l N := by
  obtain ⟨D, hD, hg⟩ := H.disk
  refine (crash_on w0 p kb mb n D ao k c cs w hD (hB.later H.below) hk (fun ad had => ⟨Nat.lt_of_lt_of_le (hlt ad had) H.below.size, fun hf => by have := hD.new _ hf; have := hlt ad had; omega⟩)).mono ?_
  rintro e w' ⟨rfl, h, _⟩
  exact ⟨rfl, D, h, hg⟩
theorem Strs.takeL {w : World} {ao : Option Addr} {c : Nat} {l : List (List UInt8)} (h : Strs w ao c l) (k : Nat) : Strs w ao c (l.take k) := by
  refine ⟨by rw [List.length_take]; have := h.le; omega, h.cap, h.nil, fun ad had i hi => ?_⟩
  have hi' : i < l.length := by rw [List.length_take] at hi; omega
  rw [h.cell ad had i hi', List.getElem_take]
theorem Strs.initL {w : World} {ao : Option Addr} {c : Nat} {l m : List (List UInt8)} (h : Strs w ao c (l ++ m)) : Strs w ao c l := by
  have := h.takeL l.length
  rwa [List.take_left] at this
end
end Go.Proofs.Ytlalfagafbpkiaa
