/- Slices of structs: what they read as, and how they are opened. Nothing of the program is in it. -/
import Derived.Test.YtphlfepgaghhhaaMem
import Derived.Carry
import Derived.OpenShut
import Derived.ProofKit
import Derived.Deep.Slices
namespace Go.Proofs.Ytphlfepgaghhhaa
set_option linter.unusedSimpArgs false
set_option linter.unusedVariables false
open Go.ChangeShapes Go.WideShapes Go.ChangeAt Go.RowKit

/-- What a slice of rows of sz cells reads as. -/
structure Sl (w : World) (ao : Option Addr) (c sz : Nat) (rows : List (List Value)) : Prop where
  le : rows.length ≤ c
  cap : c ≤ 9223372036854775807
  nil : ao = none → c = 0
  each : ∀ r ∈ rows, r.length = sz
  at' : ∀ ad, ao = some ad → ∀ (i : Nat) (h : i < rows.length) (j : Nat), j < sz → w.cell? (ad.add (i * sz + j)) = (rows[i])[j]?

theorem Sl.nothing (w : World) (sz : Nat) : Sl w none 0 sz [] := ⟨Nat.le_refl _, by decide, fun _ => rfl, (fun _ h => by cases h), (fun _ h => by cases h)⟩

theorem Sl.later {w w' : World} {ao : Option Addr} {c sz : Nat} {rows : List (List Value)} (h : Sl w ao c sz rows) (hb : Below w.heap.size w w') : Sl w' ao c sz rows := by
  refine ⟨h.le, h.cap, h.nil, h.each, fun ad had i hi j hj => ?_⟩
  have hc := h.at' ad had i hi j hj
  have hl := h.each _ (List.getElem_mem hi)
  rw [List.getElem?_eq_getElem (by omega)] at hc
  have hlt := World.block_lt_of_cell? w _ hc
  rw [hb.cell hlt, hc, List.getElem?_eq_getElem (by omega)]

theorem Sl.drewN {w : World} {ao : Option Addr} {c sz : Nat} {rows : List (List Value)} (h : Sl w ao c sz rows) (n : Nat) : Sl (w.drewN n) ao c sz rows := ⟨h.le, h.cap, h.nil, h.each, h.at'⟩

theorem open_rows {H : Type} {enc : TypeId × Value → H} {P : Program} {W : World} {base : Nat} {t e : TypeId} {v : Value} {d : DataW H} {p : List MemPlace} {T : Type} (L : T → List Value) (ok : T → Prop) (sz : Nat)
    (ht : P.underlying t = some (.slice e)) (hce : P.cellsOf e = sz)
    (reads : ∀ (fuel : Nat) (y : DataW H × List MemPlace) (cs : List Value), DataW.trod enc P W 0 (fun _ => true) true fuel e cs = some y → ∃ x, cs = L x ∧ ok x) (hL : ∀ x, (L x).length = sz)
    (okv : Value.okWide P W .any base t v) (h : DataW.Trod enc P W 0 (fun _ => true) true t v d p) :
    ∃ (ao : Option Addr) (c : Nat) (xs : List T), v = .slice ao xs.length c ∧ Sl W ao c sz (xs.map L) ∧ ∀ x ∈ xs, ok x := by
  obtain ⟨ao, len, c, rfl⟩ := okWide_slice ht okv
  obtain ⟨fuel, hf⟩ := h
  rcases Go.Deep.open_slice ht hf with ⟨hcs, _⟩ | ⟨a, len', cap', m, n, D, Pl, hcs, _, hl, hm, hmm, _, hx⟩
  · simp [Value.cells] at hcs
    obtain ⟨rfl, rfl, rfl⟩ := hcs
    exact ⟨none, 0, [], rfl, Sl.nothing _ _, fun _ h => by cases h⟩
  · simp [Value.cells] at hcs
    obtain ⟨rfl, rfl, rfl⟩ := hcs
    have hm' : m = c := by simpa using hmm
    subst hm'
    have each : ∀ i : Fin len, ∃ x : T, ok x ∧ ∀ j, j < sz → W.cell? (a.add (i.val * sz + j)) = (L x)[j]? := by
      intro i
      obtain ⟨cs', h1, h2⟩ := hx i.val (by have := i.isLt; omega)
      rw [hce] at h1
      obtain ⟨_, hlen, hcell⟩ := World.cells?_some h1
      obtain ⟨x, rfl, hok⟩ := reads _ _ _ h2
      refine ⟨x, hok, fun j hj => ?_⟩
      have := hcell j hj
      rw [Go.Deep.add_add] at this
      exact this
    refine ⟨some a, m, List.ofFn fun i : Fin len => (each i).choose, by rw [List.length_ofFn], ⟨?_, hm, (fun h => by cases h), ?_, fun ad had i hi j hj => ?_⟩, ?_⟩
    · rw [List.length_map, List.length_ofFn]; exact hl
    · intro r hr
      obtain ⟨x, _, rfl⟩ := List.mem_map.1 hr
      exact hL x
    · obtain rfl := Option.some.inj had
      have hi' : i < len := by rw [List.length_map, List.length_ofFn] at hi; exact hi
      have := (each ⟨i, hi'⟩).choose_spec.2 j hj
      rw [this]
      simp
    · intro x hx
      obtain ⟨i, rfl⟩ := List.mem_ofFn.1 hx
      exact (each i).choose_spec.1
end Go.Proofs.Ytphlfepgaghhhaa
