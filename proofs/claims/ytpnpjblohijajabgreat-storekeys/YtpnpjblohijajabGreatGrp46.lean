/- SliceW, joined. -/
import Derived.Test.YtpnpjblohijajabGreatPackTools
import Derived.SizedLaws
namespace Go.Proofs.YtpnpjblohijajabGreat
section
set_option linter.unusedSimpArgs false
set_option linter.unusedVariables false
open Go.ChangeShapes Go.WideShapes Go.RowKit

theorem wts_all {H : Type} {P : Program} {e : TypeId} : ∀ {l : List (DataW H)} {d : DataW H}, d ∈ l → ∀ n ∈ d.weights P e, n ∈ DataW.weightsAll P e l
  | [], _, h, _, _ => by cases h
  | x :: l, d, h, n, hn => by
    simp only [DataW.weightsAll, List.mem_append]
    rcases List.mem_cons.1 h with rfl | h
    · exact .inl hn
    · exact .inr (wts_all h n hn)
theorem open_rows_w {H : Type} {enc : TypeId × Value → H} {P : Program} {W : World} {base : Nat} {t e : TypeId} {v : Value} {d : DataW H} {p : List MemPlace} {T : Type} (L : T → List Value) (ok : T → Prop) (sz M : Nat)
    (ht : P.underlying t = some (.slice e)) (hce : P.cellsOf e = sz)
    (reads : ∀ (fuel : Nat) (y : DataW H × List MemPlace) (cs : List Value), (∀ n ∈ y.1.weights P e, n ≤ M) → DataW.trod enc P W 0 (fun _ => true) true fuel e cs = some y → ∃ x, cs = L x ∧ ok x) (hL : ∀ x, (L x).length = sz)
    (hM : ∀ n ∈ d.weights P t, n ≤ M)
    (okv : Value.okWide P W .any base t v) (h : DataW.Trod enc P W 0 (fun _ => true) true t v d p) :
    ∃ (ao : Option Addr) (c : Nat) (xs : List T), v = .slice ao xs.length c ∧ Sl W ao c sz (xs.map L) ∧ ∀ x ∈ xs, ok x := by
  obtain ⟨ao, len, c, rfl⟩ := okWide_slice ht okv
  obtain ⟨fuel, hf⟩ := h
  rcases Go.Deep.open_slice ht hf with ⟨hcs, _⟩ | ⟨a, len', cap', m, n, D, Pl, hcs, _, hl, hm, hmm, hd, hx⟩
  · simp [Value.cells] at hcs
    obtain ⟨rfl, rfl, rfl⟩ := hcs
    exact ⟨none, 0, [], rfl, Sl.nothing _ _, fun _ h => by cases h⟩
  · simp [Value.cells] at hcs
    obtain ⟨rfl, rfl, rfl⟩ := hcs
    have hm' : m = c := by simpa using hmm
    subst hm'
    injection hd with hd _
    have hw : ∀ i, i < len → ∀ n ∈ (D i).weights P e, n ≤ M := fun i hi n hn => by
      refine hM n ?_
      rw [hd]
      simp only [DataW.weights, ht, List.mem_cons, List.mem_append]
      exact .inr (.inl (wts_all (List.mem_map.2 ⟨i, List.mem_range.2 hi, rfl⟩) n hn))
    have each : ∀ i : Fin len, ∃ x : T, ok x ∧ ∀ j, j < sz → W.cell? (a.add (i.val * sz + j)) = (L x)[j]? := by
      intro i
      obtain ⟨cs', h1, h2⟩ := hx i.val (by have := i.isLt; omega)
      rw [hce] at h1
      obtain ⟨_, hlen, hcell⟩ := World.cells?_some h1
      obtain ⟨x, rfl, hok⟩ := reads _ _ _ (hw i.val i.isLt) h2
      refine ⟨x, hok, fun j hj => ?_⟩
      have := hcell j hj
      rw [Go.Deep.add_add] at this
      exact this
    refine ⟨some a, m, List.ofFn fun i : Fin len => (each i).choose, by rw [List.length_ofFn], ⟨?_, hm, (fun h => by cases h), ?_, fun ad had i hi j hj => ?_⟩, ?_⟩
    · rw [List.length_map, List.length_ofFn]; exact hl
    · intro r hr
      obtain ⟨x, _, rfl⟩ := List.mem_map.1 hr
      exact hL x
    · obtain rfl := Option.some.inj had
      have hi' : i < len := by rw [List.length_map, List.length_ofFn] at hi; exact hi
      have := (each ⟨i, hi'⟩).choose_spec.2 j hj
      rw [this]
      simp
    · intro x hx
      obtain ⟨i, rfl⟩ := List.mem_ofFn.1 hx
      exact (each i).choose_spec.1
/-- The block of a slice that comes in is there, also of an empty one. -/
theorem slice_there {P : Program} {W : World} {base : Nat} {t e : TypeId} {ad : Addr} {n c : Nat} (ht : P.underlying t = some (.slice e)) (ok : Value.okWide P W .any base t (.slice (some ad) n c)) : ad.block < W.heap.size := by
  have ok' : Cell.okWide P W .any base t (.slice (some ad) n c) := by
    simpa [Value.okWide, ht] using ok
  have ok2 : Cell.ok P W .any base t (.slice (some ad) n c) := by
    simpa [Cell.okWide, ht] using ok'
  have ok3 : n ≤ c ∧ (c : Int) ≤ IntKind.i64.max ∧ W.has P .any base ad e c := by
    simpa [Cell.ok, ht] using ok2
  obtain ⟨_, _, row, cells, hsh, _⟩ := ok3.2.2
  unfold World.shape? at hsh
  cases hb : W.heap[ad.block]? with
  | none => rw [hb] at hsh; cases hsh
  | some o => exact (Array.getElem?_eq_some_iff.1 hb).1
end
end Go.Proofs.YtpnpjblohijajabGreat
