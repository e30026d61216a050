/- A row of results in one block, filled from the front. -/
import Derived.Test.YtphlfepgaghhhaaObjFacts
import Derived.Test.YtphlfepgaghhhaaSlice
import Derived.OwnWalk
namespace Go.Proofs.Ytphlfepgaghhhaa
set_option linter.unusedSimpArgs false
set_option linter.unusedVariables false
set_option maxRecDepth 100000
open Go.RowKit

theorem flat_cons (x : ResV) (xs : List ResV) : (x :: xs).flatMap resL = .int .u8 (x.code : Int) :: strV x.data :: xs.flatMap resL := rfl

theorem flat_len (xs : List ResV) : (xs.flatMap resL).length = xs.length * 2 := by
  induction xs with
  | nil => rfl
  | cons x xs ih =>
    rw [flat_cons, List.length_cons, List.length_cons, List.length_cons, ih]
    omega

theorem flat_at (xs : List ResV) (n : Nat) (h : n < xs.length) (j : Nat) (hj : j < 2) : (xs.flatMap resL)[n * 2 + j]? = (resL xs[n])[j]? := by
  induction xs generalizing n with
  | nil => cases h
  | cons x xs ih =>
    rw [flat_cons]
    cases n with
    | zero =>
      match j, hj with
      | 0, _ => rfl
      | 1, _ => rfl
    | succ n =>
      rw [show (n + 1) * 2 + j = n * 2 + j + 2 by omega]
      exact ih n (by simpa using h)

theorem flat_set (xs : List ResV) (n : Nat) (h : n < xs.length) (r : ResV) : ((xs.flatMap resL).set (n * 2) (.int .u8 (r.code : Int))).set (n * 2 + 1) (strV r.data) = (xs.set n r).flatMap resL := by
  induction xs generalizing n with
  | nil => cases h
  | cons x xs ih =>
    rw [flat_cons]
    cases n with
    | zero => rfl
    | succ n =>
      rw [show (n + 1) * 2 = n * 2 + 2 by omega, show n * 2 + 2 + 1 = n * 2 + 1 + 2 by omega]
      show _ :: _ :: ((xs.flatMap resL).set (n * 2) _).set (n * 2 + 1) _ = _
      rw [ih n (by simpa using h)]
      rfl

/-- So many results of N. -/
def rowX (ps : List ResV) (N : Nat) : List ResV := ps ++ List.replicate (N - ps.length) res0
def rowC (ps : List ResV) (N : Nat) : Array Value := ((rowX ps N).flatMap resL).toArray
theorem rowX_len (ps : List ResV) (N : Nat) (h : ps.length ≤ N) : (rowX ps N).length = N := by
  unfold rowX
  rw [List.length_append, List.length_replicate]
  omega
theorem rowX_next (ps : List ResV) (N : Nat) (h : ps.length < N) (r : ResV) : (rowX ps N).set ps.length r = rowX (ps ++ [r]) N := by
  unfold rowX
  rw [List.set_append_right _ _ (Nat.le_refl _), Nat.sub_self, List.length_append, List.append_assoc]
  congr 1
  rw [show N - ps.length = (N - (ps.length + 1)) + 1 by omega]
  rfl
theorem rowC_size (ps : List ResV) (N : Nat) (h : ps.length ≤ N) : (rowC ps N).size = N * 2 := by
  unfold rowC
  rw [List.size_toArray, flat_len, rowX_len ps N h]
theorem rowC_next (ps : List ResV) (N : Nat) (h : ps.length < N) (r : ResV) : ((rowC ps N).setIfInBounds (ps.length * 2) (.int .u8 (r.code : Int))).setIfInBounds (ps.length * 2 + 1) (strV r.data) = rowC (ps ++ [r]) N := by
  unfold rowC
  rw [List.setIfInBounds_toArray, List.setIfInBounds_toArray, flat_set _ _ (by rw [rowX_len ps N (by omega)]; exact h), rowX_next ps N h]
theorem rowX_all (ps : List ResV) : rowX ps ps.length = ps := by
  unfold rowX
  rw [Nat.sub_self]
  simp

theorem Has.next_res {w : World} {g : Nat} {ps : List ResV} {N : Nat} (h : Has w g 28 (rowC ps N)) (hn : ps.length < N) (r : ResV) : Has (w.setCells g (ps.length * 2) (resL r)) g 28 (rowC (ps ++ [r]) N) := by
  have := (h.set (ps.length * 2) (.int .u8 (r.code : Int))).set (ps.length * 2 + 1) (strV r.data)
  rw [rowC_next ps N hn r] at this
  exact this

theorem Has.res_slice {w : World} {g : Nat} {ps : List ResV} (h : Has w g 28 (rowC ps ps.length)) (hn : ps.length ≤ 1000) : Sl w (some ⟨g, 0, none⟩) ps.length 2 (resR ps) := by
  refine ⟨by unfold resR; rw [List.length_map]; exact Nat.le_refl _, by omega, (fun h => by cases h), ?_, fun ad had i hi j hj => ?_⟩
  · intro r hr
    obtain ⟨x, _, rfl⟩ := List.mem_map.1 hr
    rfl
  · obtain rfl := Option.some.inj had
    have hi' : i < ps.length := by unfold resR at hi; rw [List.length_map] at hi; exact hi
    rw [Addr.add_mid, Nat.zero_add, h.cell]
    have e : (resR ps)[i] = resL ps[i] := by simp [resR]
    rw [e]
    unfold rowC
    rw [List.getElem?_toArray, rowX_all, flat_at ps i hi' j hj]

theorem res_made (N : Nat) : (madeCells (Value.agg (resC res0)).cells (N * 2)).toList = (rowX [] N).flatMap resL := by
  apply List.ext_getElem?
  intro i
  unfold madeCells
  simp only [Array.toList_map, Array.toList_range]
  rw [List.getElem?_map]
  have hx : rowX [] N = List.replicate N res0 := rfl
  by_cases h : i < N * 2
  · rw [List.getElem?_range h]
    have e : i = i / 2 * 2 + i % 2 := by omega
    have := flat_at (List.replicate N res0) (i / 2) (by rw [List.length_replicate]; omega) (i % 2) (by omega)
    rw [← e] at this
    rw [hx, this, List.getElem_replicate]
    have hm : i % 2 = 0 ∨ i % 2 = 1 := by omega
    show some ((Value.agg (resC res0)).cells[i % 2]!) = _
    rcases hm with hm | hm <;> rw [hm] <;> rfl
  · rw [List.getElem?_eq_none (by simpa using h), List.getElem?_eq_none (by rw [flat_len, hx, List.length_replicate]; omega)]
    rfl

theorem row_has {w : World} {g N : Nat} {b : Nat} (h : w.ownsRow b 28 2 (.slice (some ⟨g, 0, none⟩) N N) N (madeCells (Value.agg (resC res0)).cells (N * 2)).toList) : Has w g 28 (rowC [] N) := by
  rcases h.2 with ⟨hv, _⟩ | ⟨g', cap, cur, hv, hg, hc, hle, hm, hs, hx⟩
  · cases hv
  · injection hv with h1 h2 h3
    injection h1 with h1
    injection h1 with h1
    subst h1
    unfold Has rowC
    rw [hc]
    congr 1
    congr 1
    rw [res_made] at hx
    rw [List.take_of_length_le (by rw [Array.length_toList, hs, ← h3]; exact Nat.le_refl _)] at hx
    rw [← hx]

theorem res_info : ∃ i, Try.prog.info? 28 = some i ∧ i.zero = some (.agg (resC res0)) ∧ i.size = 2 ∧ i.bytes = 24 := by
  have h : (Try.prog.info? 28).map (fun i => (i.zero, i.size, i.bytes)) = some (some (.agg (resC res0)), 2, 24) := by kernel_rfl
  cases hi : Try.prog.info? 28 with
  | none => rw [hi] at h; cases h
  | some i =>
    rw [hi] at h
    simp only [Option.map_some, Option.some.injEq, Prod.mk.injEq] at h
    exact ⟨i, rfl, h.1, h.2.1, h.2.2⟩

theorem all_take (b : BaseV) (l : List OpV) (k : Nat) (h : k < l.length) : allM b (l.take (k + 1)) = ((doM (allM b (l.take k)).1 l[k]).1, (allM b (l.take k)).2 ++ [(doM (allM b (l.take k)).1 l[k]).2]) := by
  rw [List.take_succ_eq_append_getElem h, all_snoc]
theorem all_take_len (b : BaseV) (l : List OpV) (k : Nat) (h : k ≤ l.length) : (allM b (l.take k)).2.length = k := by
  rw [all_len, List.length_take]
  omega

theorem op_at {w : World} {ad : Addr} {c : Nat} {l : List OpV} (h : Sl w (some ad) c 6 (opR l)) (i : Nat) (hi : i < l.length) :
    ∀ j v, (opL l[i])[j]? = some v → w.cell? ((ad.add (i * 6)).add j) = some v := by
  intro j v hj
  have hj6 : j < 6 := (List.getElem?_eq_some_iff.1 hj).1
  have h0 := h.at' ad rfl i (by unfold opR; rw [List.length_map]; exact hi) j hj6
  unfold opR at h0
  rw [List.getElem_map, hj] at h0
  rw [Go.Deep.add_add]
  exact h0
theorem res_at {w : World} {ad : Addr} {c : Nat} {l : List ResV} (h : Sl w (some ad) c 2 (resR l)) (i : Nat) (hi : i < l.length) :
    ∀ j v, (resL l[i])[j]? = some v → w.cell? ((ad.add (i * 2)).add j) = some v := by
  intro j v hj
  have hj6 : j < 2 := (List.getElem?_eq_some_iff.1 hj).1
  have h0 := h.at' ad rfl i (by unfold resR; rw [List.length_map]; exact hi) j hj6
  unfold resR at h0
  rw [List.getElem_map, hj] at h0
  rw [Go.Deep.add_add]
  exact h0
end Go.Proofs.Ytphlfepgaghhhaa
