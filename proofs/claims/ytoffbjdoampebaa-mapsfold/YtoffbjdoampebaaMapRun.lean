/- Whole loads and stores of maps as run equations; increments in slices, cell by cell: for MapsFold. -/
import Derived.Test.YtoffbjdoampebaaMany
import Derived.Test.YtoffbjdoampebaaRefApply
import Derived.Test.YtoffbjdoampebaaRefFirst
import Derived.Test.YtoffbjdoampebaaEqMap
namespace Go.Proofs.Ytoffbjdoampebaa
set_option linter.unusedSimpArgs false
set_option linter.unusedVariables false
open Go.RowKit

theorem run_load_map {W : World} {g : Nat} {m : MapV} (h : Has W g 27 (mapC m)) : (Instr.loadAt 27 (.pointer (some ⟨g, 0, none⟩))).run Try.prog W = .ok (.agg (mapC m)) W := by
  simp only [Instr.loadAt, Instr.sureAddr, Sem.run_bind, Sem.run_pure, Result.andThen]
  exact run_loadVar_row W g 27 27 (mapC m) (0, 0) _ h Try.underlying27 rfl (map_size m)

theorem run_store_map {W : World} {g : Nat} {m old : MapV} (h : Has W g 27 (mapC old)) : (Instr.storeAt 27 (.pointer (some ⟨g, 0, none⟩)) (.agg (mapC m))).run Try.prog W = .ok () (W.setRow g (mapC m)) := by
  simp only [Instr.storeAt, Instr.sureAddr, Sem.run_bind, Sem.run_pure, Result.andThen]
  exact run_storeVar_row W g 27 27 (mapC old) (mapC m) h (map_size m) (by rw [mapC_size, mapC_size]) (mapC_one m)

theorem sl_flat {w : World} {ad : Addr} {c : Nat} {xs : List IncV} (h : Sl w (some ad) c 3 (xs.map fun x => (incC x).toList)) :
    ∀ j u, ((xs.map fun x => (incC x).toList).flatten)[j]? = some u → w.cell? (ad.add j) = some u := by
  intro j u hj
  have hlen : ((xs.map fun x => (incC x).toList).flatten).length = xs.length * 3 := by
    rw [List.length_flatten, List.map_map]
    have : (List.length ∘ fun x : IncV => (incC x).toList) = fun _ => 3 := rfl
    rw [this, List.map_const']
    simp
  have hjl := (List.getElem?_eq_some_iff.1 hj).1
  rw [hlen] at hjl
  have hi : j / 3 < xs.length := by omega
  have e : j = j / 3 * 3 + j % 3 := by omega
  have h1 := h.at' ad rfl (j / 3) (by rw [List.length_map]; exact hi) (j % 3) (by omega)
  have h2 := flat_at (fun x => (incC x).toList) (fun _ => rfl) xs (j / 3) hi (j % 3) (by omega)
  rw [← e] at h1 h2
  rw [h1, List.getElem_map, ← h2, hj]

theorem flat_one (xs : List IncV) : ∀ u ∈ (xs.map fun x => (incC x).toList).flatten, u.oneCell' = true := by
  intro u hu
  obtain ⟨l, hl, hu⟩ := List.mem_flatten.1 hu
  obtain ⟨x, _, rfl⟩ := List.mem_map.1 hl
  simp [incC] at hu
  rcases hu with rfl | rfl | rfl <;> rfl

theorem flat_len (xs : List IncV) : ((xs.map fun x => (incC x).toList).flatten).length = xs.length * 3 := by
  rw [List.length_flatten, List.map_map]
  have : (List.length ∘ fun x : IncV => (incC x).toList) = fun _ => 3 := rfl
  rw [this, List.map_const']
  simp

/-- What is left to fold is what all of it comes to. -/
def Left (b : MapV) (ok : Bool) (xs : List IncV) (i : Nat) : Prop := MapOk b ∧ if ok then foldFrom b (xs.drop i) = foldM xs else foldM xs = (zeroM, false)

end Go.Proofs.Ytoffbjdoampebaa
