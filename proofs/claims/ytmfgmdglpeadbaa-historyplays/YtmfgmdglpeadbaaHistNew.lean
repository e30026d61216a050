/- The contracts of history.New and of Copy, at the landed code. -/
import Derived.Test.YtmfgmdglpeadbaaHistIs
import Derived.Shelf.SlMaps.Clone
namespace Go.Proofs.Ytmfgmdglpeadbaa
set_option linter.unusedSimpArgs false
set_option linter.unusedVariables false
set_option maxRecDepth 100000
open Go.RowKit

set_option maxHeartbeats 1000000 in
theorem new_at (w : World) : Calls Try.prog 10 #[] w fun e w' => ∃ p b c, e = .returned (ptr p) ∧ IsAt w' p b c [] ∧ w.heap.size ≤ p ∧ w.heap.size ≤ b ∧ w.heap.size ≤ c ∧ Below w.heap.size w w' := by
  have hmm := @run_makeMap Try.prog
  have hB := MapRow.new w 1 0 (epF [])
  have hb0 := (Below.refl w.heap.size w).alloc (Nat.le_refl _) (.map #[] 0)
  go_enter Try.func10, Try.ntmps10
  go_wp2_with fail
  refine (first_any _).mono ?_
  rintro e w1 ⟨rfl, hq⟩
  replace hB := hB.later hq
  have hb1 := hb0.trans (hq.mono hb0.size)
  have hB2 := hB.put (m := 1) (g := epF [])
  have hb2 := below_put hb1 (Nat.le_refl _) (.map (rowN 1 (epF []) 0 1).toArray 1)
  clear hq hb0
  go_wp2_with (first
    | (refine wpList_insert (by rfl) 69 _ _ _ rfl rfl 1 rfl _ rfl hB _ _ under_mm Try.underlying23 rfl (epF []) (fun k hk => absurd hk (by omega)) rfl ?_; generalize putBlock w1 w.heap.size (.map (rowN 1 (epF []) 0 1).toArray 1) = w2 at *))
  have hbs := hB2.lt
  have hb3 := hb2.alloc hb2.size (.map #[] 0)
  have hb4 := hb3.alloc hb3.size (.cells #[.map (some w.heap.size), .map (some w2.heap.size)] 72)
  have hI := hB2.later (((Below.refl _ _).alloc (Nat.le_refl _) (.map #[] 0)).alloc (by simp) (.cells #[.map (some w.heap.size), .map (some w2.heap.size)] 72))
  have hC := (MapRow.new w2 2 0 (inF [])).later ((Below.refl _ _).alloc (Nat.le_refl _) (.cells #[.map (some w.heap.size), .map (some w2.heap.size)] 72))
  have hH : Has ((w2.alloc (.map #[] 0)).alloc (.cells #[.map (some w.heap.size), .map (some w2.heap.size)] 72)) (w2.heap.size + 1) 72 #[.map (some w.heap.size), .map (some w2.heap.size)] := by
    have := Has.new (w2.alloc (.map #[] 0)) 72 #[.map (some w.heap.size), .map (some w2.heap.size)]
    rw [alloc_size] at this
    exact this
  have hs := hb2.size
  go_ret
  exact ⟨w2.heap.size + 1, w.heap.size, w2.heap.size, rfl, ⟨Good.nil, hH, hI, hC, by omega, by omega, by omega⟩, by omega, by omega, by omega, hb4⟩

theorem clonem_any (b : Nat) (es : Array MapEntry) (clock : Nat) (w : World) (hb : w.heap[b]? = some (.map es clock)) :
    Calls Try.prog 34 #[.map (some b)] w fun e w' => e = .returned (.map (some w.heap.size)) ∧ w' = w.alloc (.map es clock) := by
  have hq := fun w => run_eql_map_nil_sl (P := Try.prog) w 69 _ _ (some b) under_mm
  go_enter Try.func34, Try.ntmps34
  go_wp2
  rw [run_callFunc_extern Try.func44 (by kernel_rfl) (by kernel_rfl) (by kernel_rfl) (e := Extern.MapsClone.clone) (by kernel_rfl), run_maps_clone_sl w 69 hb]
  simp only [Result.andThen]
  rw [Oper.upon_value]
  go_wp2
  rw [run_typeAssert_map_sl _ 69 20 _ _ _ under_mm]
  simp only [Result.andThen]
  rw [Oper.upon_value]
  go_wp2
  go_ret
  exact ⟨rfl, rfl⟩

theorem clonei_any (b : Nat) (es : Array MapEntry) (clock : Nat) (w : World) (hb : w.heap[b]? = some (.map es clock)) :
    Calls Try.prog 35 #[.map (some b)] w fun e w' => e = .returned (.map (some w.heap.size)) ∧ w' = w.alloc (.map es clock) := by
  have hq := fun w => run_eql_map_nil_sl (P := Try.prog) w 70 _ _ (some b) under_mi
  go_enter Try.func35, Try.ntmps35
  go_wp2
  rw [run_callFunc_extern Try.func44 (by kernel_rfl) (by kernel_rfl) (by kernel_rfl) (e := Extern.MapsClone.clone) (by kernel_rfl), run_maps_clone_sl w 70 hb]
  simp only [Result.andThen]
  rw [Oper.upon_value]
  go_wp2
  rw [run_typeAssert_map_sl _ 70 20 _ _ _ under_mi]
  simp only [Result.andThen]
  rw [Oper.upon_value]
  go_wp2
  go_ret
  exact ⟨rfl, rfl⟩

set_option maxHeartbeats 1000000 in
theorem copy_at (p b c : Nat) (xs : List IncV) (w : World) (h : IsAt w p b c xs) : Calls Try.prog 18 #[ptr p] w fun e w' => ∃ q d f, e = .returned (ptr q) ∧ IsAt w' q d f xs ∧ w.heap.size ≤ q ∧ w.heap.size ≤ d ∧ w.heap.size ≤ f ∧ Below w.heap.size w w' := by
  have hpt : ptr p = .pointer (some ⟨p, 0, none⟩) := rfl
  rw [hpt]
  have hg := h.good
  have hS0 : ∀ W, Below w.heap.size w W → IsAt W p b c xs := fun W hW => h.later hW
  go_enter Try.func18, Try.ntmps18
  go_wp2
  refine wp_region_plan (fun W => Below w.heap.size w W) (Plan.of [(0, true), (1, true), (2, true), (3, true), (5, true), (6, true), (7, true), (8, true), (4, false), (9, false), (10, true), (11, false), (12, true)] .done) (by kernel_rfl) (by kernel_rfl) (by kernel_rfl) (by kernel_rfl) (Below.refl _ w).drew ?_
  iterate 3
    first
      | (refine plan_pass _ rfl (by rfl) ?_)
      | (refine plan_take _ _ rfl (.inl ⟨by rfl, fun W hS => by clear hS; go_simp; try with_reducible rfl⟩) ?_)
    try simp only [Act.put, List.setIfInBounds_toArray, List.set_cons_zero, List.set_cons_succ]
  iterate 1
    first
      | (refine plan_pass _ rfl (by rfl) ?_)
      | (refine plan_take _ _ rfl (.inl ⟨by rfl, fun W hS => by have z1 := (hS0 W hS).c0; go_simp; try with_reducible rfl⟩) ?_)
    try simp only [Act.put, List.setIfInBounds_toArray, List.set_cons_zero, List.set_cons_succ]
  iterate 3
    first
      | (refine plan_pass _ rfl (by rfl) ?_)
      | (refine plan_take _ _ rfl (.inl ⟨by rfl, fun W hS => by clear hS; go_simp; try with_reducible rfl⟩) ?_)
    try simp only [Act.put, List.setIfInBounds_toArray, List.set_cons_zero, List.set_cons_succ]
  iterate 1
    first
      | (refine plan_pass _ rfl (by rfl) ?_)
      | (refine plan_take _ _ rfl (.inl ⟨by rfl, fun W hS => by have z1 := (hS0 W hS).c1; go_simp; try with_reducible rfl⟩) ?_)
    try simp only [Act.put, List.setIfInBounds_toArray, List.set_cons_zero, List.set_cons_succ]
  refine plan_run _ rfl (fun K hK => ?_)
  go_simp
  refine (clonem_any b _ _ _ (hS0 _ (Below.refl _ w).drew).eps).mono ?_
  rintro e w1 ⟨rfl, rfl⟩
  have hD := MapRow.new w.drew 1 (xs.length + 1) (epF xs)
  have hb1 := (Below.refl w.heap.size w).drew.alloc (Nat.le_refl _) (.map (rowN 1 (epF xs) 0 (xs.length + 1)).toArray (xs.length + 1))
  refine hK.out _ _ hb1 ?_
  clear hK K
  have hs1 : w.drew.heap.size < (w.drew.alloc (.map (rowN 1 (epF xs) 0 (xs.length + 1)).toArray (xs.length + 1))).heap.size := by simp
  have hs0 : w.drew.heap.size = w.heap.size := rfl
  generalize w.drew.alloc (.map (rowN 1 (epF xs) 0 (xs.length + 1)).toArray (xs.length + 1)) = w1 at *
  refine plan_run _ rfl (fun K hK => ?_)
  go_simp
  refine (clonei_any c _ _ _ (hS0 _ hb1).ins).mono ?_
  rintro e w2 ⟨rfl, rfl⟩
  have hE := MapRow.new w1 2 xs.length (inF xs)
  have hb2 := hb1.alloc hb1.size (.map (rowN 2 (inF xs) 0 xs.length).toArray xs.length)
  replace hD := hD.later ((Below.refl _ _).alloc (Nat.le_refl _) (.map (rowN 2 (inF xs) 0 xs.length).toArray xs.length))
  refine hK.out _ _ hb2 ?_
  clear hK K
  have hs2 : w1.heap.size < (w1.alloc (.map (rowN 2 (inF xs) 0 xs.length).toArray xs.length)).heap.size := by simp
  generalize w1.alloc (.map (rowN 2 (inF xs) 0 xs.length).toArray xs.length) = w2 at *
  iterate 1
    first
      | (refine plan_pass _ rfl (by rfl) ?_)
      | (refine plan_take _ _ rfl (.inl ⟨by rfl, fun W hS => by clear hS; go_simp; try with_reducible rfl⟩) ?_)
    try simp only [Act.put, List.setIfInBounds_toArray, List.set_cons_zero, List.set_cons_succ]
  refine plan_run _ rfl (fun K hK => ?_)
  go_simp
  have hb3 := hb2.alloc hb2.size (.cells #[.map (some w.drew.heap.size), .map (some w1.heap.size)] 72)
  have hq := (Below.refl w2.heap.size w2).alloc (Nat.le_refl _) (.cells #[.map (some w.drew.heap.size), .map (some w1.heap.size)] 72)
  have hH := Has.new w2 72 #[.map (some w.drew.heap.size), .map (some w1.heap.size)]
  refine hK.out _ _ hb3 ?_
  clear hK K
  iterate 1
    first
      | (refine plan_pass _ rfl (by rfl) ?_)
      | (refine plan_take _ _ rfl (.inl ⟨by rfl, fun W hS => by clear hS; go_simp; try with_reducible rfl⟩) ?_)
    try simp only [Act.put, List.setIfInBounds_toArray, List.set_cons_zero, List.set_cons_succ]
  refine plan_done ?_
  have hs1' := hb1.size
  go_wp2
  go_ret
  exact ⟨w2.heap.size, w.drew.heap.size, w1.heap.size, rfl, ⟨hg, hH, hD.later hq, hE.later hq, by omega, by omega, by omega⟩, by omega, by omega, by omega, hb3⟩
end Go.Proofs.Ytmfgmdglpeadbaa
