/- The contracts of history.New and of Copy, at the landed code. -/
import Derived.Test.YtlbokkbngbpmiaaHistIs
namespace Go.Proofs.Ytlbokkbngbpmiaa
set_option linter.unusedSimpArgs false
set_option linter.unusedVariables false
set_option maxRecDepth 100000
open Go.RowKit

set_option maxHeartbeats 1000000 in
theorem new_at (w : World) : Calls Try.prog 25 #[] w fun e w' => ∃ p b c, e = .returned (ptr p) ∧ IsAt w' p b c [] ∧ w.heap.size ≤ p ∧ w.heap.size ≤ b ∧ w.heap.size ≤ c ∧ Below w.heap.size w w' := by
  have hmm := @run_makeMap Try.prog
  have hB := MapRow.new w 1 0 (epF [])
  have hb0 := (Below.refl w.heap.size w).alloc (Nat.le_refl _) (.map #[] 0)
  go_enter Try.func25, Try.ntmps25
  go_wp2_with fail
  refine (first_any _).mono ?_
  rintro e w1 ⟨rfl, hq⟩
  replace hB := hB.later hq
  have hb1 := hb0.trans (hq.mono hb0.size)
  have hB2 := hB.put (m := 1) (g := epF [])
  have hb2 := below_put hb1 (Nat.le_refl _) (.map (rowN 1 (epF []) 0 1).toArray 1)
  clear hq hb0
  go_wp2_with (first
    | (refine wpList_insert (by rfl) 108 _ _ _ rfl rfl 1 rfl _ rfl hB _ _ under_mm Try.underlying25 rfl (epF []) (fun k hk => absurd hk (by omega)) rfl ?_; generalize putBlock w1 w.heap.size (.map (rowN 1 (epF []) 0 1).toArray 1) = w2 at *))
  have hbs := hB2.lt
  have hb3 := hb2.alloc hb2.size (.map #[] 0)
  have hb4 := hb3.alloc hb3.size (.cells #[.map (some w.heap.size), .map (some w2.heap.size)] 111)
  have hI := hB2.later (((Below.refl _ _).alloc (Nat.le_refl _) (.map #[] 0)).alloc (by simp) (.cells #[.map (some w.heap.size), .map (some w2.heap.size)] 111))
  have hC := (MapRow.new w2 2 0 (inF [])).later ((Below.refl _ _).alloc (Nat.le_refl _) (.cells #[.map (some w.heap.size), .map (some w2.heap.size)] 111))
  have hH : Has ((w2.alloc (.map #[] 0)).alloc (.cells #[.map (some w.heap.size), .map (some w2.heap.size)] 111)) (w2.heap.size + 1) 111 #[.map (some w.heap.size), .map (some w2.heap.size)] := by
    have := Has.new (w2.alloc (.map #[] 0)) 111 #[.map (some w.heap.size), .map (some w2.heap.size)]
    rw [alloc_size] at this
    exact this
  have hs := hb2.size
  go_ret
  exact ⟨w2.heap.size + 1, w.heap.size, w2.heap.size, rfl, ⟨Good.nil, hH, hI, hC, by omega, by omega, by omega⟩, by omega, by omega, by omega, hb4⟩

end Go.Proofs.Ytlbokkbngbpmiaa
