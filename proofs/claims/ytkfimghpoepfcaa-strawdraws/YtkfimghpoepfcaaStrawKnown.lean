/- paddocklaw2.known returns true; nothing that was there is written. -/
import Derived.Test.YtkfimghpoepfcaaStraws
import Derived.Test.YtkfimghpoepfcaaBest
namespace Go.Proofs.Ytkfimghpoepfcaa
open Go.RowKit
set_option linter.unusedVariables false

theorem log_of (u : Nat) (z : Int) (w : World) (hu : u < 4294967296) (hz : (logN u : Int) = z) :
    Calls Try.prog 10 #[.int .u32 u] w fun e w' => e = .returned (.int .i64 z) ∧ Below w.heap.size w w' := by
  have := log_any u w hu
  rw [hz] at this
  exact this

theorem known1 : (logN 1 : Int) = 0 := by rw [show logN 1 = 0 from logN_pow (k := 0) (by decide)]; rfl
theorem known2 : (logN 65536 : Int) = 1048576 := by rw [logN_top (Nat.le_refl _)]; rfl
theorem known3 : (logN 2 : Int) = 65536 := by rw [show logN 2 = 1 * 65536 from logN_pow (k := 1) (by decide)]; rfl
theorem known4 : strawI 65535 1 = 0 := by
  have e : lackN 65535 = 0 := by
    unfold lackN
    rw [show 65535 % 65536 + 1 = 65536 from rfl, logN_top (Nat.le_refl _)]
  unfold strawI
  rw [e]
  rfl

theorem best_nil (w : World) :
    Calls Try.prog 17 #[.slice none 0 0] w fun e w' => e = .returned (.int .i64 (-1)) ∧ w' = w := by
  refine (best_any none 0 [] w ⟨Nat.le_refl _, by decide, fun _ => rfl, (fun _ h => by cases h), (fun x hx => by cases hx)⟩).mono ?_
  rintro e w' ⟨k, rfl, hB, rfl⟩
  rcases hB with ⟨_, rfl⟩ | ⟨m, _, hm, _⟩
  · exact ⟨rfl, rfl⟩
  · exact absurd hm (by simp)

theorem best_355 (w : World) (g : Nat) (h0 : w.cell? ⟨g, 0, none⟩ = some (.int .i64 3)) (h1 : w.cell? ⟨g, 1, none⟩ = some (.int .i64 5)) (h2 : w.cell? ⟨g, 2, none⟩ = some (.int .i64 5)) :
    Calls Try.prog 17 #[.slice (some ⟨g, 0, none⟩) 3 3] w fun e w' => e = .returned (.int .i64 1) ∧ w' = w := by
  refine (best_any (some ⟨g, 0, none⟩) 3 [3, 5, 5] w ⟨Nat.le_refl _, by decide, (fun h => by cases h), fun ad had j hj => ?_, fun x hx => ?_⟩).mono ?_
  · obtain rfl := Option.some.inj had
    match j, hj with
    | 0, _ => exact h0
    | 1, _ => exact h1
    | 2, _ => exact h2
  · simp at hx
    omega
  rintro e w' ⟨k, rfl, hB, rfl⟩
  rcases hB with ⟨h, _⟩ | ⟨m, rfl, hm, h⟩
  · cases h
  · have hm : m < 3 := hm
    have a0 := h 0 (by decide)
    have a1 := h 1 (by decide)
    match m, hm with
    | 0, _ => exact absurd a1.1 (by decide)
    | 1, _ => exact ⟨rfl, rfl⟩
    | 2, _ => exact absurd (a1.2 (by decide)) (by decide)

set_option maxRecDepth 100000 in
set_option maxHeartbeats 1000000 in
theorem known_any (w : World) :
    Calls Try.prog 9 #[] w fun e w' => e = .returned (.bool true) ∧ Below w.heap.size w w' := by
  go_enter Try.func9, Try.ntmps9
  go_wp2_with fail
  refine (log_of 1 _ _ (by decide) known1).mono ?_
  rintro e w1 ⟨rfl, hb1⟩
  go_wp2_with fail
  refine (log_of 65536 _ _ (by decide) known2).mono ?_
  rintro e w2 ⟨rfl, hb2⟩
  replace hb2 := hb1.trans (hb2.mono hb1.size)
  clear hb1
  go_wp2_with fail
  refine (log_of 2 _ _ (by decide) known3).mono ?_
  rintro e w3 ⟨rfl, hb3⟩
  replace hb3 := hb2.trans (hb3.mono hb2.size)
  clear hb2
  go_wp2_with fail
  have hs := straw_any 65535 1 w3 (by decide) (by decide) (by decide)
  rw [known4] at hs
  refine hs.mono ?_
  rintro e w4 ⟨rfl, hb4⟩
  replace hb4 := hb3.trans (hb4.mono hb3.size)
  clear hb3 hs
  go_wp2_with fail
  refine (best_355 _ w4.heap.size (by simp) (by simp) (by simp)).mono ?_
  rintro e w5 ⟨rfl, rfl⟩
  go_wp2_with fail
  refine (best_nil _).mono ?_
  rintro e w6 ⟨rfl, rfl⟩
  go_wp2
  go_ret
  exact ⟨rfl, hb4.alloc hb4.size _⟩
end Go.Proofs.Ytkfimghpoepfcaa
