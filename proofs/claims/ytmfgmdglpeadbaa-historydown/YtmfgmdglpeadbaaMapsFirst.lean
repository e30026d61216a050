/- The contract of maps.First. -/
import Derived.Test.YtmfgmdglpeadbaaRefFirst
namespace Go.Proofs.Ytmfgmdglpeadbaa
set_option linter.unusedSimpArgs false
set_option linter.unusedVariables false
open Go.RowKit

set_option maxRecDepth 100000 in
set_option maxHeartbeats 1000000 in
theorem first_any (w : World) :
    Calls Try.prog 28 #[] w fun e w' => e = .returned (.agg (mapC firstM)) ∧ Below w.heap.size w w' := by
  have hA : Has ((w.alloc (.cells (mapC zeroM) 44)).alloc (.cells (mapC zeroM) 44)) (w.heap.size + 1) 44 (mapC zeroM) := by
    have := Has.new (w.alloc (.cells (mapC zeroM) 44)) 44 (mapC zeroM)
    simpa using this
  have hR : Has ((w.alloc (.cells (mapC zeroM) 44)).alloc (.cells (mapC zeroM) 44)) w.heap.size 44 (mapC zeroM) := (Has.new _ _ _).alloc _
  have hb : Below w.heap.size w ((w.alloc (.cells (mapC zeroM) 44)).alloc (.cells (mapC zeroM) 44)) := ((Below.refl _ _).alloc (Nat.le_refl _) _).alloc (by simp) _
  go_enter Try.func28, Try.ntmps28
  go_wp2_with (first
    | (refine alloc_map (by rfl) rfl ?_)
    | (refine build_first (by rfl) rfl ?_)
    | (refine store_map _ zeroM (by rfl) _ _ rfl _ rfl rfl (Has.new _ _ _) ?_))
  have hA1 := hA.row (mapC (firstTo 0))
  have hR1 := hR.row_other (k := w.heap.size + 1) (by omega) (mapC (firstTo 0))
  have hb1 := below_setRow (g := w.heap.size + 1) hb (by omega) (mapC (firstTo 0))
  clear hA hR hb
  generalize ((w.alloc (.cells (mapC zeroM) 44)).alloc (.cells (mapC zeroM) 44)).setRow (w.heap.size + 1) (mapC (firstTo 0)) = w1 at *
  go_loopw [4] (fun i wr => ∃ n : Nat, n ≤ 5 ∧ i = .int .i64 n ∧ Has wr (w.heap.size + 1) 44 (mapC (firstTo n)) ∧ Has wr w.heap.size 44 (mapC zeroM) ∧ Below w.heap.size w wr) (fun i _ => (5 - intOf i).toNat)
  case atStart => exact ⟨0, by decide, rfl, hA1, hR1, hb1⟩
  case round =>
    obtain ⟨n, hn, rfl, hA2, hR2, hb2⟩ := hrel
    by_cases hlt : n < 5
    · have c0 := hA2.cell (1 + n * 3)
      have c1 := hA2.cell (1 + n * 3 + 1)
      have c2 := hA2.cell (1 + n * 3 + 2)
      rw [mapC_up _ ⟨n, hlt⟩] at c0
      rw [mapC_wt _ ⟨n, hlt⟩] at c1
      rw [mapC_host _ ⟨n, hlt⟩] at c2
      have f0 := hA2.free
      have hA3 := hA2.put3 ⟨n, hlt⟩ true 8 (n % 4)
      rw [firstTo_succ ⟨n, hlt⟩] at hA3
      go_wp2
      go_roundw
      case rel => exact ⟨n + 1, by omega, by go_num, hA3, ((hR2.set_other (by simp) _).set_other (by simp) _).set_other (by simp) _, ((hb2.setCell (by simp) _).setCell (by simp) _).setCell (by simp) _⟩
      case measure => simp [intOf]; omega
    · have e5 : n = 5 := by omega
      subst e5
      rw [firstTo_5] at hA2
      go_wp2_with (first
        | (refine load_map _ (by rfl) _ rfl _ rfl hA2 ?_)
        | (refine store_map _ zeroM (by rfl) _ _ rfl _ rfl rfl hR2 ?_))
      exact ret_map _ rfl _ rfl (hR2.row _) rfl ⟨rfl, below_setRow hb2 (Nat.le_refl _) _⟩
end Go.Proofs.Ytmfgmdglpeadbaa
