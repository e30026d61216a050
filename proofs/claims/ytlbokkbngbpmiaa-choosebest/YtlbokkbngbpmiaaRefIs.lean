/- The contract of the document's Is. -/
import Derived.Test.YtlbokkbngbpmiaaPackMaps
namespace Go.Proofs.Ytlbokkbngbpmiaa
set_option linter.unusedSimpArgs false
set_option linter.unusedVariables false
open Go.RowKit

set_option maxRecDepth 100000 in
set_option maxHeartbeats 1000000 in
theorem refis_any (m : MapV) (w : World) (hm : MapOk m) :
    Calls Try.prog 72 #[.agg (mapC m)] w fun e w' => e = .returned (.bool (isM m)) ∧ Below w.heap.size w w' := by
  go_enter Try.func72, Try.ntmps72
  go_wp2
  have hH := Has.new w 106 (mapC m)
  have hb := (Below.refl w.heap.size w).alloc (Nat.le_refl _) (.cells (mapC m) 106)
  generalize w.alloc (.cells (mapC m) 106) = w1 at *
  go_loopw [3] (fun i wr => ∃ n : Nat, n ≤ 5 ∧ i = .int .i64 n ∧ (∀ j : Fin 5, j.val < n → osdOk (m.osd j) = true) ∧ Has wr w.heap.size 106 (mapC m) ∧ Below w.heap.size w wr) (fun i _ => (5 - intOf i).toNat)
  case atStart => exact ⟨0, by decide, rfl, fun j h => absurd h (by omega), hH, hb⟩
  case round =>
    obtain ⟨n, hn, rfl, hok, hHr, hbr⟩ := hrel
    by_cases hlt : n < 5
    · have c0 := hHr.cell (1 + n * 3)
      have c1 := hHr.cell (1 + n * 3 + 1)
      have c2 := hHr.cell (1 + n * 3 + 2)
      rw [mapC_up m ⟨n, hlt⟩] at c0
      rw [mapC_wt m ⟨n, hlt⟩] at c1
      rw [mapC_host m ⟨n, hlt⟩] at c2
      generalize hoo : m.osd ⟨n, hlt⟩ = o at *
      have ho : Hid _ := osdOk_is o
      have hup : Hid (∀ j : Fin 5, j.val < n + 1 → osdOk o = true → osdOk (m.osd j) = true) := by
        intro j hj hk
        by_cases e : j.val < n
        · exact hok j e
        · have : j = ⟨n, hlt⟩ := Fin.ext (by show j.val = n; omega)
          rw [this, hoo]
          exact hk
      have hbad : Hid (osdOk o = false → isM m = false) := fun h => by rw [← hoo] at h; exact isM_bad h
      have hw := hm.wt ⟨n, hlt⟩
      have hh := hm.host ⟨n, hlt⟩
      rw [hoo] at hw hh
      clear hoo
      go_wp2
      all_goals first
        | (go_ret
           refine ⟨?_, hbr.alloc hbr.size _⟩
           rw [hbad.out (Bool.eq_false_iff.2 (fun h => by have := ho.out.1 h; omega))]
           rfl)
        | (go_roundw
           case rel => exact ⟨n + 1, by omega, by go_num, fun j hj => hup.out j hj (ho.out.2 (by omega)), hHr.alloc _, hbr.alloc hbr.size _⟩
           case measure => simp [intOf]; omega)
    · have hg : Hid _ := isM_good (m := m) (fun j => hok j (by have := j.isLt; omega))
      have c0 := hHr.cell 0
      rw [mapC_epoch] at c0
      have he := hm.epoch
      go_wp2
      all_goals
        go_ret
        refine ⟨ret_bool ?_, hbr⟩
        rw [hg.out, Bool.eq_iff_iff]
        simp
        omega
end Go.Proofs.Ytlbokkbngbpmiaa
