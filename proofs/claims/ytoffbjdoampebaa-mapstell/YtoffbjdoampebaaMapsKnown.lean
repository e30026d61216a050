/- paddocklaw3.known returns true; nothing that was there is written. -/
import Derived.Test.YtoffbjdoampebaaMapsSpec
import Derived.Test.YtoffbjdoampebaaMapsFold
namespace Go.Proofs.Ytoffbjdoampebaa
set_option linter.unusedSimpArgs false
set_option linter.unusedVariables false
open Go.RowKit


/-- The map of 'known'. -/
def kM : MapV := applyM firstM ⟨2, 2, 0⟩

theorem known_ok : okA firstM ⟨2, 2, 0⟩ = true := by decide
theorem known_no : okA zeroM ⟨4, 0, 0⟩ = false := by decide

theorem errI_true : errI true = 0 := rfl
theorem errI_false : errI false = 40 := rfl
theorem kM_eq : applyM firstM ⟨2, 2, 0⟩ = nextM firstM ⟨2, 2, 0⟩ := by unfold applyM; rw [known_ok]; rfl
theorem kM_0 : (mapC (applyM firstM ⟨2, 2, 0⟩))[0]? = some (.int .u32 2) := by rw [kM_eq, mapC_epoch]; rfl
theorem kM_7 : (mapC (applyM firstM ⟨2, 2, 0⟩))[7]? = some (.bool false) := by rw [kM_eq]; exact mapC_up _ 2
theorem kM_10 : (mapC (applyM firstM ⟨2, 2, 0⟩))[10]? = some (.bool true) := by rw [kM_eq]; exact mapC_up _ 3
theorem kM_in : (inL (applyM firstM ⟨2, 2, 0⟩)).length = 5 := by rw [kM_eq]; decide
theorem kM_up : (upL (applyM firstM ⟨2, 2, 0⟩)).length = 4 := by rw [kM_eq]; decide
theorem first_is : isM firstM = true := by decide
theorem kM_ok : MapOk (applyM firstM ⟨2, 2, 0⟩) := by
  rw [kM_eq]
  exact next_ok firstM_ok ⟨by decide, by decide, by decide, by decide⟩ (by decide)

set_option maxRecDepth 100000 in
set_option maxHeartbeats 1000000 in
theorem known_any (S : MapsSpec) (w : World) :
    Calls Try.prog 9 #[] w fun e w' => e = .returned (.bool true) ∧ Below w.heap.size w w' := by
  go_enter Try.func9, Try.ntmps9
  go_wp2_with fail
  refine (S.first _).mono ?_
  rintro e w1 ⟨rfl, hb1⟩
  go_wp2_with fail
  refine (S.apply firstM ⟨2, 2, 0⟩ _ firstM_ok ⟨by decide, by decide, by decide, by decide⟩).mono ?_
  rintro e w2 ⟨rfl, hb2⟩
  replace hb2 := hb1.trans (hb2.mono hb1.size)
  clear hb1
  rw [known_ok, errI_true]
  go_wp2_with (first
    | (refine alloc_map (by rfl) rfl ?_)
    | (refine build_map0 (by rfl) rfl ?_)
    | (refine store_map _ zeroM (by rfl) _ _ rfl _ rfl rfl (Has.new _ _ _) ?_))
  have hH := (Has.new w2 27 (mapC zeroM)).row (mapC (applyM firstM ⟨2, 2, 0⟩))
  have hb3 := below_setRow (hb2.alloc hb2.size (.cells (mapC zeroM) 27)) hb2.size (mapC (applyM firstM ⟨2, 2, 0⟩))
  clear hb2
  refine (S.apply zeroM ⟨4, 0, 0⟩ _ zeroM_ok ⟨by decide, by decide, by decide, by decide⟩).mono ?_
  rintro e w3 ⟨rfl, hb4⟩
  rw [known_no, errI_false]
  replace hH := hH.later hb4
  replace hb4 := hb3.trans (hb4.mono hb3.size)
  clear hb3
  have hH4 := (hH.alloc (.cells (mapC zeroM) 27)).row_other (k := w3.heap.size) (by have := hH.lt; omega) (mapC (applyM zeroM ⟨4, 0, 0⟩))
  have hb5 := below_setRow (hb4.alloc hb4.size (.cells (mapC zeroM) 27)) hb4.size (mapC (applyM zeroM ⟨4, 0, 0⟩))
  have c0 := hH4.cell 0
  have c7 := hH4.cell 7
  have c10 := hH4.cell 10
  rw [kM_0] at c0
  rw [kM_7] at c7
  rw [kM_10] at c10
  go_wp2_with (first
    | (refine alloc_map (by rfl) rfl ?_)
    | (refine store_map _ zeroM (by rfl) _ _ rfl _ rfl rfl (Has.new _ _ _) ?_))
  refine (S.first _).mono ?_
  rintro e w6 ⟨rfl, hb6⟩
  replace hH4 := hH4.later hb6
  replace hb6 := hb5.trans (hb6.mono hb5.size)
  clear hb5 c0 c7 c10
  go_wp2_with fail
  refine (S.is _ _ firstM_ok).mono ?_
  rintro e w7 ⟨rfl, hb7⟩
  rw [first_is]
  replace hH4 := hH4.later hb7
  replace hb7 := hb6.trans (hb7.mono hb6.size)
  clear hb6
  go_wp2_with (first
    | (refine load_map _ (by rfl) _ rfl _ rfl hH4 ?_))
  refine (S.inn _ _ kM_ok).mono ?_
  rintro e w8 ⟨ao, c, rfl, hIx, hb8⟩
  replace hH4 := hH4.later hb8
  replace hb8 := hb7.trans (hb8.mono hb7.size)
  have hcap := hIx.cap
  have hle := hIx.le
  rw [kM_in] at *
  clear hb7
  go_wp2_with (first
    | (refine load_map _ (by rfl) _ rfl _ rfl hH4 ?_))
  refine (S.up _ _ kM_ok).mono ?_
  rintro e w9 ⟨bo, d, rfl, hIx2, hb9⟩
  replace hb9 := hb8.trans (hb9.mono hb8.size)
  rw [kM_up] at *
  go_wp2
  go_ret
  exact ⟨rfl, hb9⟩
end Go.Proofs.Ytoffbjdoampebaa
