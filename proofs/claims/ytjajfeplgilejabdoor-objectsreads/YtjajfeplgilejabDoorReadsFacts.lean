/- ObjectsReads: what readM tells of an object that is there, and of one that isn't. -/
import Derived.Test.YtjajfeplgilejabDoorObjFacts
namespace Go.Proofs.YtjajfeplgilejabDoor
set_option linter.unusedSimpArgs false
set_option linter.unusedVariables false
open Go.RowKit

def opRd (k : Nat) : OpV := ⟨1, 1, 5, k, 0, []⟩
theorem opRd_is {k : Nat} (h : k < 6) : isOpM (opRd k) = true := by rw [isOp_is]; simp [opRd, h]
theorem opRd_ok {k : Nat} (h : k < 6) : OpOk (opRd k) := ⟨by show 1 < _; decide, by show 1 < _; decide, by show 5 < _; decide, by show k < _; omega, by show 0 < _; decide, by show 0 ≤ _; decide⟩

def attrN (v : List UInt8) : Nat := if v = [] then 0 else 3 + v.length
theorem attrS_len (k : Nat) (v : List UInt8) : (attrS k v).length = attrN v := by
  unfold attrS attrN
  split
  · rfl
  · simp; omega

theorem reads_not {b : BaseV} (i : Fin 6) (hx : (b.obj i).there = false) : readM b (opRd i.val) = ⟨1, []⟩ := by
  unfold readM
  rw [if_pos ⟨opRd_is i.isLt, rfl⟩, objOf_at i rfl, if_neg (by rw [hx]; decide)]
theorem reads_there {b : BaseV} (i : Fin 6) (hx : (b.obj i).there = true) :
    ∃ T, readM b (opRd i.val) = ⟨0, (b.obj i).data ++ T⟩ ∧ T.length = attrN (b.obj i).a0 + attrN (b.obj i).a1 + attrN (b.obj i).a2 := by
  refine ⟨attrS 0 (b.obj i).a0 ++ attrS 1 (b.obj i).a1 ++ attrS 2 (b.obj i).a2, ?_, ?_⟩
  · unfold readM
    rw [if_pos ⟨opRd_is i.isLt, rfl⟩, objOf_at i rfl, if_pos hx]
    simp
  · rw [List.length_append, List.length_append, attrS_len, attrS_len, attrS_len]
end Go.Proofs.YtjajfeplgilejabDoor
