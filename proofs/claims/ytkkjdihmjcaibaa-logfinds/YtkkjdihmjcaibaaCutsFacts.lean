/- What cutting and folding a row's state at a number comes to. -/
import Derived.Test.YtkkjdihmjcaibaaLogOps
namespace Go.Proofs.Ytkkjdihmjcaibaa
set_option linter.unusedSimpArgs false
set_option linter.unusedVariables false
open Go.RowKit

/-- Of a state that was cut (A) or folded (B) at number k. -/
structure CutState (q : Nat) (D : List OpV) (S : StV) (k : Nat) (A B : StV) (C E : BaseV) : Prop where
  cut : cutM S k = (A, 0)
  tail : tailM S k = (B, 0)
  upto : uptoM S k = (C, true)
  okA : StOk A
  okB : StOk B
  isA : isM A = true
  isB : isM B = true
  headA : ∃ p, headM A = (p, k)
  headB : ∃ p, headM B = (p, D.length)
  foldA : foldM A = C
  foldB : foldM B = E
  foldS : foldM S = E
  tailB : B.tail.n = k
  baseB : B.base = C
  okC : BaseOk C
  okE : BaseOk E
  allC : (allM base0 (D.take k)).1 = C
  none1 : cutM S (D.length + 1) = (st0, 141)
  none2 : tailM S (D.length + 1) = (st0, 141)
theorem cutState {q : Nat} {D : List OpV} {S : StV} (hS : S = sK q D (D.length - 6)) (hq : q ≤ 60) (hD : ∀ o ∈ D, writesM o = true) (ho : ∀ o ∈ D, OpOk o) (hl : D.length ≤ 60) {k : Nat} (h1 : D.length - 6 ≤ k) (h2 : k ≤ D.length) :
    CutState q D S k (sK q (D.take k) (D.length - 6)) (sK q D k) (allM base0 (D.take k)).1 (allM base0 D).1 := by
  subst hS
  have hDt : ∀ o ∈ D.take k, writesM o = true := fun o h => hD o (List.mem_of_mem_take h)
  have hot : ∀ o ∈ D.take k, OpOk o := fun o h => ho o (List.mem_of_mem_take h)
  have hlt : (D.take k).length = k := by rw [List.length_take]; omega
  exact {
    cut := sK_cut hq hD (by omega) (by omega) h1 h2
    tail := sK_tail hq hD (by omega) (by omega) h1 h2
    upto := sK_upto hq hD (by omega) (by omega) h1 h2
    okA := sK_ok hq hot (by omega) (by omega)
    okB := sK_ok hq ho (by omega) h2
    isA := sK_is hq hDt (by omega)
    isB := sK_is hq hD (by omega)
    headA := ⟨_, by rw [sK_headM hq hDt (by omega) (by omega), hlt]⟩
    headB := ⟨_, sK_headM hq hD (by omega) h2⟩
    foldA := sK_fold hq hDt (by omega)
    foldB := sK_fold hq hD (by omega)
    foldS := sK_fold hq hD (by omega)
    tailB := sK_tail_n
    baseB := rfl
    okC := all_ok base0_ok _ hot
    okE := all_ok base0_ok _ ho
    allC := rfl
    none1 := (sK_none hq hD (by omega) (by omega)).1
    none2 := (sK_none hq hD (by omega) (by omega)).2 }
end Go.Proofs.Ytkkjdihmjcaibaa
