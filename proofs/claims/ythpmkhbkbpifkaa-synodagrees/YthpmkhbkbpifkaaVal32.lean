/- Remainders and sums of numbers of 32 bits, whose value the prover names. Nothing of the program is in it. -/
import Derived.Test.YthpmkhbkbpifkaaPackTools
namespace Go.Proofs.Ythpmkhbkbpifkaa
set_option linter.unusedSimpArgs false
set_option linter.unusedVariables false
open Go.RowKit

theorem run_rem_n32 {P : Program} {o : Oper} {ev : Operand → Value} (ty ty' : TypeId) (x y : Operand) (ho : o.op = .binOp .rem ty x y ty') (n m k : Nat) (hx : ev x = .int .u32 (n : Int)) (hy : ev y = .int .u32 (m : Int)) (hn : n < 4294967296) (hm : 0 < m) (hk : n % m = k) (w : World) :
    (execOp ev o).run P w = .ok (.value (.int .u32 (k : Int))) w := by
  subst hk
  have h1 : ((m : Int) = 0) = False := by simp; omega
  have h2 : (n : Int).tmod (m : Int) = ((n % m : Nat) : Int) := rfl
  have h3 : n % m < 4294967296 := Nat.lt_of_le_of_lt (Nat.mod_le _ _) hn
  have h4 : IntKind.u32.wrap ((n % m : Nat) : Int) = ((n % m : Nat) : Int) := by
    simp [IntKind.wrap, IntKind.bits, IntKind.signed]
    omega
  unfold execOp
  simp only [ho, hx, hy]
  simp [Sem.run_bind, go_sem, h1, h2, h4]
  omega
theorem run_add_n32 {P : Program} {o : Oper} {ev : Operand → Value} (ty ty' : TypeId) (x y : Operand) (ho : o.op = .binOp .add ty x y ty') (n m k : Nat) (hx : ev x = .int .u32 (n : Int)) (hy : ev y = .int .u32 (m : Int)) (hk : n + m = k) (hl : k < 4294967296) (w : World) :
    (execOp ev o).run P w = .ok (.value (.int .u32 (k : Int))) w := by
  subst hk
  have h4 : IntKind.u32.wrap ((n : Int) + (m : Int)) = ((n + m : Nat) : Int) := by
    simp [IntKind.wrap, IntKind.bits, IntKind.signed]
    omega
  unfold execOp
  simp only [ho, hx, hy]
  simp [Sem.run_bind, go_sem, h4]
end Go.Proofs.Ythpmkhbkbpifkaa
