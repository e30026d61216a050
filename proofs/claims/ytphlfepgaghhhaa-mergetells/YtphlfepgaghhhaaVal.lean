/- Operations whose value the prover names. Nothing of the program is in it. -/
import Derived.Test.YtphlfepgaghhhaaPart
namespace Go.Proofs.Ytphlfepgaghhhaa
set_option linter.unusedSimpArgs false
set_option linter.unusedVariables false
open Go.RowKit

section laws
variable {P : Program} {ops : Array Oper} {rest : List Oper} {o : Oper} {a : Act} {w : World} {Q : Exit → Act → World → Prop}

/-- An operation whose value the prover names. -/
theorem wpList_val (v : Value) (hw : Region.wanted o (yielded ops a.tmps) = true) (hr : ∀ w, (execOp a.eval o).run P w = .ok (.value v) w) (h : wpList P ops Q rest (a.put o.dst v) w) : wpList P ops Q (o :: rest) a w := by
  refine BigFrame.wpList_want hw fun K hK => ?_
  unfold Oper.wp
  rw [hr w]
  exact hK _ _ h

/-- The remainder of a byte by a number above nought. -/
theorem run_rem_u8 {ev : Operand → Value} (ty ty' : TypeId) (x y : Operand) (ho : o.op = .binOp .rem ty x y ty') (n m k : Nat) (hx : ev x = .int .u8 (n : Int)) (hy : ev y = .int .u8 (m : Int)) (hn : n < 256) (hm : 0 < m) (hk : n % m = k) (w : World) :
    (execOp ev o).run P w = .ok (.value (.int .u8 (k : Int))) w := by
  subst hk
  have h1 : ((m : Int) = 0) = False := by simp; omega
  have h2 : (n : Int).tmod (m : Int) = ((n % m : Nat) : Int) := rfl
  have h3 : n % m < 256 := Nat.lt_of_le_of_lt (Nat.mod_le _ _) hn
  have h4 : IntKind.u8.wrap ((n % m : Nat) : Int) = ((n % m : Nat) : Int) := by
    simp [IntKind.wrap, IntKind.bits, IntKind.signed]
    omega
  unfold execOp
  simp only [ho, hx, hy]
  simp [Sem.run_bind, go_sem, h1, h2, h4]
  omega
/-- The remainder of a number of 64 bits by one above nought. -/
theorem run_rem_i64 {ev : Operand → Value} (ty ty' : TypeId) (x y : Operand) (ho : o.op = .binOp .rem ty x y ty') (n m k : Nat) (hx : ev x = .int .i64 (n : Int)) (hy : ev y = .int .i64 (m : Int)) (hn : n < 1000000) (hm : 0 < m) (hk : n % m = k) (w : World) :
    (execOp ev o).run P w = .ok (.value (.int .i64 (k : Int))) w := by
  subst hk
  have h1 : ((m : Int) = 0) = False := by simp; omega
  have h2 : (n : Int).tmod (m : Int) = ((n % m : Nat) : Int) := rfl
  have h3 : n % m < 1000000 := Nat.lt_of_le_of_lt (Nat.mod_le _ _) hn
  have h4 : IntKind.i64.wrap ((n % m : Nat) : Int) = ((n % m : Nat) : Int) := by
    simp [IntKind.wrap, IntKind.bits, IntKind.signed]
    omega
  unfold execOp
  simp only [ho, hx, hy]
  simp [Sem.run_bind, go_sem, h1, h2, h4]
  omega
end laws
end Go.Proofs.Ytphlfepgaghhhaa
