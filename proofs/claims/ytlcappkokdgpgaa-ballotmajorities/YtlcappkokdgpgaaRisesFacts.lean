/- A ballot held against itself; what a step makes of an acceptor. -/
import Derived.Test.YtlcappkokdgpgaaBalKnown
import Derived.Test.YtlcappkokdgpgaaBalFacts
import Derived.Test.YtlcappkokdgpgaaBalOpen
namespace Go.Proofs.Ytlcappkokdgpgaa
set_option linter.unusedSimpArgs false
set_option linter.unusedVariables false
set_option maxRecDepth 100000
open Go.RowKit

section laws
variable {ops : Array Oper} {o : Oper} {a : Act} {S : World → Prop}
theorem yields_bal_nes (b : BalV) (hb : BalOk b) (hw : Region.wanted o (yielded ops a.tmps) = true) (x y : Operand) (ty' : TypeId) (ho : o.op = .binOp .neq 29 x y ty') (hx : a.eval x = .agg (balC b)) (hy : a.eval y = .agg (balC b)) : YieldsIf Try.prog ops S o (.bool false) a := by
  have := yields_bal_ne (S := S) b b hb hb hw x y ty' ho hx hy
  rw [same_self] at this
  exact this
theorem yields_inc_nes (b : IncV) (hb : IncOk b) (hw : Region.wanted o (yielded ops a.tmps) = true) (x y : Operand) (ty' : TypeId) (ho : o.op = .binOp .neq 31 x y ty') (hx : a.eval x = .agg (incC b)) (hy : a.eval y = .agg (incC b)) : YieldsIf Try.prog ops S o (.bool false) a := by
  have := yields_inc_ne (S := S) b b hb hb hw x y ty' ho hx hy
  rw [(sameInc_is b b).2 rfl] at this
  exact this
end laws

/-- What a step makes of an acceptor. -/
structure Rise (a A : AccV) (b : BalV) (E : Nat) : Prop where
  up : lessB A.pro a.pro = false
  inv : lessB A.pro A.acc = false
  same : E ≠ 0 → A = a
  pro : E = 0 → A.pro = b
  low : lessB b a.pro = true → E ≠ 0

theorem less_trans {a b c : BalV} (h1 : lessB a b = false) (h2 : lessB b c = false) : lessB a c = false := by
  rw [← Bool.not_eq_true, lessB_is] at *
  omega
theorem rise_acc (a : AccV) (b : BalV) (x : IncV) (h : lessB a.pro a.acc = false) : Rise a (accM a b x) b (errA a.pro b x) := by
  rcases errA_cases a.pro b x with ⟨h1, h2⟩ | ⟨h1, h2, h3, h4⟩ | ⟨h1, h2, h3, h4⟩
  · have : accM a b x = a := by unfold accM; rw [h1]; rfl
    rw [this, h1]
    exact ⟨less_same _, h, fun _ => rfl, fun e => by omega, fun _ => by omega⟩
  · have : accM a b x = a := by unfold accM; rw [h1]; rfl
    rw [this, h1]
    exact ⟨less_same _, h, fun _ => rfl, fun e => by omega, fun _ => by omega⟩
  · have : accM a b x = ⟨b, b, x⟩ := by unfold accM; rw [h1]; rfl
    rw [this, h1]
    exact ⟨h4, less_same _, fun e => absurd rfl e, fun _ => rfl, fun e => by rw [h4] at e; cases e⟩
theorem rise_prep (a : AccV) (b : BalV) (h : lessB a.pro a.acc = false) : Rise a (prepM a b) b (errP a.pro b) := by
  rcases errP_cases a.pro b with ⟨h1, h2⟩ | ⟨h1, h2, h3⟩ | ⟨h1, h2, h3⟩
  · have : prepM a b = a := by unfold prepM; rw [h1]; rfl
    rw [this, h1]
    exact ⟨less_same _, h, fun _ => rfl, fun e => by omega, fun _ => by omega⟩
  · have : prepM a b = a := by unfold prepM; rw [h1]; rfl
    rw [this, h1]
    exact ⟨less_same _, h, fun _ => rfl, fun e => by omega, fun _ => by omega⟩
  · have : prepM a b = ⟨b, a.acc, a.inc⟩ := by unfold prepM; rw [h1]; rfl
    rw [this, h1]
    exact ⟨h3, less_trans h3 h, fun e => absurd rfl e, fun _ => rfl, fun e => by rw [h3] at e; cases e⟩

end Go.Proofs.Ytlcappkokdgpgaa
