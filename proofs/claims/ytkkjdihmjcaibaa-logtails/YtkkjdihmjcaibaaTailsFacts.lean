/- What folding a row's state in two goes comes to, and adding behind it. -/
import Derived.Test.YtkkjdihmjcaibaaAddFacts
import Derived.Test.YtkkjdihmjcaibaaCutsLaw
namespace Go.Proofs.Ytkkjdihmjcaibaa
set_option linter.unusedSimpArgs false
set_option linter.unusedVariables false
open Go.RowKit

structure TailState (S : StV) (x y : Nat) (e : EntV) (T V : StV) (A B : StV × Nat) (G : BaseV) : Prop where
  t1 : tailM S x = (T, 0)
  t2 : tailM T y = (V, 0)
  t3 : tailM S y = (V, 0)
  t4 : x = y → tailM V x = (V, 0)
  t5 : x < y → tailM V x = (st0, 80)
  okT : StOk T
  okV : StOk V
  a : addM V e = A
  b : addM S e = B
  err : A.2 = B.2
  fA : foldM A.1 = G
  fB : foldM B.1 = G
  okA : StOk A.1
  okB : StOk B.1
  okG : BaseOk G
theorem tailState {q : Nat} {D : List OpV} {S : StV} (hS : S = sK q D (D.length - 6)) (hq : q ≤ 60) (hD : ∀ o ∈ D, writesM o = true) (ho : ∀ o ∈ D, OpOk o) (hl : D.length ≤ 60) {x y : Nat} (h1 : D.length - 6 ≤ x) (h2 : x ≤ y) (h3 : y ≤ D.length) {e : EntV} (he : EntOk e) :
    ∃ T V A B G, TailState S x y e T V A B G := by
  subst hS
  have hSo : StOk (sK q D (D.length - 6)) := sK_ok hq ho (by omega) (by omega)
  have hVo : StOk (sK q D y) := sK_ok hq ho (by omega) h3
  have hSi : isM (sK q D (D.length - 6)) = true := sK_is hq hD (by omega)
  have hVi : isM (sK q D y) = true := sK_is hq hD (by omega)
  have c1 := can_row (e := e) hSi (by omega)
  have c2 := can_row (e := e) hVi h3
  have f1 : foldM (sK q D (D.length - 6)) = (allM base0 D).1 := sK_fold hq hD (by omega)
  have f2 : foldM (sK q D y) = (allM base0 D).1 := sK_fold hq hD (by omega)
  have hc : canM (sK q D y) e = canM (sK q D (D.length - 6)) e := c2.trans c1.symm
  have hE := all_ok base0_ok D ho
  have base : ∀ G, foldM (addM (sK q D y) e).1 = G → foldM (addM (sK q D (D.length - 6)) e).1 = G → BaseOk G → (addM (sK q D y) e).2 = (addM (sK q D (D.length - 6)) e).2 → ∃ T V A B G, TailState (sK q D (D.length - 6)) x y e T V A B G := fun G g1 g2 g3 g4 =>
    ⟨sK q D x, sK q D y, _, _, G, {
      t1 := sK_tail hq hD (by omega) (by omega) h1 (by omega)
      t2 := sK_tail hq hD (by omega) (by omega) h2 h3
      t3 := sK_tail hq hD (by omega) (by omega) (by omega) h3
      t4 := fun hxy => by subst hxy; exact sK_tail hq hD (by omega) (by omega) (Nat.le_refl _) h3
      t5 := fun hxy => sK_below hq hD (by omega) h3 hxy
      okT := sK_ok hq ho (by omega) (by omega)
      okV := hVo
      a := rfl
      b := rfl
      err := g4
      fA := g1
      fB := g2
      okA := add_ok hVo he
      okB := add_ok hSo he
      okG := g3 }⟩
  cases hcs : canM (sK q D (D.length - 6)) e with
  | false =>
    rw [hcs] at hc
    exact base base0 (by rw [add_no hc]; exact fold_st0) (by rw [add_no hcs]; exact fold_st0) base0_ok (by rw [add_no hc, add_no hcs])
  | true =>
    rw [hcs] at hc
    exact base (doM (allM base0 D).1 e.op).1 (by rw [add_fold hc, f2]) (by rw [add_fold hcs, f1]) (do_ok hE he.op).1 (by rw [add_yes hc, add_yes hcs])
end Go.Proofs.Ytkkjdihmjcaibaa
