/- What a read tells, up to an attribute. Nothing of the program is in it. -/
import Derived.Test.YtjajfeplgilejaaDoorObjMath
namespace Go.Proofs.YtjajfeplgilejaaDoor
set_option linter.unusedSimpArgs false
set_option linter.unusedVariables false

/-- What is read up to an attribute. -/
def readTo (x : ObjV) : Nat → List UInt8
  | 0 => x.data
  | k + 1 => readTo x k ++ attrS k (x.attr k)

theorem readTo_3 (x : ObjV) : readTo x 3 = x.data ++ attrS 0 x.a0 ++ attrS 1 x.a1 ++ attrS 2 x.a2 := rfl

theorem attr_cell (x : ObjV) (k : Nat) (hk : k < 3) : (objC x)[2 + k]? = some (.string (mkS (x.attr k))) := by
  match k, hk with
  | 0, _ => rfl
  | 1, _ => rfl
  | 2, _ => rfl

theorem attr_le {x : ObjV} {n : Nat} (k : Nat) (h0 : x.a0.length ≤ n) (h1 : x.a1.length ≤ n) (h2 : x.a2.length ≤ n) : (x.attr k).length ≤ n := by
  unfold ObjV.attr
  split
  · exact h0
  · split
    · exact h1
    · exact h2

theorem attrS_le (k : Nat) (v : List UInt8) : (attrS k v).length ≤ v.length + 3 := by
  unfold attrS
  split <;> simp

theorem read_bad {b : BaseV} {o : OpV} (h : ¬ (isOpM o = true ∧ o.kind = 5)) : readM b o = ⟨3, []⟩ := by unfold readM; rw [if_neg h]
theorem read_none {b : BaseV} {o : OpV} (h : isOpM o = true ∧ o.kind = 5) (ht : (objOf b o).there = false) : readM b o = ⟨1, []⟩ := by unfold readM; rw [if_pos h, if_neg (by rw [ht]; simp)]
theorem read_yes {b : BaseV} {o : OpV} (h : isOpM o = true ∧ o.kind = 5) (ht : (objOf b o).there = true) : readM b o = ⟨0, readTo (objOf b o) 3⟩ := by unfold readM; rw [if_pos h, if_pos ht, readTo_3]

end Go.Proofs.YtjajfeplgilejaaDoor
