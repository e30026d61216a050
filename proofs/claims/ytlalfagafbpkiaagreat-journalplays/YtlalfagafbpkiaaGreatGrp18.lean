/- AppB, joined. -/
import Derived.Test.YtlalfagafbpkiaaGreatGrp6
namespace Go.Proofs.YtlalfagafbpkiaaGreat
section
set_option linter.unusedSimpArgs false
set_option linter.unusedVariables false
set_option maxRecDepth 100000
open Go.RowKit

theorem run_appB (w : World) (ty : TypeId) (base : Nat) (v : Value) (n : Nat) (xs : List UInt8) (hv : w.ownsRow base 5 1 v n (Bs xs)) (ad : Addr) (k c : Nat) (ys : List UInt8) (h : By w (some ad) c ys) (hk : k = ys.length) (hl : n + k ≤ 1000000000) (hbase : base ≤ w.heap.size) :
    ∃ v' w', (Builtin.append_ #[31, 31] ty #[v, .slice (some ad) k c]).run Tryz.prog w = .ok v' w' ∧ w'.ownsRow base 5 1 v' (n + k) (Bs (xs ++ ys)) ∧ w.grownBy w' v.ownBlock := by
  obtain ⟨i0, hi, hz0, hz1, hz2⟩ := info_parts Tryz.infoByte
  subst hk
  obtain ⟨v', w', hr, ho, hg, _⟩ := run_append_own (P := Tryz.prog) w base 31 ty 5 i0 (.int .u8 0) 1 1 Tryz.underlying31 hi hz0 hz1 hz2 rfl (by decide) v n (Bs xs) hv ad ys.length c (Bs ys) (by rw [Bs_length, Nat.mul_one]) (h.at' ad rfl) (Bs_one _) (by unfold maxLen; omega) (by omega) hbase
  refine ⟨v', w', hr, ?_, hg⟩
  rw [Bs_append]
  exact ho
theorem wpList_appB (w : World) {ops : Array Oper} {rest : List Oper} {o : Oper} {a : Act} {Q : Exit → Act → World → Prop} (hgd : o.guard = none) (s x : Operand)
    (ho : o.op = Op.call { callee := Callee.builtin Builtin.append, args := #[s, x], argTypes := #[31, 31] })
    (base : Nat) (v : Value) (n : Nat) (xs : List UInt8) (hs : a.eval s = v) (ad : Addr) (k c : Nat) (ys : List UInt8) (hx : a.eval x = .slice (some ad) k c) (hv : w.ownsRow base 5 1 v n (Bs xs)) (h : By w (some ad) c ys) (hk : k = ys.length) (hl : n + k ≤ 1000000000) (hbase : base ≤ w.heap.size)
    (hK : ∀ ao' c' w', w'.ownsRow base 5 1 (.slice ao' (n + k) c') (n + k) (Bs (xs ++ ys)) → By w' ao' c' (xs ++ ys) → Below base w w' → wpList Tryz.prog ops Q rest (a.put o.dst (.slice ao' (n + k) c')) w') :
    wpList Tryz.prog ops Q (o :: rest) a w := by
  refine wpList_plain hgd fun K hK' => ?_
  obtain ⟨v', w', hr, hown, hgr⟩ := run_appB w o.type base v n xs hv ad k c ys h hk hl hbase
  obtain ⟨_, ao', c', rfl, hB⟩ := own_by hown
  have hb : Below base w w' := (Below.refl _ _).grown hgr hbase (fun q hq => (hv.lt q hq).1)
  unfold Oper.wp
  simp [execOp, ho, resolve, invoke, builtin, hs, hx, hr, Result.andThen]
  exact hK' _ _ (hK ao' c' w' hown hB hb)
theorem own_far {w : World} {base n : Nat} {v : Value} {xs : List Value} {ao : Option Addr} {c : Nat} (h : w.ownsRow base 5 1 v n xs) (hv : v = .slice ao n c) : ∀ ad, ao = some ad → base ≤ ad.block ∧ ad.block < w.heap.size := fun ad had => by
  subst hv had
  exact h.lt ad.block rfl
end
end Go.Proofs.YtlalfagafbpkiaaGreat
