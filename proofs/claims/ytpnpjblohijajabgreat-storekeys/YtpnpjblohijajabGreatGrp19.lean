/- Copy, AppB, joined. -/
import Derived.Test.YtpnpjblohijajabGreatGrp15
import Derived.Laws.AppendOwnNone
import Derived.Deep.AppendLies
namespace Go.Proofs.YtpnpjblohijajabGreat
section
set_option maxRecDepth 100000
open Go.RowKit
set_option linter.unusedVariables false

/-- Own bytes, as a slice that is read. -/
theorem own_by {w : World} {base n : Nat} {v : Value} {xs : List UInt8} (h : w.ownsRow base 5 1 v n (Bs xs)) : n = xs.length ∧ ∃ ao c, v = .slice ao n c ∧ By w ao c xs := by
  have hl : n = xs.length := by have := h.1; rw [Bs_length] at this; omega
  refine ⟨hl, ?_⟩
  rcases h.2 with ⟨rfl, h0⟩ | ⟨g, cap, cur, rfl, _, _, _, hm, _⟩
  · have : xs = [] := List.eq_nil_of_length_eq_zero (by omega)
    subst this
    exact ⟨none, 0, by rw [h0], By.nothing w⟩
  · exact ⟨_, cap, rfl, By.own h hm⟩

theorem run_copy (w : World) (ty : TypeId) (base : Nat) (ao : Option Addr) (n c : Nat) (xs : List UInt8) (h : By w ao c xs) (hn : n = xs.length) (hl : n ≤ 1099511627776) (hbase : base ≤ w.heap.size) :
    ∃ v w', (Builtin.append_ #[60, 60] ty #[.slice none 0 0, .slice ao n c]).run Tryz.prog w = .ok v w' ∧ w'.ownsRow base 5 1 v n (Bs xs) ∧ w.grownBy w' none := by
  obtain ⟨i0, hi, hz0, hz1, hz2⟩ := info_parts Tryz.infoByte
  subst hn
  cases ao with
  | none =>
    have h0 : xs = [] := by have := h.nil rfl; have := h.le; exact List.eq_nil_of_length_eq_zero (by omega)
    have hc := h.nil rfl
    subst h0 hc
    exact ⟨.slice none 0 0, w, run_append_owned_none (P := Tryz.prog) (w := w) base 60 ty 5 i0 1 Tryz.underlying60 hi (.slice none 0 0) 0 [] (World.ownsRow_nil _ _ _ _), World.ownsRow_nil _ _ _ _, World.grownBy.refl _ _⟩
  | some ad =>
    obtain ⟨v, w', hr, ho, hg, _⟩ := run_append_own (P := Tryz.prog) w base 60 ty 5 i0 (.int .u8 0) 1 1 Tryz.underlying60 hi hz0 hz1 hz2 rfl (by decide) (.slice none 0 0) 0 [] (World.ownsRow_nil _ _ _ _) ad xs.length c (Bs xs) (by rw [Bs_length, Nat.mul_one]) (h.at' ad rfl) (Bs_one _) (by unfold maxLen; omega) (by omega) hbase
    rw [Nat.zero_add, List.nil_append] at ho
    exact ⟨v, w', hr, ho, hg⟩

/-- In a plain region. -/
theorem wpList_copy (w : World) {ops : Array Oper} {rest : List Oper} {o : Oper} {a : Act} {Q : Exit → Act → World → Prop} (hg : o.guard = none) (s x : Operand)
    (ho : o.op = Op.call { callee := Callee.builtin Builtin.append, args := #[s, x], argTypes := #[60, 60] })
    (base : Nat) (ao : Option Addr) (n c : Nat) (xs : List UInt8) (hs : a.eval s = .slice none 0 0) (hx : a.eval x = .slice ao n c) (h : By w ao c xs) (hn : n = xs.length) (hl : n ≤ 1099511627776) (hbase : base ≤ w.heap.size)
    (hK : ∀ ao' c' w', w'.ownsRow base 5 1 (.slice ao' n c') n (Bs xs) → By w' ao' c' xs → Below w.heap.size w w' → wpList Tryz.prog ops Q rest (a.put o.dst (.slice ao' n c')) w') :
    wpList Tryz.prog ops Q (o :: rest) a w := by
  refine wpList_plain hg fun K hK' => ?_
  obtain ⟨v, w', hr, hown, hgr⟩ := run_copy w o.type base ao n c xs h hn hl hbase
  obtain ⟨_, ao', c', rfl, hB⟩ := own_by hown
  have hb : Below w.heap.size w w' := (Below.refl _ _).grown hgr (Nat.le_refl _) (by intro k hk; cases hk)
  unfold Oper.wp
  simp [execOp, ho, resolve, invoke, builtin, hs, hx, hr, Result.andThen]
  exact hK' _ _ (hK ao' c' w' hown hB hb)

/-- At a step of a region that draws its order. -/
theorem step_copy (w : World) {ops : Array Oper} {o : Oper} {a : Act} {K : Act → World → Prop} {Q : Exit → Act → World → Prop} {E : Prop} (hw : Region.wanted o (yielded ops a.tmps) = true) (s x : Operand)
    (ho : o.op = Op.call { callee := Callee.builtin Builtin.append, args := #[s, x], argTypes := #[60, 60] })
    (base : Nat) (ao : Option Addr) (n c : Nat) (xs : List UInt8) (hs : a.eval s = .slice none 0 0) (hx : a.eval x = .slice ao n c) (h : By w ao c xs) (hn : n = xs.length) (hl : n ≤ 1099511627776) (hbase : base ≤ w.heap.size)
    (hK : ∀ ao' c' w', w'.ownsRow base 5 1 (.slice ao' n c') n (Bs xs) → By w' ao' c' xs → Below w.heap.size w w' → K (a.put o.dst (.slice ao' n c')) w') :
    if Region.wanted o (yielded ops a.tmps) = true then Oper.wp Tryz.prog o a w K Q else E := by
  rw [if_pos hw]
  obtain ⟨v, w', hr, hown, hgr⟩ := run_copy w o.type base ao n c xs h hn hl hbase
  obtain ⟨_, ao', c', rfl, hB⟩ := own_by hown
  have hb : Below w.heap.size w w' := (Below.refl _ _).grown hgr (Nat.le_refl _) (by intro k hk; cases hk)
  unfold Oper.wp
  simp [execOp, ho, resolve, invoke, builtin, hs, hx, hr, Result.andThen]
  exact hK ao' c' w' hown hB hb
end

section
set_option linter.unusedSimpArgs false
set_option linter.unusedVariables false
set_option maxRecDepth 100000
open Go.RowKit

theorem run_appB (w : World) (ty : TypeId) (base : Nat) (v : Value) (n : Nat) (xs : List UInt8) (hv : w.ownsRow base 5 1 v n (Bs xs)) (ad : Addr) (k c : Nat) (ys : List UInt8) (h : By w (some ad) c ys) (hk : k = ys.length) (hl : n + k ≤ 1000000000) (hbase : base ≤ w.heap.size) :
    ∃ v' w', (Builtin.append_ #[60, 60] ty #[v, .slice (some ad) k c]).run Tryz.prog w = .ok v' w' ∧ w'.ownsRow base 5 1 v' (n + k) (Bs (xs ++ ys)) ∧ w.grownBy w' v.ownBlock := by
  obtain ⟨i0, hi, hz0, hz1, hz2⟩ := info_parts Tryz.infoByte
  subst hk
  obtain ⟨v', w', hr, ho, hg, _⟩ := run_append_own (P := Tryz.prog) w base 60 ty 5 i0 (.int .u8 0) 1 1 Tryz.underlying60 hi hz0 hz1 hz2 rfl (by decide) v n (Bs xs) hv ad ys.length c (Bs ys) (by rw [Bs_length, Nat.mul_one]) (h.at' ad rfl) (Bs_one _) (by unfold maxLen; omega) (by omega) hbase
  refine ⟨v', w', hr, ?_, hg⟩
  rw [Bs_append]
  exact ho
theorem wpList_appB (w : World) {ops : Array Oper} {rest : List Oper} {o : Oper} {a : Act} {Q : Exit → Act → World → Prop} (hgd : o.guard = none) (s x : Operand)
    (ho : o.op = Op.call { callee := Callee.builtin Builtin.append, args := #[s, x], argTypes := #[60, 60] })
    (base : Nat) (v : Value) (n : Nat) (xs : List UInt8) (hs : a.eval s = v) (ad : Addr) (k c : Nat) (ys : List UInt8) (hx : a.eval x = .slice (some ad) k c) (hv : w.ownsRow base 5 1 v n (Bs xs)) (h : By w (some ad) c ys) (hk : k = ys.length) (hl : n + k ≤ 1000000000) (hbase : base ≤ w.heap.size)
    (hK : ∀ ao' c' w', w'.ownsRow base 5 1 (.slice ao' (n + k) c') (n + k) (Bs (xs ++ ys)) → By w' ao' c' (xs ++ ys) → Below base w w' → wpList Tryz.prog ops Q rest (a.put o.dst (.slice ao' (n + k) c')) w') :
    wpList Tryz.prog ops Q (o :: rest) a w := by
  refine wpList_plain hgd fun K hK' => ?_
  obtain ⟨v', w', hr, hown, hgr⟩ := run_appB w o.type base v n xs hv ad k c ys h hk hl hbase
  obtain ⟨_, ao', c', rfl, hB⟩ := own_by hown
  have hb : Below base w w' := (Below.refl _ _).grown hgr hbase (fun q hq => (hv.lt q hq).1)
  unfold Oper.wp
  simp [execOp, ho, resolve, invoke, builtin, hs, hx, hr, Result.andThen]
  exact hK' _ _ (hK ao' c' w' hown hB hb)
theorem own_far {w : World} {base n : Nat} {v : Value} {xs : List Value} {ao : Option Addr} {c : Nat} (h : w.ownsRow base 5 1 v n xs) (hv : v = .slice ao n c) : ∀ ad, ao = some ad → base ≤ ad.block ∧ ad.block < w.heap.size := fun ad had => by
  subst hv had
  exact h.lt ad.block rfl
end
end Go.Proofs.YtpnpjblohijajabGreat
