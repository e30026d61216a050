/- Bytes of one's own: a byte turned, bytes behind them. -/
import Derived.Test.YtecilienolabfaaGreatDoorCopy
import Derived.Test.YtecilienolabfaaGreatDoorInj
import Derived.Test.YtecilienolabfaaGreatDoorMsgFacts
import Derived.Test.YtecilienolabfaaGreatDoorPackCode
namespace Go.Proofs.YtecilienolabfaaGreatDoor
set_option linter.unusedSimpArgs false
set_option linter.unusedVariables false
set_option maxRecDepth 100000
open Go.RowKit

/-- A byte of a row of one's own is turned. -/
theorem own_set {w : World} {base g n cap : Nat} {xs : List UInt8} (h : w.ownsRow base 5 1 (.slice (some ⟨g, 0, none⟩) n cap) n (Bs xs)) (i : Nat) (hi : i < xs.length) (y : UInt8) (hcap : cap ≤ 9223372036854775807) :
    By (w.setCell ⟨g, i, none⟩ (B y)) (some ⟨g, 0, none⟩) cap (xs.set i y) := by
  have hB := By.own h hcap
  refine ⟨by rw [List.length_set]; exact hB.le, hcap, (fun h => by cases h), fun ad had j u hu => ?_⟩
  obtain rfl := Option.some.inj had
  have hj : j < xs.length := by
    have := (List.getElem?_eq_some_iff.1 hu).1
    rw [Bs_length, List.length_set] at this
    exact this
  have hc := hB.cell j hj
  rw [Addr.add_lit, Nat.zero_add] at hc ⊢
  by_cases hij : i = j
  · subst hij
    rw [World.cell?_setCell_same _ _ _ hc]
    simp [Bs, hj] at hu
    rw [hu]
  · rw [World.cell?_setCell_other _ _ _ _ (by simp), hc]
    simp [Bs, B, hj, hij] at hu
    rw [← hu]

theorem turned (a : UInt8) (b : Int) (h0 : 0 ≤ b) (h1 : b ≤ 255) : Value.int .u8 (bits .xor .u8 (a.toNat : Int) b) = B (UInt8.ofNat (a.toNat ^^^ b.toNat)) := by
  obtain ⟨n, rfl⟩ := Int.eq_ofNat_of_zero_le h0
  have hx : a.toNat < 256 := a.toNat_lt
  have hl : a.toNat ^^^ n < 2 ^ 8 := Nat.xor_lt_two_pow (by omega) (by omega)
  rw [bits_xor_u8_nat _ _ hx (by omega), B, Int.toNat_natCast, UInt8.toNat_ofNat', Nat.mod_eq_of_lt hl]


theorem run_appB (w : World) (ty : TypeId) (base : Nat) (v : Value) (n : Nat) (xs : List UInt8) (hv : w.ownsRow base 5 1 v n (Bs xs)) (ad : Addr) (k c : Nat) (ys : List UInt8) (h : By w (some ad) c ys) (hk : k = ys.length) (hl : n + k ≤ 1000000000) (hbase : base ≤ w.heap.size) :
    ∃ v' w', (Builtin.append_ #[51, 51] ty #[v, .slice (some ad) k c]).run Tryz.prog w = .ok v' w' ∧ w'.ownsRow base 5 1 v' (n + k) (Bs (xs ++ ys)) ∧ w.grownBy w' v.ownBlock := by
  obtain ⟨i0, hi, hz0, hz1, hz2⟩ := info_parts Tryz.infoByte
  subst hk
  obtain ⟨v', w', hr, ho, hg, _⟩ := run_append_own (P := Tryz.prog) w base 51 ty 5 i0 (.int .u8 0) 1 1 Tryz.underlying51 hi hz0 hz1 hz2 rfl (by decide) v n (Bs xs) hv ad ys.length c (Bs ys) (by rw [Bs_length, Nat.mul_one]) (h.at' ad rfl) (Bs_one _) (by unfold maxLen; omega) (by omega) hbase
  refine ⟨v', w', hr, ?_, hg⟩
  rw [Bs_append]
  exact ho
theorem wpList_appB (w : World) {ops : Array Oper} {rest : List Oper} {o : Oper} {a : Act} {Q : Exit → Act → World → Prop} (hgd : o.guard = none) (s x : Operand)
    (ho : o.op = Op.call { callee := Callee.builtin Builtin.append, args := #[s, x], argTypes := #[51, 51] })
    (base : Nat) (v : Value) (n : Nat) (xs : List UInt8) (hs : a.eval s = v) (ad : Addr) (k c : Nat) (ys : List UInt8) (hx : a.eval x = .slice (some ad) k c) (hv : w.ownsRow base 5 1 v n (Bs xs)) (h : By w (some ad) c ys) (hk : k = ys.length) (hl : n + k ≤ 1000000000) (hbase : base ≤ w.heap.size)
    (hK : ∀ ao' c' w', w'.ownsRow base 5 1 (.slice ao' (n + k) c') (n + k) (Bs (xs ++ ys)) → By w' ao' c' (xs ++ ys) → Below base w w' → wpList Tryz.prog ops Q rest (a.put o.dst (.slice ao' (n + k) c')) w') :
    wpList Tryz.prog ops Q (o :: rest) a w := by
  refine wpList_plain hgd fun K hK' => ?_
  obtain ⟨v', w', hr, hown, hgr⟩ := run_appB w o.type base v n xs hv ad k c ys h hk hl hbase
  obtain ⟨_, ao', c', rfl, hB⟩ := own_by hown
  have hb : Below base w w' := (Below.refl _ _).grown hgr hbase (fun q hq => (hv.lt q hq).1)
  unfold Oper.wp
  simp [execOp, ho, resolve, invoke, builtin, hs, hx, hr, Result.andThen]
  exact hK' _ _ (hK ao' c' w' hown hB hb)
theorem byteB (w : World) (b : Nat) (hb : b < 256) : By (w.alloc (.cells #[.int .u8 (b : Int)] 5)) (some ⟨w.heap.size, 0, none⟩) 1 [UInt8.ofNat b] := by
  have h := Has.new w 5 #[.int .u8 (b : Int)]
  refine ⟨Nat.le_refl _, by decide, (fun h => by cases h), fun ad had j u hu => ?_⟩
  obtain rfl := Option.some.inj had
  have hj : j < 1 := (List.getElem?_eq_some_iff.1 hu).1
  have : j = 0 := by omega
  subst this
  have e := h.cell 0
  rw [show ((⟨w.heap.size, 0, none⟩ : Addr).add 0) = ⟨w.heap.size, 0, none⟩ from rfl, e]
  have e8 : B (UInt8.ofNat b) = .int .u8 (b : Int) := by unfold B; rw [UInt8.toNat_ofNat', Nat.mod_eq_of_lt hb]
  rw [← hu]
  show some _ = some (B (UInt8.ofNat b))
  rw [e8]
  rfl
theorem own_far {w : World} {base n : Nat} {v : Value} {xs : List Value} {ao : Option Addr} {c : Nat} (h : w.ownsRow base 5 1 v n xs) (hv : v = .slice ao n c) : ∀ ad, ao = some ad → base ≤ ad.block ∧ ad.block < w.heap.size := fun ad had => by
  subst hv had
  exact h.lt ad.block rfl
theorem dec_turned {m : MsgV} (ho : MsgOk m) (h : isMsg m = true) {k : Nat} (hk : k < (sumB (msgB m)).length) {y : UInt8} (hy : (sumB (msgB m))[k] ≠ y) : (decM ((sumB (msgB m)).set k y)).2 ≠ 0 := by
  rcases dec_or ((sumB (msgB m)).set k y) with ⟨n, hn⟩ | ⟨n, hn, h0⟩
  · exfalso
    obtain ⟨hG, hI, e⟩ := dec_was hn
    have hl : (msgB n).length = (msgB m).length := by
      have := congrArg List.length e
      rw [List.length_set, sumB_length, sumB_length] at this
      omega
    have hget : (sumB (msgB m))[k]? = some (sumB (msgB m))[k] := List.getElem?_eq_getElem hk
    by_cases hc : k < (msgB m).length
    · have e1 : (sumB (msgB m)).set k y = (msgB m).set k y ++ putB (sumN (msgB m)) 8 := by
        unfold sumB
        rw [List.set_append, if_pos hc]
      rw [e1] at e
      unfold sumB at e
      obtain ⟨e2, e3⟩ := List.append_inj e (by rw [List.length_set]; exact hl.symm)
      have e4 := congrArg getN e3
      rw [get_put 8 _ (Nat.le_refl _), get_put 8 _ (Nat.le_refl _), ← e2] at e4
      have b1 := sumN_lt (msgB m)
      have b2 := sumN_lt ((msgB m).set k y)
      have p8 : (256 : Nat) ^ 8 = 18446744073709551616 := by decide
      rw [p8, Nat.mod_eq_of_lt b1, Nat.mod_eq_of_lt b2] at e4
      have e5 := (sum_set (msgB m) y k hc).1 e4
      refine hy ?_
      rw [← e5]
      simp [sumB, hc]
    · have e1 : (sumB (msgB m)).set k y = msgB m ++ (putB (sumN (msgB m)) 8).set (k - (msgB m).length) y := by
        unfold sumB
        rw [List.set_append, if_neg hc]
      rw [e1] at e
      unfold sumB at e
      obtain ⟨e2, e3⟩ := List.append_inj e hl.symm
      rw [← e2] at e3
      have hk8 : k - (msgB m).length < (putB (sumN (msgB m)) 8).length := by rw [putB_length]; rw [sumB_length] at hk; omega
      refine hy ?_
      have e6 : (sumB (msgB m))[k] = (putB (sumN (msgB m)) 8)[k - (msgB m).length] := by
        simp only [sumB]
        rw [List.getElem_append_right (by omega)]
      rw [e6]
      have e7 := congrArg (fun l : List UInt8 => l[k - (msgB m).length]?) e3
      simp only [List.getElem?_set_self hk8, List.getElem?_eq_getElem hk8] at e7
      exact (Option.some.inj e7).symm
  · rw [hn]; exact h0
end Go.Proofs.YtecilienolabfaaGreatDoor
