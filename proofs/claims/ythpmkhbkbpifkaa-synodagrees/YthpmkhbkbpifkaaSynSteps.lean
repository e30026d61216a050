/- The contracts of synod's weigh, settle, decide, ends, Start. -/
import Derived.Test.YthpmkhbkbpifkaaSynHears
import Derived.Test.YthpmkhbkbpifkaaBalCalls
namespace Go.Proofs.Ythpmkhbkbpifkaa
set_option linter.unusedSimpArgs false
set_option linter.unusedVariables false
set_option maxRecDepth 100000
open Go.RowKit

def takesL (v : LanV) (acc : BalV) : Bool := !v.isB || lessB v.acc acc
def weighL (v : LanV) (acc : BalV) (x : IncV) : LanV := if takesL v acc = true then { v with acc := acc, bound := x, isB := true } else v
def settleL (v : LanV) : LanV := { v with value := if v.isB = true then v.bound else v.want, isV := true, phase := 2, heard := none3 }
def decideL (v : LanV) : LanV := { v with dec := v.value, isD := v.isV, phase := 3, heard := none3 }

section laws
variable {ops : Array Oper} {o : Oper} {a : Act} {S : World → Prop}
theorem yields_cho_mid (x : IncV) (b : Bool) (hw : Region.wanted o (yielded ops a.tmps) = true) (y : Operand) (ho : o.op = .load 66 y) (g k : Nat) (hx : a.eval y = .pointer (some ⟨g, k, none⟩))
    (hg : ∀ w, S w → w.rangeAt g k (choC x b).toList) : YieldsIf Try.prog ops S o (.agg (choC x b)) a :=
  yieldsIf_load_mid hw 66 y ho g k hx (choC x b).toList _ hg Try.underlying66 rfl (cho_size x b)
end laws

set_option maxHeartbeats 4000000 in
/-- What weigh stores. -/
theorem weigh_any (p : Nat) (v : LanV) (acc : BalV) (x : IncV) (w : World) (h : Has w p 70 (lanC v)) (hva : BalOk v.acc) (ha : BalOk acc) :
    Calls Try.prog 26 #[.pointer (some ⟨p, 6, none⟩), .agg (balC acc), .agg (incC x)] w fun e w' => e = .returned (.tuple #[]) ∧ Has w' p 70 (lanC (weighL v acc x)) ∧ But p w w' := by
  obtain ⟨w1, hw1, hB, hX, hbw⟩ := two_vars w 31 23 (balC acc) (incC x)
  have hlt := h.lt
  have hA := h.later hbw
  go_enter Try.func26, Try.ntmps26
  go_wp2
  clear hw1
  cases hi : v.isB with
  | false =>
    have hm : Hid (weighL v acc x = { v with acc := acc, bound := x, isB := true }) := by show _ = _; unfold weighL takesL; rw [hi]; rfl
    refine wp_region_plan (fun W => (Has W p 70 (lanC v) ∧ Has W w.heap.size 31 (balC acc)) ∧ Below w.heap.size w W) (Plan.of [(0, true), (1, true), (2, true), (3, true), (4, true), (5, true), (6, true), (7, true), (8, true), (9, true), (10, true), (11, true), (12, false), (13, true)] .done) (by kernel_rfl) (by kernel_rfl) (by kernel_rfl) (by kernel_rfl) ⟨⟨hA.drew, hB.drew⟩, hbw.drew⟩ ?_
    iterate 4
      first
        | (refine plan_pass _ rfl (by rfl) ?_)
        | (refine plan_take _ _ rfl (.inl ⟨by rfl, fun W hS => by clear hS; go_simp; try with_reducible rfl⟩) ?_)
      try simp only [Act.put, List.setIfInBounds_toArray, List.set_cons_zero, List.set_cons_succ]
    iterate 1
      first
        | (refine plan_pass _ rfl (by rfl) ?_)
        | (refine plan_take _ _ rfl (.inl ⟨by rfl, fun W hS => by have z := lan_isB hS.1.1; go_simp; try with_reducible rfl⟩) ?_)
      try simp only [Act.put, List.setIfInBounds_toArray, List.set_cons_zero, List.set_cons_succ]
    iterate 2
      first
        | (refine plan_pass _ rfl (by rfl) ?_)
        | (refine plan_take _ _ rfl (.inl ⟨by rfl, fun W hS => by clear hS; go_simp; try with_reducible rfl⟩) ?_)
      try simp only [Act.put, List.setIfInBounds_toArray, List.set_cons_zero, List.set_cons_succ]
    iterate 5
      first
        | (refine plan_pass _ rfl (by rfl) ?_)
        | (refine plan_take _ _ rfl (.inl ⟨by rfl, fun W hS => by clear hS; go_simp; try with_reducible rfl⟩) ?_)
      try simp only [Act.put, List.setIfInBounds_toArray, List.set_cons_zero, List.set_cons_succ]
    refine plan_run _ rfl (fun K hK => ?_)
    rw [if_neg (fun hh => Bool.noConfusion (show true = false from hh.symm.trans (by rfl)))]
    refine hK.out _ _ ⟨⟨hA.drew, hB.drew⟩, hbw.drew⟩ ?_
    clear hK K
    try simp only [Act.put, List.setIfInBounds_toArray, List.set_cons_zero, List.set_cons_succ]
    iterate 1
      first
        | (refine plan_pass _ rfl (by rfl) ?_)
        | (refine plan_take _ _ rfl (.inl ⟨by rfl, fun W hS => by clear hS; go_simp; try with_reducible rfl⟩) ?_)
      try simp only [Act.put, List.setIfInBounds_toArray, List.set_cons_zero, List.set_cons_succ]
    refine plan_done ?_
    replace hA := hA.drew
    replace hB := hB.drew
    replace hX := hX.drew
    replace hbw := hbw.drew
    generalize w1.drew = w2 at *
    have hB0 := hB.drew
    have hX0 := hX.drew
    have hA0 := hA.drew
    have hb0 := hbw.drew
    clear hA hB hX hbw
    go_wp2
    refine wp_region_plan (fun W => Has W w.heap.size 31 (balC acc) ∧ Has W (w.heap.size + 1) 23 (incC x)) (Plan.of [(0, true), (1, true), (2, true), (3, true), (4, false), (5, true), (6, true), (7, false), (8, true), (9, true), (10, false)] .done) (by kernel_rfl) (by kernel_rfl) (by kernel_rfl) (by kernel_rfl) ⟨hB0, hX0⟩ ?_
    iterate 2
      first
        | (refine plan_pass _ rfl (by rfl) ?_)
        | (refine plan_take _ _ rfl (.inl ⟨by rfl, fun W hS => by clear hS; go_simp; try with_reducible rfl⟩) ?_)
      try simp only [Act.put, List.setIfInBounds_toArray, List.set_cons_zero, List.set_cons_succ]
    refine plan_take _ _ rfl (yields_bal acc (by rfl) _ rfl w.heap.size rfl (fun _ h => h.1)) ?_
    try simp only [Act.put, List.setIfInBounds_toArray, List.set_cons_zero, List.set_cons_succ]
    refine plan_take _ _ rfl (yields_inc x (by rfl) _ rfl (w.heap.size + 1) rfl (fun _ h => h.2)) ?_
    try simp only [Act.put, List.setIfInBounds_toArray, List.set_cons_zero, List.set_cons_succ]
    refine plan_run _ rfl (fun K hK => ?_)
    go_simp
    refine (chosen_any x _).mono ?_
    rintro e w4 ⟨rfl, hq⟩
    replace hA0 := hA0.later hq
    replace hB0 := hB0.later hq
    replace hX0 := hX0.later hq
    replace hb0 := hb0.trans (hq.mono hb0.size)
    refine hK.out _ _ ⟨hB0, hX0⟩ ?_
    clear hK K hq
    try simp only [Act.put, List.setIfInBounds_toArray, List.set_cons_zero, List.set_cons_succ]
    iterate 2
      first
        | (refine plan_pass _ rfl (by rfl) ?_)
        | (refine plan_take _ _ rfl (.inl ⟨by rfl, fun W hS => by clear hS; go_simp; try with_reducible rfl⟩) ?_)
      try simp only [Act.put, List.setIfInBounds_toArray, List.set_cons_zero, List.set_cons_succ]
    have hA4 := hA0.lan_setAcc acc
    have hA5 := hA4.lan_setBound x true
    have hB4 := hB0.cells_other (k := p) (by omega) (balC acc).toList 10
    have hX4 := hX0.cells_other (k := p) (by omega) (balC acc).toList 10
    have hB5 := hB4.cells_other (k := p) (by omega) (choC x true).toList 12
    have hX5 := hX4.cells_other (k := p) (by omega) (choC x true).toList 12
    have hq5 := (But.of (p := p) hb0).trans ((but_setCells (w := w4) (p := p) (balC acc).toList 10).trans (but_setCells (p := p) (choC x true).toList 12))
    refine plan_store_mid rfl (by rfl) 31 _ _ rfl p 10 (balC acc) rfl rfl (lan_there hA0 10 2 (by decide)) (bal_size acc) (bal_one acc) ⟨hB4, hX4⟩ ?_
    try simp only [Act.put, List.setIfInBounds_toArray, List.set_cons_zero, List.set_cons_succ]
    iterate 2
      first
        | (refine plan_pass _ rfl (by rfl) ?_)
        | (refine plan_take _ _ rfl (.inl ⟨by rfl, fun W hS => by clear hS; go_simp; try with_reducible rfl⟩) ?_)
      try simp only [Act.put, List.setIfInBounds_toArray, List.set_cons_zero, List.set_cons_succ]
    refine plan_store_mid rfl (by rfl) 66 _ _ rfl p 12 (choC x true) rfl rfl (lan_there hA4 12 4 (by decide)) (cho_size _ _) (cho_one _ _) ⟨hB5, hX5⟩ ?_
    try simp only [Act.put, List.setIfInBounds_toArray, List.set_cons_zero, List.set_cons_succ]
    refine plan_done ?_
    go_wp2
    go_end0
    exact ⟨rfl, by rw [hm.out]; exact hA5, hq5⟩
  | true =>
    refine wp_region_plan (fun W => (Has W p 70 (lanC v) ∧ Has W w.heap.size 31 (balC acc)) ∧ Below w.heap.size w W) (Plan.of [(0, true), (1, true), (2, true), (3, true), (4, true), (5, true), (6, true), (7, true), (8, true), (9, true), (10, true), (11, true), (12, false), (13, true)] .done) (by kernel_rfl) (by kernel_rfl) (by kernel_rfl) (by kernel_rfl) ⟨⟨hA.drew, hB.drew⟩, hbw.drew⟩ ?_
    iterate 4
      first
        | (refine plan_pass _ rfl (by rfl) ?_)
        | (refine plan_take _ _ rfl (.inl ⟨by rfl, fun W hS => by clear hS; go_simp; try with_reducible rfl⟩) ?_)
      try simp only [Act.put, List.setIfInBounds_toArray, List.set_cons_zero, List.set_cons_succ]
    iterate 1
      first
        | (refine plan_pass _ rfl (by rfl) ?_)
        | (refine plan_take _ _ rfl (.inl ⟨by rfl, fun W hS => by have z := lan_isB hS.1.1; go_simp; try with_reducible rfl⟩) ?_)
      try simp only [Act.put, List.setIfInBounds_toArray, List.set_cons_zero, List.set_cons_succ]
    iterate 2
      first
        | (refine plan_pass _ rfl (by rfl) ?_)
        | (refine plan_take _ _ rfl (.inl ⟨by rfl, fun W hS => by clear hS; go_simp; try with_reducible rfl⟩) ?_)
      try simp only [Act.put, List.setIfInBounds_toArray, List.set_cons_zero, List.set_cons_succ]
    iterate 3
      first
        | (refine plan_pass _ rfl (by rfl) ?_)
        | (refine plan_take _ _ rfl (.inl ⟨by rfl, fun W hS => by clear hS; go_simp; try with_reducible rfl⟩) ?_)
      try simp only [Act.put, List.setIfInBounds_toArray, List.set_cons_zero, List.set_cons_succ]
    refine plan_take _ _ rfl (yields_bal_mid v.acc (by rfl) _ rfl p 10 rfl (fun _ h => lan_acc h.1.1)) ?_
    try simp only [Act.put, List.setIfInBounds_toArray, List.set_cons_zero, List.set_cons_succ]
    refine plan_take _ _ rfl (yields_bal acc (by rfl) _ rfl w.heap.size rfl (fun _ h => h.1.2)) ?_
    try simp only [Act.put, List.setIfInBounds_toArray, List.set_cons_zero, List.set_cons_succ]
    refine plan_run _ rfl (fun K hK => ?_)
    go_simp
    refine (less_any v.acc acc _ hva ha).mono ?_
    rintro e w2 ⟨rfl, hq⟩
    replace hA := hA.drew.later hq
    replace hB := hB.drew.later hq
    replace hX := hX.drew.later hq
    replace hbw := hbw.drew.trans (hq.mono hbw.drew.size)
    refine hK.out _ _ ⟨⟨hA, hB⟩, hbw⟩ ?_
    clear hK K hq
    try simp only [Act.put, List.setIfInBounds_toArray, List.set_cons_zero, List.set_cons_succ]
    iterate 1
      first
        | (refine plan_pass _ rfl (by rfl) ?_)
        | (refine plan_take _ _ rfl (.inl ⟨by rfl, fun W hS => by clear hS; go_simp; try with_reducible rfl⟩) ?_)
      try simp only [Act.put, List.setIfInBounds_toArray, List.set_cons_zero, List.set_cons_succ]
    refine plan_done ?_
    cases hl : lessB v.acc acc with
    | false =>
      have hm : Hid (weighL v acc x = v) := by show _ = _; unfold weighL takesL; rw [hi, hl]; rfl
      clear hi hl
      go_wp2
      go_end0
      exact ⟨rfl, by rw [hm.out]; exact hA, But.of hbw⟩
    | true =>
      have hm : Hid (weighL v acc x = { v with acc := acc, bound := x, isB := true }) := by show _ = _; unfold weighL takesL; rw [hi, hl]; rfl
      clear hi hl
      have hB0 := hB.drew
      have hX0 := hX.drew
      have hA0 := hA.drew
      have hb0 := hbw.drew
      clear hA hB hX hbw
      go_wp2
      refine wp_region_plan (fun W => Has W w.heap.size 31 (balC acc) ∧ Has W (w.heap.size + 1) 23 (incC x)) (Plan.of [(0, true), (1, true), (2, true), (3, true), (4, false), (5, true), (6, true), (7, false), (8, true), (9, true), (10, false)] .done) (by kernel_rfl) (by kernel_rfl) (by kernel_rfl) (by kernel_rfl) ⟨hB0, hX0⟩ ?_
      iterate 2
        first
          | (refine plan_pass _ rfl (by rfl) ?_)
          | (refine plan_take _ _ rfl (.inl ⟨by rfl, fun W hS => by clear hS; go_simp; try with_reducible rfl⟩) ?_)
        try simp only [Act.put, List.setIfInBounds_toArray, List.set_cons_zero, List.set_cons_succ]
      refine plan_take _ _ rfl (yields_bal acc (by rfl) _ rfl w.heap.size rfl (fun _ h => h.1)) ?_
      try simp only [Act.put, List.setIfInBounds_toArray, List.set_cons_zero, List.set_cons_succ]
      refine plan_take _ _ rfl (yields_inc x (by rfl) _ rfl (w.heap.size + 1) rfl (fun _ h => h.2)) ?_
      try simp only [Act.put, List.setIfInBounds_toArray, List.set_cons_zero, List.set_cons_succ]
      refine plan_run _ rfl (fun K hK => ?_)
      go_simp
      refine (chosen_any x _).mono ?_
      rintro e w4 ⟨rfl, hq⟩
      replace hA0 := hA0.later hq
      replace hB0 := hB0.later hq
      replace hX0 := hX0.later hq
      replace hb0 := hb0.trans (hq.mono hb0.size)
      refine hK.out _ _ ⟨hB0, hX0⟩ ?_
      clear hK K hq
      try simp only [Act.put, List.setIfInBounds_toArray, List.set_cons_zero, List.set_cons_succ]
      iterate 2
        first
          | (refine plan_pass _ rfl (by rfl) ?_)
          | (refine plan_take _ _ rfl (.inl ⟨by rfl, fun W hS => by clear hS; go_simp; try with_reducible rfl⟩) ?_)
        try simp only [Act.put, List.setIfInBounds_toArray, List.set_cons_zero, List.set_cons_succ]
      have hA4 := hA0.lan_setAcc acc
      have hA5 := hA4.lan_setBound x true
      have hB4 := hB0.cells_other (k := p) (by omega) (balC acc).toList 10
      have hX4 := hX0.cells_other (k := p) (by omega) (balC acc).toList 10
      have hB5 := hB4.cells_other (k := p) (by omega) (choC x true).toList 12
      have hX5 := hX4.cells_other (k := p) (by omega) (choC x true).toList 12
      have hq5 := (But.of (p := p) hb0).trans ((but_setCells (w := w4) (p := p) (balC acc).toList 10).trans (but_setCells (p := p) (choC x true).toList 12))
      refine plan_store_mid rfl (by rfl) 31 _ _ rfl p 10 (balC acc) rfl rfl (lan_there hA0 10 2 (by decide)) (bal_size acc) (bal_one acc) ⟨hB4, hX4⟩ ?_
      try simp only [Act.put, List.setIfInBounds_toArray, List.set_cons_zero, List.set_cons_succ]
      iterate 2
        first
          | (refine plan_pass _ rfl (by rfl) ?_)
          | (refine plan_take _ _ rfl (.inl ⟨by rfl, fun W hS => by clear hS; go_simp; try with_reducible rfl⟩) ?_)
        try simp only [Act.put, List.setIfInBounds_toArray, List.set_cons_zero, List.set_cons_succ]
      refine plan_store_mid rfl (by rfl) 66 _ _ rfl p 12 (choC x true) rfl rfl (lan_there hA4 12 4 (by decide)) (cho_size _ _) (cho_one _ _) ⟨hB5, hX5⟩ ?_
      try simp only [Act.put, List.setIfInBounds_toArray, List.set_cons_zero, List.set_cons_succ]
      refine plan_done ?_
      go_wp2
      go_end0
      exact ⟨rfl, by rw [hm.out]; exact hA5, hq5⟩

set_option maxHeartbeats 2000000 in
theorem settle_any (p : Nat) (v : LanV) (w : World) (h : Has w p 70 (lanC v)) : Calls Try.prog 28 #[.pointer (some ⟨p, 0, none⟩)] w fun e w' => e = .returned (.tuple #[]) ∧ Has w' p 70 (lanC (settleL v)) ∧ But p w w' := by
  have hW := lan_want h
  go_enter Try.func28, Try.ntmps28
  go_wp2_with (first
    | (refine wpList_load_mid' (by rfl) 23 _ rfl p 1 rfl (incC v.want).toList _ ?hg Try.underlying23 rfl (inc_size _) ?_; (case hg => exact hW)))
  refine (chosen_any v.want _).mono ?_
  rintro e w1 ⟨rfl, hq⟩
  have hA := h.later hq
  have hb := But.of (p := p) hq
  clear hq hW h
  have ht : Hid (World.there w1 p 16 (choC v.want true).size) := lan_there hA 16 4 (by decide)
  have hA2 := hA.lan_setValue v.want true
  have hb2 := hb.trans (but_setCells (w := w1) (p := p) (choC v.want true).toList 16)
  have hBo := lan_bound hA2
  have z := lan_isB hA2
  cases hi : v.isB with
  | false =>
    have hm : Hid (settleL v = { v with value := v.want, isV := true, phase := 2, heard := none3 }) := by show _ = _; unfold settleL; rw [if_neg (by rw [hi]; decide)]
    replace z := z.trans (show some (Value.bool v.isB) = some (.bool false) by rw [hi])
    replace hBo : Hid _ := hBo
    clear hi
    go_wp2_with (first
      | (refine wpList_store_mid' (by rfl) 66 _ _ rfl p 16 (choC v.want true) rfl rfl ?hg (cho_size _ _) (cho_one _ _) ?_; (case hg => exact ht.out)))
    refine (enter_any p _ 2 _ hA2).mono ?_
    rintro e w2 ⟨rfl, hA3, hb3⟩
    go_wp2
    go_end0
    exact ⟨rfl, by rw [hm.out]; exact hA3, hb2.trans hb3⟩
  | true =>
    have hm : Hid (settleL v = { v with value := v.bound, isV := true, phase := 2, heard := none3 }) := by show _ = _; unfold settleL; rw [if_pos hi]
    replace z := z.trans (show some (Value.bool v.isB) = some (.bool true) by rw [hi])
    replace hBo : Hid (World.rangeAt (w1.setCells p 16 (choC v.want true).toList) p 12 (choC v.bound true).toList) := by have h9 := hBo; simp only [hi] at h9; exact h9
    have ht2 : Hid (World.there (w1.setCells p 16 (choC v.want true).toList) p 16 (choC v.bound true).size) := lan_there hA2 16 4 (by decide)
    have hA4 := hA2.lan_setValue v.bound true
    have hb4 := hb2.trans (but_setCells (p := p) (choC v.bound true).toList 16)
    clear hi
    go_wp2_with (first
      | (refine wpList_store_mid' (by rfl) 66 _ _ rfl p 16 (choC v.want true) rfl rfl ?hg (cho_size _ _) (cho_one _ _) ?_; (case hg => exact ht.out))
      | (refine load_cho v.bound true (by rfl) _ rfl p 12 rfl ?hg ?_; (case hg => exact hBo.out))
      | (refine wpList_store_mid' (by rfl) 66 _ _ rfl p 16 (choC v.bound true) rfl rfl ?hg (cho_size _ _) (cho_one _ _) ?_; (case hg => exact ht2.out)))
    refine (enter_any p _ 2 _ hA4).mono ?_
    rintro e w2 ⟨rfl, hA3, hb3⟩
    go_wp2
    go_end0
    exact ⟨rfl, by rw [hm.out]; exact hA3, hb4.trans hb3⟩

theorem decide_any (p : Nat) (v : LanV) (w : World) (h : Has w p 70 (lanC v)) : Calls Try.prog 31 #[.pointer (some ⟨p, 0, none⟩)] w fun e w' => e = .returned (.tuple #[]) ∧ Has w' p 70 (lanC (decideL v)) ∧ But p w w' := by
  have hW := lan_value h
  have ht : Hid (World.there w p 20 (choC v.value v.isV).size) := lan_there h 20 4 (by decide)
  have hA2 := h.lan_setDec v.value v.isV
  have hb2 := but_setCells (w := w) (p := p) (choC v.value v.isV).toList 20
  go_enter Try.func31, Try.ntmps31
  go_wp2_with (first
    | (refine load_cho v.value v.isV (by rfl) _ rfl p 16 rfl ?hg ?_; (case hg => exact hW))
    | (refine wpList_store_mid' (by rfl) 66 _ _ rfl p 20 (choC v.value v.isV) rfl rfl ?hg (cho_size _ _) (cho_one _ _) ?_; (case hg => exact ht.out)))
  refine (enter_any p _ 3 _ hA2).mono ?_
  rintro e w2 ⟨rfl, hA3, hb3⟩
  go_wp2
  go_end0
  exact ⟨rfl, hA3, hb2.trans hb3⟩

theorem ends_no (p : Nat) (v : LanV) (f : Value) (w : World) (h : Has w p 70 (lanC v)) (hc : cnt v.heard < 2) : Calls Try.prog 27 #[.pointer (some ⟨p, 6, none⟩), f] w fun e w' => e = .returned (.bool false) ∧ Below w.heap.size w w' := by
  go_enter Try.func27, Try.ntmps27
  go_wp2_with fail
  refine (count_any p v _ h).mono ?_
  rintro e w2 ⟨rfl, hq⟩
  have hcI : ((cnt v.heard : Nat) : Int) < 2 := by omega
  go_wp2
  go_ret
  exact ⟨rfl, hq⟩

theorem ends_settle (p : Nat) (v : LanV) (w : World) (h : Has w p 70 (lanC v)) (hc : ¬ cnt v.heard < 2) : Calls Try.prog 27 #[.pointer (some ⟨p, 6, none⟩), .func (.func 28) #[.pointer (some ⟨p, 0, none⟩)] #[]] w fun e w' => e = .returned (.bool true) ∧ Has w' p 70 (lanC (settleL v)) ∧ But p w w' := by
  go_enter Try.func27, Try.ntmps27
  go_wp2_with fail
  refine (count_any p v _ h).mono ?_
  rintro e w2 ⟨rfl, hq⟩
  have hcI : ¬ ((cnt v.heard : Nat) : Int) < 2 := by omega
  go_wp2_with (go_at_call 28; refine (settle_any p v _ (h.later hq)).mono ?_; rintro e w3 ⟨rfl, hA3, hb3⟩)
  go_ret
  exact ⟨rfl, by assumption, (But.of (p := p) hq).trans (by assumption)⟩

theorem ends_decide (p : Nat) (v : LanV) (w : World) (h : Has w p 70 (lanC v)) (hc : ¬ cnt v.heard < 2) : Calls Try.prog 27 #[.pointer (some ⟨p, 6, none⟩), .func (.func 31) #[.pointer (some ⟨p, 0, none⟩)] #[]] w fun e w' => e = .returned (.bool true) ∧ Has w' p 70 (lanC (decideL v)) ∧ But p w w' := by
  go_enter Try.func27, Try.ntmps27
  go_wp2_with fail
  refine (count_any p v _ h).mono ?_
  rintro e w2 ⟨rfl, hq⟩
  have hcI : ¬ ((cnt v.heard : Nat) : Int) < 2 := by omega
  go_wp2_with (go_at_call 31; refine (decide_any p v _ (h.later hq)).mono ?_; rintro e w3 ⟨rfl, hA3, hb3⟩)
  go_ret
  exact ⟨rfl, by assumption, (But.of (p := p) hq).trans (by assumption)⟩

theorem plan_maxL {P : Program} {ops : Array Oper} {Q : Exit → Act → World → Prop} {S : World → Prop} {i : Nat} {p : Plan} {a : Act} {w : World} (o : Oper) (ho : nth ops.toList i = some o) (hw : Region.wanted o (yielded ops a.tmps) = true) (x y : Operand) (ts : Array TypeId) (hop : o.op = .call { callee := .builtin .max, args := #[x, y], argTypes := ts }) (k k' : IntKind) (X Y Z : Int) (hx : a.eval x = .int k X) (hy : a.eval y = .int k' Y)
    (hZ : (if Y > X then Y else X) = Z) (hS : S w) (h : wpPlan P ops Q S p (a.put o.dst (.int k Z)) w) : wpPlan P ops Q S (Plan.run i p) a w := by
  refine plan_run o ho fun K hK => ?_
  rw [if_pos hw]
  have r : (execOp a.eval o).run P w = .ok (.value (.int k Z)) w := by
    generalize a.eval = ev at hx hy
    unfold execOp
    simp [hop, hx, hy, Sem.run_bind, go_sem]
    rw [← hZ]
  unfold Oper.wp
  rw [r]
  exact hK.out _ _ hS h
theorem plan_minL {P : Program} {ops : Array Oper} {Q : Exit → Act → World → Prop} {S : World → Prop} {i : Nat} {p : Plan} {a : Act} {w : World} (o : Oper) (ho : nth ops.toList i = some o) (hw : Region.wanted o (yielded ops a.tmps) = true) (x y : Operand) (ts : Array TypeId) (hop : o.op = .call { callee := .builtin .min, args := #[x, y], argTypes := ts }) (k k' : IntKind) (X Y Z : Int) (hx : a.eval x = .int k X) (hy : a.eval y = .int k' Y)
    (hZ : (if Y < X then Y else X) = Z) (hS : S w) (h : wpPlan P ops Q S p (a.put o.dst (.int k Z)) w) : wpPlan P ops Q S (Plan.run i p) a w := by
  refine plan_run o ho fun K hK => ?_
  rw [if_pos hw]
  have r : (execOp a.eval o).run P w = .ok (.value (.int k Z)) w := by
    generalize a.eval = ev at hx hy
    unfold execOp
    simp [hop, hx, hy, Sem.run_bind, go_sem]
    rw [← hZ]
  unfold Oper.wp
  rw [r]
  exact hK.out _ _ hS h

def startL (v : LanV) (o : BalV) : LanV := fresh v.who v.want ⟨nextN (max v.b.n o.n), v.who⟩ 1 v.dec v.isD

set_option maxHeartbeats 4000000 in
theorem sstart_any (p : Nat) (v : LanV) (o : BalV) (w : World) (h : Has w p 70 (lanC v)) (hv : BalOk v.b) (ho : BalOk o) :
    Calls Try.prog 10 #[.pointer (some ⟨p, 0, none⟩), .agg (balC o)] w fun e w' => e = .returned (.agg (balC (startL v o).b)) ∧ Has w' p 70 (lanC (startL v o)) ∧ But p w w' := by
  obtain ⟨w1, hw1, hO, hR, hb⟩ := two_vars w 31 31 (balC o) (balC bal0)
  have hlt := h.lt
  have hA := h.later hb
  obtain ⟨m, hm⟩ : ∃ m, max v.b.n o.n = m := ⟨_, rfl⟩
  have hm1 : m < 4294967296 := by have := hv.n; have := ho.n; omega
  have hmx : Hid ((if (o.n : Int) > (v.b.n : Int) then (o.n : Int) else (v.b.n : Int)) = (m : Int)) := by show _ = _; split <;> omega
  obtain ⟨n, hn⟩ : ∃ n, nextN m = n := ⟨_, rfl⟩
  have hn1 : 0 < n ∧ n < 4294967296 := by rw [← hn]; unfold nextN; split <;> omega
  obtain ⟨q, hq⟩ : ∃ q, q + 1 = n := ⟨n - 1, by omega⟩
  have hmn : Hid ((if (4294967294 : Int) < (m : Int) then (4294967294 : Int) else (m : Int)) = (q : Int)) := by
    show _ = _
    rw [← hq] at hn
    unfold nextN at hn
    split at hn <;> split <;> omega
  have hS0 : Hid (startL v o = fresh v.who v.want ⟨n, v.who⟩ 1 v.dec v.isD) := by show _ = _; unfold startL; rw [hm, hn]
  have hn32 := hn1.2
  replace hq : Hid _ := hq
  clear hn hm hn1
  go_enter Try.func10, Try.ntmps10
  go_wp2_with (first
    | (refine alloc_bal (by rfl) rfl ?_; rw [alloc_sz, hw1]))
  refine wp_region_plan (fun W => (Has W p 70 (lanC v) ∧ Has W w.heap.size 31 (balC o)) ∧ Below w.heap.size w W) (Plan.of [(0, true), (1, true), (2, true), (3, true), (4, true), (5, true), (6, true), (7, false), (8, false), (9, true), (10, true)] .done) (by kernel_rfl) (by kernel_rfl) (by kernel_rfl) (by kernel_rfl) ⟨⟨hA.drew, hO.drew⟩, hb.drew⟩ ?_
  iterate 4
    first
      | (refine plan_pass _ rfl (by rfl) ?_)
      | (refine plan_take _ _ rfl (.inl ⟨by rfl, fun W hS => by clear hS; go_simp; try with_reducible rfl⟩) ?_)
    try simp only [Act.put, List.setIfInBounds_toArray, List.set_cons_zero, List.set_cons_succ]
  iterate 1
    first
      | (refine plan_pass _ rfl (by rfl) ?_)
      | (refine plan_take _ _ rfl (.inl ⟨by rfl, fun W hS => by have z := lan_bn hS.1.1; go_simp; try with_reducible rfl⟩) ?_)
    try simp only [Act.put, List.setIfInBounds_toArray, List.set_cons_zero, List.set_cons_succ]
  iterate 1
    first
      | (refine plan_pass _ rfl (by rfl) ?_)
      | (refine plan_take _ _ rfl (.inl ⟨by rfl, fun W hS => by clear hS; go_simp; try with_reducible rfl⟩) ?_)
    try simp only [Act.put, List.setIfInBounds_toArray, List.set_cons_zero, List.set_cons_succ]
  iterate 1
    first
      | (refine plan_pass _ rfl (by rfl) ?_)
      | (refine plan_take _ _ rfl (.inl ⟨by rfl, fun W hS => by obtain ⟨z, _⟩ := bal_cells hS.1.2; go_simp; try with_reducible rfl⟩) ?_)
    try simp only [Act.put, List.setIfInBounds_toArray, List.set_cons_zero, List.set_cons_succ]
  refine plan_maxL _ rfl (by rfl) _ _ _ rfl _ _ _ _ (m : Int) rfl rfl hmx.out ⟨⟨hA.drew, hO.drew⟩, hb.drew⟩ ?_
  try simp only [Act.put, List.setIfInBounds_toArray, List.set_cons_zero, List.set_cons_succ]
  refine plan_minL _ rfl (by rfl) _ _ _ rfl _ _ _ _ (q : Int) rfl rfl hmn.out ⟨⟨hA.drew, hO.drew⟩, hb.drew⟩ ?_
  try simp only [Act.put, List.setIfInBounds_toArray, List.set_cons_zero, List.set_cons_succ]
  refine plan_take _ (.int .u32 (n : Int)) rfl (.inl ⟨by rfl, fun W _ => run_add_n32 _ _ _ _ rfl q 1 n rfl rfl hq.out hn32 W⟩) ?_
  try simp only [Act.put, List.setIfInBounds_toArray, List.set_cons_zero, List.set_cons_succ]
  iterate 1
    first
      | (refine plan_pass _ rfl (by rfl) ?_)
      | (refine plan_take _ _ rfl (.inl ⟨by rfl, fun W hS => by clear hS; go_simp; try with_reducible rfl⟩) ?_)
    try simp only [Act.put, List.setIfInBounds_toArray, List.set_cons_zero, List.set_cons_succ]
  refine plan_done ?_
  replace hA := hA.drew
  replace hR := hR.drew
  replace hb := hb.drew
  clear hw1 hO hmx hmn hq
  generalize w1.drew = w2 at *
  have z := lan_who hA
  have ht : Hid (World.there w2 p 4 (balC ⟨n, v.who⟩).size) := lan_there hA 4 2 (by decide)
  have hA3 := hA.lan_setB ⟨n, v.who⟩
  have ht3 : Hid (World.there (w2.setCells p 4 (balC ⟨n, v.who⟩).toList) p 6 (rndC (fresh v.who v.want ⟨n, v.who⟩ 1 v.dec v.isD)).size) := lan_there hA3 6 14 (by decide)
  have hA4 := hA3.lan_setNow (fresh v.who v.want ⟨n, v.who⟩ 1 v.dec v.isD)
  have hR4 := (hR.cells_other (k := p) (by omega) (balC ⟨n, v.who⟩).toList 4).cells_other (k := p) (by omega) (rndC (fresh v.who v.want ⟨n, v.who⟩ 1 v.dec v.isD)).toList 6
  have hB4 := lan_b hA4
  have hR5 := hR4.row (balC ⟨n, v.who⟩)
  have hA5 := hA4.row_other (k := w.heap.size + 1) (by omega) (balC ⟨n, v.who⟩)
  have hq4 := (But.of (p := p) hb).trans ((but_setCells (w := w2) (p := p) (balC ⟨n, v.who⟩).toList 4).trans (but_setCells (p := p) (rndC (fresh v.who v.want ⟨n, v.who⟩ 1 v.dec v.isD)).toList 6))
  obtain ⟨w4, hw4⟩ : ∃ W, (w2.setCells p 4 (balC ⟨n, v.who⟩).toList).setCells p 6 (rndC (fresh v.who v.want ⟨n, v.who⟩ 1 v.dec v.isD)).toList = W := ⟨_, rfl⟩
  rw [hw4] at hA4 hR4 hB4 hR5 hA5 hq4
  have hz := below_setRow (Below.refl w.heap.size w4) (show w.heap.size ≤ w.heap.size + 1 by omega) (balC ⟨n, v.who⟩)
  have hq5 : But p w (w4.setRow (w.heap.size + 1) (balC ⟨n, v.who⟩)) := ⟨hz.os.trans hq4.os, hz.tape.trans hq4.tape, hz.output.trans hq4.output, Nat.le_trans hq4.size hz.size, fun k hk hn => (hz.block k hk).trans (hq4.block k hk hn)⟩
  clear hz
  go_wp2_with (first
    | (refine wpList_build_two (by rfl) 31 0 1 _ _ rfl _ _ rfl rfl (balC ⟨n, v.who⟩) (bal_built2 _ _) ?_)
    | (refine wpList_store_mid' (by rfl) 31 _ _ rfl p 4 (balC ⟨n, v.who⟩) rfl rfl ?hg (bal_size _) (bal_one _) ?_; (case hg => exact ht.out))
    | (refine wpList_build_one (by rfl) 68 0 _ rfl _ rfl _ (rnd_built v.who v.want ⟨n, v.who⟩ v.dec v.isD) ?_)
    | (refine wpList_store_mid' (by rfl) 68 _ _ rfl p 6 (rndC (fresh v.who v.want ⟨n, v.who⟩ 1 v.dec v.isD)) rfl rfl ?hg (rnd_size _) (rnd_one _) ?_; (case hg => exact ht3.out); rw [hw4])
    | (refine wpList_load_mid' (by rfl) 31 _ rfl p 4 rfl (balC ⟨n, v.who⟩).toList _ ?hg Try.underlying31 rfl (bal_size _) ?_; (case hg => exact hB4))
    | (refine store_bal ⟨n, v.who⟩ bal0 (by rfl) _ _ rfl (w.heap.size + 1) rfl rfl ?hg ?_; (case hg => exact hR4)))
  exact ret_has rfl (w.heap.size + 1) rfl 31 (balC ⟨n, v.who⟩) _ Try.underlying31 rfl (bal_size _) hR5 rfl ⟨by rw [hS0.out]; rfl, by rw [hS0.out]; exact hA5, hq5⟩
end Go.Proofs.Ythpmkhbkbpifkaa
