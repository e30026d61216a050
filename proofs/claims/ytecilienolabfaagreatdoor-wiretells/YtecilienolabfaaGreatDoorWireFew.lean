/- Whether a message is looked at: the laws' few. -/
import Derived.Test.YtecilienolabfaaGreatDoorOpenMsg
namespace Go.Proofs.YtecilienolabfaaGreatDoor
set_option linter.unusedSimpArgs false
set_option linter.unusedVariables false
set_option maxRecDepth 100000
open Go.RowKit

theorem objs_data (f : Fin 6 → ObjV) (i : Fin 6) : (objsL f)[i.val * 5 + 1]? = some (strV (f i).data) := by
  match i with
  | 0 => rfl
  | 1 => rfl
  | 2 => rfl
  | 3 => rfl
  | 4 => rfl
  | 5 => rfl
section
variable {w : World} {g : Nat} {m : MsgV} {a1 a2 a3 : Option Addr} {c1 c2 c3 : Nat}
theorem Has.mc_at (h : Has w g 48 (msgC m a1 c1 a2 c2 a3 c3)) (k : Nat) {v : Value} (hv : (msgL m a1 c1 a2 c2 a3 c3)[k]? = some v) : w.cell? ⟨g, k, none⟩ = some v := by
  rw [h.cell k]
  unfold msgC
  rw [List.getElem?_toArray]
  exact hv
theorem Has.mc_obj (h : Has w g 48 (msgC m a1 c1 a2 c2 a3 c3)) (i : Fin 6) : w.cell? ⟨g, 14 + i.val * 5 + 1, none⟩ = some (.string (mkS (m.st.base.obj i).data)) := by
  refine h.mc_at _ ?_
  match i with
  | 0 => rfl
  | 1 => rfl
  | 2 => rfl
  | 3 => rfl
  | 4 => rfl
  | 5 => rfl
theorem Has.mc_whole (h : Has w g 48 (msgC m a1 c1 a2 c2 a3 c3)) (i : Fin 6) : w.cell? ⟨g, 66 + i.val * 5 + 1, none⟩ = some (.string (mkS (m.diff.whole.base.obj i).data)) := by
  refine h.mc_at _ ?_
  match i with
  | 0 => rfl
  | 1 => rfl
  | 2 => rfl
  | 3 => rfl
  | 4 => rfl
  | 5 => rfl
end
set_option maxHeartbeats 8000000 in
theorem few_any (m : MsgV) (a1 a2 a3 : Option Addr) (c1 c2 c3 : Nat) (w : World) (hm : MsgIn m) (h1 : Sl w a1 c1 8 (entR m.st.log)) (h2 : Sl w a2 c2 8 (entR m.diff.log)) (h3 : Sl w a3 c3 8 (entR m.diff.whole.log)) :
    Calls Tryz.prog 10 #[.agg (msgC m a1 c1 a2 c2 a3 c3)] w fun en w' => (∃ b, en = .returned (.bool b) ∧ (b = true → m.st.log.length ≤ 12 ∧ m.diff.log.length ≤ 12 ∧ m.diff.whole.log.length ≤ 12)) ∧ Below w.heap.size w w' := by
  obtain ⟨w1, hw1, hX, hb⟩ := one_var w 48 (msgC m a1 c1 a2 c2 a3 c3)
  have hrd : w1.cell? ⟨w.heap.size, 130, none⟩ = some (.string (mkS m.r.data)) := hX.mc_at 130 rfl
  have hod : w1.cell? ⟨w.heap.size, 128, none⟩ = some (.string (mkS m.op.data)) := hX.mc_at 128 rfl
  have hed : w1.cell? ⟨w.heap.size, 121, none⟩ = some (.string (mkS m.ent.op.data)) := hX.mc_at 121 rfl
  go_enter Tryz.func10, Tryz.ntmps10
  go_wp2
  go_loopw [3, 4] (fun s i wr => ∃ (n : Nat) (z : Int), n ≤ 6 ∧ s = .int .i64 z ∧ i = .int .i64 n ∧ Has wr w.heap.size 48 (msgC m a1 c1 a2 c2 a3 c3) ∧ Below w.heap.size w wr) (fun s i _ => 6 - (intOf i).toNat)
  case atStart => exact ⟨0, _, by decide, rfl, rfl, hX, hb⟩
  case round =>
    obtain ⟨n, z, hn, rfl, rfl, hX, hb⟩ := hrel
    have hl1 : wr.cell? ⟨w.heap.size, 61, none⟩ = some (.slice a1 m.st.log.length c1) := hX.mc_at 61 rfl
    have hl2 : wr.cell? ⟨w.heap.size, 64, none⟩ = some (.slice a2 m.diff.log.length c2) := hX.mc_at 64 rfl
    have hl3 : wr.cell? ⟨w.heap.size, 113, none⟩ = some (.slice a3 m.diff.whole.log.length c3) := hX.mc_at 113 rfl
    by_cases hlt : n < 6
    · have hltI : (n : Int) < 6 := by omega
      have hc := hX.mc_obj ⟨n, hlt⟩
      have hd := hX.mc_whole ⟨n, hlt⟩
      generalize (m.st.base.obj ⟨n, hlt⟩).data = dt at *
      generalize (m.diff.whole.base.obj ⟨n, hlt⟩).data = du at *
      have hs1 := mkS_size dt
      have hs2 := mkS_size du
      go_wp2_with fail
      refine wp_region_plan (fun W => W.cell? ⟨w.heap.size, 14 + n * 5 + 1, none⟩ = some (.string (mkS dt)) ∧ W.cell? ⟨w.heap.size, 66 + n * 5 + 1, none⟩ = some (.string (mkS du))) (Plan.of [(0, true), (1, true), (2, true), (3, true), (4, true), (5, true), (6, true), (7, true), (8, true), (9, true), (10, true), (11, true), (12, true), (13, true), (14, true), (15, true), (16, true), (17, true), (18, true), (19, true), (20, true)] .done) (by kernel_rfl) (by kernel_rfl) (by kernel_rfl) (by kernel_rfl) ⟨hc, hd⟩ ?_
      iterate 7
        first
          | (refine plan_pass _ rfl (by rfl) ?_)
          | (refine plan_take _ _ rfl (.inl ⟨by rfl, fun W hS => by clear hS; go_simp; try with_reducible rfl⟩) ?_)
        try simp only [Act.put, List.setIfInBounds_toArray, List.set_cons_zero, List.set_cons_succ]
      iterate 1
        first
          | (refine plan_pass _ rfl (by rfl) ?_)
          | (refine plan_take _ _ rfl (.inl ⟨by rfl, fun W hS => by have z := hS.1; go_simp; try with_reducible rfl⟩) ?_)
        try simp only [Act.put, List.setIfInBounds_toArray, List.set_cons_zero, List.set_cons_succ]
      iterate 9
        first
          | (refine plan_pass _ rfl (by rfl) ?_)
          | (refine plan_take _ _ rfl (.inl ⟨by rfl, fun W hS => by clear hS; go_simp; try with_reducible rfl⟩) ?_)
        try simp only [Act.put, List.setIfInBounds_toArray, List.set_cons_zero, List.set_cons_succ]
      iterate 1
        first
          | (refine plan_pass _ rfl (by rfl) ?_)
          | (refine plan_take _ _ rfl (.inl ⟨by rfl, fun W hS => by have z := hS.2; go_simp; try with_reducible rfl⟩) ?_)
        try simp only [Act.put, List.setIfInBounds_toArray, List.set_cons_zero, List.set_cons_succ]
      iterate 3
        first
          | (refine plan_pass _ rfl (by rfl) ?_)
          | (refine plan_take _ _ rfl (.inl ⟨by rfl, fun W hS => by clear hS; go_simp; try with_reducible rfl⟩) ?_)
        try simp only [Act.put, List.setIfInBounds_toArray, List.set_cons_zero, List.set_cons_succ]
      refine plan_done ?_
      go_wp2
      go_roundw
      case rel => exact ⟨n + 1, _, by omega, rfl, by go_num, hX.drew, hb.drew⟩
      case measure => simp [intOf]; omega
    · have e5 : n = 6 := by omega
      subst e5
      have hle1 := h1.ent_le
      have hle2 := h2.ent_le
      have hle3 := h3.ent_le
      have hcap1 := h1.cap
      have hcap2 := h2.cap
      have hcap3 := h3.cap
      generalize hL1 : m.st.log.length = L1 at *
      generalize hL2 : m.diff.log.length = L2 at *
      generalize hL3 : m.diff.whole.log.length = L3 at *
      replace hL1 : Hid _ := hL1
      replace hL2 : Hid _ := hL2
      replace hL3 : Hid _ := hL3
      by_cases k1 : L1 ≤ 12
      · have d1 : decide ((L1 : Int) ≤ 12) = true := decide_eq_true (by omega)
        by_cases k2 : L2 ≤ 12
        · have d2 : decide ((L2 : Int) ≤ 12) = true := decide_eq_true (by omega)
          by_cases k3 : L3 ≤ 12
          · have d3 : decide ((L3 : Int) ≤ 12) = true := decide_eq_true (by omega)
            obtain ⟨bz, hbz⟩ : ∃ b, decide (z ≤ 1000) = b := ⟨_, rfl⟩
            go_wp2
            go_ret
            exact ⟨⟨_, rfl, fun _ => ⟨by rw [hL1.out]; exact k1, by rw [hL2.out]; exact k2, by rw [hL3.out]; exact k3⟩⟩, hb⟩
          · have d3 : decide ((L3 : Int) ≤ 12) = false := decide_eq_false (by omega)
            go_wp2
            go_ret
            exact ⟨⟨false, rfl, fun q => by cases q⟩, hb⟩
        · have d2 : decide ((L2 : Int) ≤ 12) = false := decide_eq_false (by omega)
          go_wp2
          go_ret
          exact ⟨⟨false, rfl, fun q => by cases q⟩, hb⟩
      · have d1 : decide ((L1 : Int) ≤ 12) = false := decide_eq_false (by omega)
        go_wp2
        go_ret
        exact ⟨⟨false, rfl, fun q => by cases q⟩, hb⟩
end Go.Proofs.YtecilienolabfaaGreatDoor
