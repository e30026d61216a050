/- The contracts of synod's chosen, told, count, enter, New, Ballot, Value, Decided, Quorum. -/
import Derived.Test.YthpmkhbkbpifkaaSynMem
namespace Go.Proofs.Ythpmkhbkbpifkaa
set_option linter.unusedSimpArgs false
set_option linter.unusedVariables false
set_option maxRecDepth 100000
open Go.RowKit

theorem chosen_any (x : IncV) (w : World) : Calls Try.prog 37 #[.agg (incC x)] w fun e w' => e = .returned (.agg (choC x true)) ∧ Below w.heap.size w w' := by
  obtain ⟨w1, hw1, hX, hR, hb⟩ := two_vars w 23 66 (incC x) (choC inc0 false)
  have hz := hR.row (choC x true)
  have hbz := below_setRow hb (show w.heap.size ≤ w.heap.size + 1 by omega) (choC x true)
  go_enter Try.func37, Try.ntmps37
  go_wp2_with (first
    | (refine alloc_cho (by rfl) rfl ?_; rw [alloc_sz, hw1])
    | (refine load_inc x (by rfl) _ rfl w.heap.size rfl ?hg ?_; (case hg => exact hX))
    | (refine wpList_build_two (by rfl) 66 0 1 _ _ rfl _ _ rfl rfl (choC x true) (cho_built x) ?_)
    | (refine wpList_store_has (by rfl) 66 _ _ rfl (w.heap.size + 1) rfl (choC x true) rfl 66 (choC inc0 false) (cho_size _ _) rfl (cho_one _ _) ?hg ?_; (case hg => exact hR)))
  exact ret_has rfl (w.heap.size + 1) rfl 66 (choC x true) _ Try.underlying66 rfl (cho_size _ _) hz rfl ⟨rfl, hbz⟩

theorem cho_inc {w : World} {g : Nat} {t : TypeId} {x : IncV} {b : Bool} (h : Has w g t (choC x b)) : w.rangeAt g 0 (incC x).toList := h.range 0 _ fun j u hj => by
  match j, hj with
  | 0, hj => exact hj
  | 1, hj => exact hj
  | 2, hj => exact hj
theorem cho_made {w : World} {g : Nat} {t : TypeId} {x : IncV} {b : Bool} (h : Has w g t (choC x b)) : w.cell? ⟨g, 3, none⟩ = some (.bool b) := h.cell 3

set_option maxHeartbeats 1000000 in
theorem told_any (x : IncV) (b : Bool) (w : World) : Calls Try.prog 32 #[.agg (choC x b)] w fun e w' => e = .returned (.tuple #[.agg (incC x), .bool b]) ∧ Below w.heap.size w w' := by
  obtain ⟨w1, hw1, hC, hR, hb⟩ := two_vars w 66 23 (choC x b) (incC inc0)
  have hC2 := hC.drew.row_other (k := w.heap.size + 1) (by omega) (incC x)
  have hz := hR.drew.row (incC x)
  have hbz := below_setRow hb.drew (show w.heap.size ≤ w.heap.size + 1 by omega) (incC x)
  go_enter Try.func32, Try.ntmps32
  go_wp2_with (first
    | (refine alloc_inc0 (by rfl) rfl ?_; rw [alloc_sz, hw1]))
  refine wp_region_plan (fun W => Has W w.heap.size 66 (choC x b)) (Plan.of [(0, true), (1, true), (2, true), (3, true), (4, false), (5, true)] .done) (by kernel_rfl) (by kernel_rfl) (by kernel_rfl) (by kernel_rfl) hC.drew ?_
  iterate 1
    first
      | (refine plan_pass _ rfl (by rfl) ?_)
      | (refine plan_take _ _ rfl (.inl ⟨by rfl, fun W hS => by clear hS; go_simp; try with_reducible rfl⟩) ?_)
    try simp only [Act.put, List.setIfInBounds_toArray, List.set_cons_zero, List.set_cons_succ]
  refine plan_take _ _ rfl (yields_inc_mid x (by rfl) _ rfl w.heap.size 0 rfl (fun _ h => cho_inc h)) ?_
  try simp only [Act.put, List.setIfInBounds_toArray, List.set_cons_zero, List.set_cons_succ]
  iterate 1
    first
      | (refine plan_pass _ rfl (by rfl) ?_)
      | (refine plan_take _ _ rfl (.inl ⟨by rfl, fun W hS => by clear hS; go_simp; try with_reducible rfl⟩) ?_)
    try simp only [Act.put, List.setIfInBounds_toArray, List.set_cons_zero, List.set_cons_succ]
  iterate 1
    first
      | (refine plan_pass _ rfl (by rfl) ?_)
      | (refine plan_take _ _ rfl (.inl ⟨by rfl, fun W hS => by have z := cho_made hS; go_simp; try with_reducible rfl⟩) ?_)
    try simp only [Act.put, List.setIfInBounds_toArray, List.set_cons_zero, List.set_cons_succ]
  refine plan_store_has _ rfl (by rfl) 23 _ _ rfl (w.heap.size + 1) rfl (incC x) rfl 23 (incC inc0) (inc_size _) rfl (inc_one _) hR.drew hC2 ?_
  try simp only [Act.put, List.setIfInBounds_toArray, List.set_cons_zero, List.set_cons_succ]
  iterate 1
    first
      | (refine plan_pass _ rfl (by rfl) ?_)
      | (refine plan_take _ _ rfl (.inl ⟨by rfl, fun W hS => by clear hS; go_simp; try with_reducible rfl⟩) ?_)
    try simp only [Act.put, List.setIfInBounds_toArray, List.set_cons_zero, List.set_cons_succ]
  refine plan_done ?_
  go_wp2
  exact ret_has_tmp rfl (w.heap.size + 1) rfl 23 (incC x) _ Try.underlying23 rfl (inc_size _) hz rfl ⟨rfl, hbz⟩

def cntL (f : Nat → Bool) : Nat → Nat
  | 0 => 0
  | k + 1 => cntL f k + (if f k = true then 1 else 0)
theorem cntL_3 (f : Nat → Bool) : cntL f 3 = cnt f := by
  unfold cnt
  simp only [cntL]
  omega
theorem cntL_le (f : Nat → Bool) (k : Nat) : cntL f k ≤ k := by
  induction k with
  | zero => exact Nat.le_refl _
  | succ k ih =>
    unfold cntL
    split <;> omega
theorem b3L_at (f : Nat → Bool) (j : Nat) (hj : j < 3) : (b3L f)[j]? = some (.bool (f j)) := by
  match j, hj with
  | 0, _ => rfl
  | 1, _ => rfl
  | 2, _ => rfl

/-- An element of an array of bools that is a value. -/
theorem run_index_bool {P : Program} {o : Oper} {ev : Operand → Value} (ty e : TypeId) (x y : Operand) (ho : o.op = .index ty x y) (len n : Nat) (cs : Array Value) (v : Value) (hx : ev x = .agg cs) (hy : ev y = .int .i64 (n : Int)) (hu : P.underlying ty = some (.array len e)) (hn : n < len) (hue : P.underlying e = some .bool) (hi : (P.info? e).map (·.size) = some 1) (hv : cs[n]? = some v) (w : World) :
    (execOp ev o).run P w = .ok (.value v) w := by
  cases hq : P.info? e with
  | none => simp [hq] at hi
  | some i =>
    have hs : i.size = 1 := by simpa [hq] using hi
    have hagg : (isAgg e).run P w = .ok false w := by
      unfold isAgg
      rw [Sem.run_bind, run_underlying hue w]
      rfl
    have h0 : (0 : Int) ≤ (n : Int) ∧ (n : Int) < (len : Int) := by omega
    have hm : (Instr.index ty (.agg cs) (.int .i64 (n : Int))).run P w = .ok v w := by
      simp [Instr.index, asIntOf, Sem.run_bind, run_underlying hu, h0, sizeOf, typeInfo, hq, hs, part, hagg, hv]
      try (intro hh; omega)
    unfold execOp
    simp only [ho, hx, hy]
    simp [Sem.run_bind, hm]
theorem at_opL {P : Program} {ops : Array Oper} {rest : List Oper} {d : Option Tmp} {ty : TypeId} {x y : Operand} {t : TypeId} {p : String} {af : Array Edge} {g : Option (Nat × Bool)} {a : Act} {w : World} {Q : Exit → Act → World → Prop} (h : wpList P ops Q (⟨d, .index ty x y, t, p, af, g⟩ :: rest) a w) : wpList P ops Q (⟨d, .index ty x y, t, p, af, g⟩ :: rest) a w := h

set_option maxHeartbeats 2000000 in
theorem count_any (p : Nat) (v : LanV) (w : World) (h : Has w p 70 (lanC v)) : Calls Try.prog 38 #[.pointer (some ⟨p, 6, none⟩)] w fun e w' => e = .returned (.int .i64 (cnt v.heard : Nat)) ∧ Below w.heap.size w w' := by
  have hR := lan_hears h
  clear h
  generalize v.heard = f at *
  go_enter Try.func38, Try.ntmps38
  go_wp2_with (first
    | (refine wpList_load_mid' (by rfl) 32 _ rfl p 7 rfl (b3L f).toList _ ?hg Try.underlying32 rfl (b3L_size _) ?_; (case hg => exact hR)))
  clear hR
  go_loopw [3, 5, 10] (fun c _ i wr => ∃ k : Nat, k ≤ 3 ∧ i = .int .i64 k ∧ c = .int .i64 (cntL f k : Nat) ∧ wr = w) (fun _ _ i _ => 3 - (intOf i).toNat)
  case atStart => exact ⟨0, by decide, rfl, rfl, rfl⟩
  case round =>
    obtain ⟨k, hk, rfl, rfl, hwr⟩ := hrel
    symm at hwr
    subst hwr
    by_cases hk3 : k < 3
    · have hkI : (k : Int) < 3 := by omega
      have z : Hid _ := b3L_at f k hk3
      have hle := cntL_le f k
      have hleI : ((cntL f k : Nat) : Int) ≤ 3 := by omega
      have hs : cntL f (k + 1) = cntL f k + (if f k = true then 1 else 0) := rfl
      cases hf : f k with
      | true =>
        have z' : Hid ((b3L f)[k]? = some (.bool true)) := by show _ = _; rw [z.out, hf]
        rw [hf, if_pos rfl] at hs
        replace hs : Hid _ := hs
        generalize cntL f k = q at *
        clear hf z
        go_wp2_with (first
          | (refine at_opL ?_; refine wpList_val (.bool true) (by rfl) (run_index_bool 32 _ _ _ rfl 3 k (b3L f) _ rfl rfl Try.underlying32 hk3 (by kernel_rfl) (by kernel_rfl) z'.out) ?_))
        go_roundw
        case rel => exact ⟨k + 1, by omega, by go_num, by rw [hs.out]; go_num, by trivial⟩
        case measure => simp [intOf]; omega
      | false =>
        have z' : Hid ((b3L f)[k]? = some (.bool false)) := by show _ = _; rw [z.out, hf]
        rw [hf, if_neg (by decide)] at hs
        replace hs : Hid _ := hs
        generalize cntL f k = q at *
        clear hf z
        go_wp2_with (first
          | (refine at_opL ?_; refine wpList_val (.bool false) (by rfl) (run_index_bool 32 _ _ _ rfl 3 k (b3L f) _ rfl rfl Try.underlying32 hk3 (by kernel_rfl) (by kernel_rfl) z'.out) ?_))
        go_roundw
        case rel => exact ⟨k + 1, by omega, by go_num, by rw [hs.out]; rfl, by trivial⟩
        case measure => simp [intOf]; omega
    · have hkI : (3 : Int) ≤ (k : Int) := by omega
      have e3 : Hid (cntL f k = cnt f) := by show _ = _; rw [show k = 3 by omega]; exact cntL_3 f
      go_wp2
      go_ret
      exact ⟨by rw [← e3.out]; rfl, Below.refl _ _⟩

theorem but_setCell {p : Nat} {w : World} (o : Nat) (v : Value) : But p w (w.setCell ⟨p, o, none⟩ v) := but_setCells (w := w) (p := p) [v] o

set_option maxHeartbeats 1000000 in
theorem enter_any (p : Nat) (v : LanV) (n : Nat) (w : World) (h : Has w p 70 (lanC v)) : Calls Try.prog 39 #[.pointer (some ⟨p, 6, none⟩), .int .u8 (n : Int)] w fun e w' => e = .returned (.tuple #[]) ∧ Has w' p 70 (lanC { v with phase := n, heard := none3 }) ∧ But p w w' := by
  have h1 := h.lan_setPhase n
  have h2 := h1.lan_setHears none3
  have hb := (but_setCell (w := w) (p := p) 6 (.int .u8 (n : Int))).trans (but_setCells (p := p) (b3L none3).toList 7)
  have ht : Hid (World.there (w.setCell ⟨p, 6, none⟩ (.int .u8 (n : Int))) p 7 (b3L none3).size) := lan_there h1 7 3 (by decide)
  have z := lan_phase h
  have zf := h.free 6
  go_enter Try.func39, Try.ntmps39
  go_wp2_with (first
    | (refine wpList_build_has (by rfl) 32 #[] rfl (b3L none3) (by simpa using b3L_built0) ?_)
    | (refine wpList_store_mid' (by rfl) 32 _ _ rfl p 7 (b3L none3) rfl rfl ?hg (b3L_size _) (b3L_one _) ?_; (case hg => exact ht.out)))
  go_end0
  exact ⟨rfl, h2, hb⟩

theorem snew_any (k : Nat) (x : IncV) (w : World) : Calls Try.prog 9 #[.int .u8 (k : Int), .agg (incC x)] w fun e w' => ∃ p, e = .returned (.pointer (some ⟨p, 0, none⟩)) ∧ w.heap.size ≤ p ∧ Has w' p 70 (lanC (fresh k x bal0 0 inc0 false)) ∧ Below w.heap.size w w' := by
  obtain ⟨w1, hw1, hX, hR, hb⟩ := two_vars w 23 70 (incC x) (lanC (fresh k x bal0 0 inc0 false))
  have hX := Has.new w 23 (incC x)
  go_enter Try.func9, Try.ntmps9
  go_wp2_with (first
    | (refine load_inc x (by rfl) _ rfl w.heap.size rfl ?hg ?_; (case hg => exact hX))
    | (refine wpList_build_two (by rfl) 70 0 1 _ _ rfl _ _ rfl rfl _ (pro_new k x) ?_))
  go_ret
  exact ⟨w.heap.size + 1, by simp, by omega, hw1 ▸ hR, hw1 ▸ hb⟩

theorem sballot_any (p : Nat) (v : LanV) (w : World) (h : Has w p 70 (lanC v)) : Calls Try.prog 18 #[.pointer (some ⟨p, 0, none⟩)] w fun e w' => e = .returned (.agg (balC v.b)) ∧ Below w.heap.size w w' := by
  obtain ⟨w1, hw1, hR, hb⟩ := one_var w 31 (balC bal0)
  have hA := lan_b (h.later hb)
  have hz := hR.row (balC v.b)
  have hbz := below_setRow hb (Nat.le_refl _) (balC v.b)
  go_enter Try.func18, Try.ntmps18
  go_wp2_with (first
    | (refine alloc_bal (by rfl) rfl ?_; rw [hw1])
    | (refine wpList_load_mid' (by rfl) 31 _ rfl p 4 rfl (balC v.b).toList _ ?hg Try.underlying31 rfl (bal_size _) ?_; (case hg => exact hA))
    | (refine store_bal v.b bal0 (by rfl) _ _ rfl w.heap.size rfl rfl ?hg ?_; (case hg => exact hR)))
  exact ret_has rfl w.heap.size rfl 31 (balC v.b) _ Try.underlying31 rfl (bal_size _) hz rfl ⟨rfl, hbz⟩

theorem svalue_any (p : Nat) (v : LanV) (w : World) (h : Has w p 70 (lanC v)) : Calls Try.prog 16 #[.pointer (some ⟨p, 0, none⟩)] w fun e w' => e = .returned (.tuple #[.agg (incC v.value), .bool v.isV]) ∧ Below w.heap.size w w' := by
  obtain ⟨w1, hw1, hR, hb⟩ := one_var w 23 (incC inc0)
  have hA := lan_value (h.later hb)
  go_enter Try.func16, Try.ntmps16
  go_wp2_with (first
    | (refine alloc_inc0 (by rfl) rfl ?_; rw [hw1])
    | (refine load_cho v.value v.isV (by rfl) _ rfl p 16 rfl ?hg ?_; (case hg => exact hA)))
  refine (told_any v.value v.isV _).mono ?_
  rintro e w2 ⟨rfl, hq⟩
  replace hR := hR.later hq
  replace hb := hb.trans (hq.mono hb.size)
  have hz := hR.row (incC v.value)
  have hbz := below_setRow hb (Nat.le_refl _) (incC v.value)
  clear hq hA hw1
  go_wp2_with (first
    | (refine store_inc v.value inc0 (by rfl) _ _ rfl w.heap.size rfl rfl ?hg ?_; (case hg => exact hR)))
  exact ret_has_tmp rfl w.heap.size rfl 23 (incC v.value) _ Try.underlying23 rfl (inc_size _) hz rfl ⟨rfl, hbz⟩

theorem sdecided_any (p : Nat) (v : LanV) (w : World) (h : Has w p 70 (lanC v)) : Calls Try.prog 17 #[.pointer (some ⟨p, 0, none⟩)] w fun e w' => e = .returned (.tuple #[.agg (incC v.dec), .bool v.isD]) ∧ Below w.heap.size w w' := by
  obtain ⟨w1, hw1, hR, hb⟩ := one_var w 23 (incC inc0)
  have hA := lan_dec (h.later hb)
  go_enter Try.func17, Try.ntmps17
  go_wp2_with (first
    | (refine alloc_inc0 (by rfl) rfl ?_; rw [hw1])
    | (refine load_cho v.dec v.isD (by rfl) _ rfl p 20 rfl ?hg ?_; (case hg => exact hA)))
  refine (told_any v.dec v.isD _).mono ?_
  rintro e w2 ⟨rfl, hq⟩
  replace hR := hR.later hq
  replace hb := hb.trans (hq.mono hb.size)
  have hz := hR.row (incC v.dec)
  have hbz := below_setRow hb (Nat.le_refl _) (incC v.dec)
  clear hq hA hw1
  go_wp2_with (first
    | (refine store_inc v.dec inc0 (by rfl) _ _ rfl w.heap.size rfl rfl ?hg ?_; (case hg => exact hR)))
  exact ret_has_tmp rfl w.heap.size rfl 23 (incC v.dec) _ Try.underlying23 rfl (inc_size _) hz rfl ⟨rfl, hbz⟩

theorem squorum_any (w : World) : Calls Try.prog 24 #[] w fun e w' => e = .returned (.int .i64 2) ∧ Below w.heap.size w w' := by
  go_enter Try.func24, Try.ntmps24
  go_wp2
  go_ret
  exact ⟨rfl, Below.refl _ _⟩
end Go.Proofs.Ythpmkhbkbpifkaa
