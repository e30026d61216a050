/- The document's proposer: what it is in memory; the contracts of its count and Start. -/
import Derived.Test.YthpmkhbkbpifkaaProSpec
import Derived.Test.YthpmkhbkbpifkaaVal32
namespace Go.Proofs.Ythpmkhbkbpifkaa
set_option linter.unusedSimpArgs false
set_option linter.unusedVariables false
set_option maxRecDepth 100000
open Go.RowKit

def b3C (f : Nat → Bool) : Array Value := #[.bool (f 0), .bool (f 1), .bool (f 2)]
def refpC (v : ProV) : Array Value := #[.int .u8 v.who, .int .u8 v.want.kind, .int .u8 v.want.osd, .int .i64 v.want.n, .int .u32 v.b.n, .int .u8 v.b.who, .bool (v.heard 0), .bool (v.heard 1), .bool (v.heard 2), .int .u32 v.best.n, .int .u8 v.best.who,
  .int .u8 v.bestX.kind, .int .u8 v.bestX.osd, .int .i64 v.bestX.n, .bool v.has, .int .u8 v.value.kind, .int .u8 v.value.osd, .int .i64 v.value.n, .bool v.hasV, .bool (v.accd 0), .bool (v.accd 1), .bool (v.accd 2), .bool v.told, .int .u8 v.dec.kind, .int .u8 v.dec.osd, .int .i64 v.dec.n, .bool v.hasD]

theorem rp_size (v : ProV) : (Try.prog.info? 34).map (·.size) = some (refpC v).size := by show _ = some 27; kernel_rfl
theorem rp_one (v : ProV) : (refpC v).all (·.oneCell') = true := by simp [refpC, Value.oneCell']
theorem b3_size (f : Nat → Bool) : (Try.prog.info? 32).map (·.size) = some (b3C f).size := by show _ = some 3; kernel_rfl
theorem rp_new (k : Nat) (x : IncV) : Try.prog.built 34 [(0, .int .u8 (k : Int)), (1, .agg (incC x))] = some (refpC (newM k x)) := by kernel_rfl
theorem rp_start (k n : Nat) (x d : IncV) (h : Bool) : Try.prog.built 34 [(0, .int .u8 (k : Int)), (1, .agg (incC x)), (2, .agg (balC ⟨n, k⟩)), (11, .agg (incC d)), (12, .bool h)] = some (refpC ⟨k, x, ⟨n, k⟩, none3, bal0, inc0, false, inc0, false, none3, false, d, h⟩) := by kernel_rfl

theorem rp_who {w : World} {g : Nat} {t : TypeId} {v : ProV} (h : Has w g t (refpC v)) : w.cell? ⟨g, 0, none⟩ = some (.int .u8 v.who) := h.cell 0
theorem rp_has {w : World} {g : Nat} {t : TypeId} {v : ProV} (h : Has w g t (refpC v)) : w.cell? ⟨g, 14, none⟩ = some (.bool v.has) := h.cell 14
theorem rp_hasV {w : World} {g : Nat} {t : TypeId} {v : ProV} (h : Has w g t (refpC v)) : w.cell? ⟨g, 18, none⟩ = some (.bool v.hasV) := h.cell 18
theorem rp_told {w : World} {g : Nat} {t : TypeId} {v : ProV} (h : Has w g t (refpC v)) : w.cell? ⟨g, 22, none⟩ = some (.bool v.told) := h.cell 22
theorem rp_hasD {w : World} {g : Nat} {t : TypeId} {v : ProV} (h : Has w g t (refpC v)) : w.cell? ⟨g, 26, none⟩ = some (.bool v.hasD) := h.cell 26
theorem rp_bn {w : World} {g : Nat} {t : TypeId} {v : ProV} (h : Has w g t (refpC v)) : w.cell? ⟨g, 4, none⟩ = some (.int .u32 v.b.n) := h.cell 4
theorem rp_heard {w : World} {g : Nat} {t : TypeId} {v : ProV} (h : Has w g t (refpC v)) (j : Nat) (hj : j < 3) : w.cell? ⟨g, 6 + j, none⟩ = some (.bool (v.heard j)) := by
  have := h.cell (6 + j)
  match j, hj with
  | 0, _ => exact this
  | 1, _ => exact this
  | 2, _ => exact this
theorem rp_accd {w : World} {g : Nat} {t : TypeId} {v : ProV} (h : Has w g t (refpC v)) (j : Nat) (hj : j < 3) : w.cell? ⟨g, 19 + j, none⟩ = some (.bool (v.accd j)) := by
  have := h.cell (19 + j)
  match j, hj with
  | 0, _ => exact this
  | 1, _ => exact this
  | 2, _ => exact this
theorem rp_want {w : World} {g : Nat} {t : TypeId} {v : ProV} (h : Has w g t (refpC v)) : w.rangeAt g 1 (incC v.want).toList := h.range 1 _ fun j u hj => by
  match j, hj with
  | 0, hj => exact hj
  | 1, hj => exact hj
  | 2, hj => exact hj
theorem rp_b {w : World} {g : Nat} {t : TypeId} {v : ProV} (h : Has w g t (refpC v)) : w.rangeAt g 4 (balC v.b).toList := h.range 4 _ fun j u hj => by
  match j, hj with
  | 0, hj => exact hj
  | 1, hj => exact hj
theorem rp_hears {w : World} {g : Nat} {t : TypeId} {v : ProV} (h : Has w g t (refpC v)) : w.rangeAt g 6 (b3C v.heard).toList := h.range 6 _ fun j u hj => by
  match j, hj with
  | 0, hj => exact hj
  | 1, hj => exact hj
  | 2, hj => exact hj
theorem rp_best {w : World} {g : Nat} {t : TypeId} {v : ProV} (h : Has w g t (refpC v)) : w.rangeAt g 9 (balC v.best).toList := h.range 9 _ fun j u hj => by
  match j, hj with
  | 0, hj => exact hj
  | 1, hj => exact hj
theorem rp_bestX {w : World} {g : Nat} {t : TypeId} {v : ProV} (h : Has w g t (refpC v)) : w.rangeAt g 11 (incC v.bestX).toList := h.range 11 _ fun j u hj => by
  match j, hj with
  | 0, hj => exact hj
  | 1, hj => exact hj
  | 2, hj => exact hj
theorem rp_value {w : World} {g : Nat} {t : TypeId} {v : ProV} (h : Has w g t (refpC v)) : w.rangeAt g 15 (incC v.value).toList := h.range 15 _ fun j u hj => by
  match j, hj with
  | 0, hj => exact hj
  | 1, hj => exact hj
  | 2, hj => exact hj
theorem rp_accds {w : World} {g : Nat} {t : TypeId} {v : ProV} (h : Has w g t (refpC v)) : w.rangeAt g 19 (b3C v.accd).toList := h.range 19 _ fun j u hj => by
  match j, hj with
  | 0, hj => exact hj
  | 1, hj => exact hj
  | 2, hj => exact hj
theorem rp_dec {w : World} {g : Nat} {t : TypeId} {v : ProV} (h : Has w g t (refpC v)) : w.rangeAt g 23 (incC v.dec).toList := h.range 23 _ fun j u hj => by
  match j, hj with
  | 0, hj => exact hj
  | 1, hj => exact hj
  | 2, hj => exact hj
theorem Has.rp_setHeard {w : World} {g : Nat} {t : TypeId} {v : ProV} (h : Has w g t (refpC v)) (j : Nat) (hj : j < 3) : Has (w.setCell ⟨g, 6 + j, none⟩ (.bool true)) g t (refpC { v with heard := setB v.heard j }) := by
  have := h.set (6 + j) (.bool true)
  match j, hj with
  | 0, _ => exact this
  | 1, _ => exact this
  | 2, _ => exact this
theorem Has.rp_setAccd {w : World} {g : Nat} {t : TypeId} {v : ProV} (h : Has w g t (refpC v)) (j : Nat) (hj : j < 3) : Has (w.setCell ⟨g, 19 + j, none⟩ (.bool true)) g t (refpC { v with accd := setB v.accd j }) := by
  have := h.set (19 + j) (.bool true)
  match j, hj with
  | 0, _ => exact this
  | 1, _ => exact this
  | 2, _ => exact this
theorem Has.rp_setHas {w : World} {g : Nat} {t : TypeId} {v : ProV} (h : Has w g t (refpC v)) : Has (w.setCell ⟨g, 14, none⟩ (.bool true)) g t (refpC { v with has := true }) := h.set 14 (.bool true)
theorem Has.rp_setHasV {w : World} {g : Nat} {t : TypeId} {v : ProV} (h : Has w g t (refpC v)) : Has (w.setCell ⟨g, 18, none⟩ (.bool true)) g t (refpC { v with hasV := true }) := h.set 18 (.bool true)
theorem Has.rp_setTold {w : World} {g : Nat} {t : TypeId} {v : ProV} (h : Has w g t (refpC v)) : Has (w.setCell ⟨g, 22, none⟩ (.bool true)) g t (refpC { v with told := true }) := h.set 22 (.bool true)
theorem Has.rp_setHasD {w : World} {g : Nat} {t : TypeId} {v : ProV} (h : Has w g t (refpC v)) : Has (w.setCell ⟨g, 26, none⟩ (.bool true)) g t (refpC { v with hasD := true }) := h.set 26 (.bool true)
theorem Has.rp_setBest {w : World} {g : Nat} {t : TypeId} {v : ProV} (h : Has w g t (refpC v)) (b : BalV) : Has (w.setCells g 9 (balC b).toList) g t (refpC { v with best := b }) := h.set2 9 (.int .u32 b.n) (.int .u8 b.who)
theorem Has.rp_setBestX {w : World} {g : Nat} {t : TypeId} {v : ProV} (h : Has w g t (refpC v)) (x : IncV) : Has (w.setCells g 11 (incC x).toList) g t (refpC { v with bestX := x }) := h.set3 11 (.int .u8 x.kind) (.int .u8 x.osd) (.int .i64 x.n)
theorem Has.rp_setValue {w : World} {g : Nat} {t : TypeId} {v : ProV} (h : Has w g t (refpC v)) (x : IncV) : Has (w.setCells g 15 (incC x).toList) g t (refpC { v with value := x }) := h.set3 15 (.int .u8 x.kind) (.int .u8 x.osd) (.int .i64 x.n)
theorem Has.rp_setDec {w : World} {g : Nat} {t : TypeId} {v : ProV} (h : Has w g t (refpC v)) (x : IncV) : Has (w.setCells g 23 (incC x).toList) g t (refpC { v with dec := x }) := h.set3 23 (.int .u8 x.kind) (.int .u8 x.osd) (.int .i64 x.n)

theorem b3_at {w : World} {g : Nat} {t : TypeId} {f : Nat → Bool} (h : Has w g t (b3C f)) (j : Nat) (hj : j < 3) : w.cell? ⟨g, j, none⟩ = some (.bool (f j)) := by
  have := h.cell j
  match j, hj with
  | 0, _ => exact this
  | 1, _ => exact this
  | 2, _ => exact this

def cntTo (f : Nat → Bool) : Nat → Nat
  | 0 => 0
  | k + 1 => cntTo f k + (if f k = true then 1 else 0)
theorem cntTo_3 (f : Nat → Bool) : cntTo f 3 = cnt f := by
  unfold cnt
  simp only [cntTo]
  omega
theorem cntTo_le (f : Nat → Bool) (k : Nat) : cntTo f k ≤ k := by
  induction k with
  | zero => exact Nat.le_refl _
  | succ k ih =>
    unfold cntTo
    split <;> omega

set_option maxHeartbeats 2000000 in
theorem rcount_any (f : Nat → Bool) (w : World) : Calls Try.prog 30 #[.agg (b3C f)] w fun e w' => e = .returned (.int .i64 (cnt f : Nat)) ∧ Below w.heap.size w w' := by
  obtain ⟨w1, hw1, hF, hb⟩ := one_var w 32 (b3C f)
  go_enter Try.func30, Try.ntmps30
  go_wp2
  clear hw1
  go_loopw [3, 4] (fun c i wr => ∃ k : Nat, k ≤ 3 ∧ i = .int .i64 k ∧ c = .int .i64 (cntTo f k : Nat) ∧ wr = w1) (fun _ i _ => 3 - (intOf i).toNat)
  case atStart => exact ⟨0, by decide, rfl, rfl, rfl⟩
  case round =>
    obtain ⟨k, hk, rfl, rfl, hwr⟩ := hrel
    symm at hwr
    subst hwr
    by_cases hk3 : k < 3
    · have hkI : (k : Int) < 3 := by omega
      have z := b3_at hF k hk3
      have hle := cntTo_le f k
      have hleI : ((cntTo f k : Nat) : Int) ≤ 3 := by omega
      have hs : cntTo f (k + 1) = cntTo f k + (if f k = true then 1 else 0) := rfl
      cases hf : f k with
      | true =>
        rw [hf] at z
        rw [hf, if_pos rfl] at hs
        replace hs : Hid _ := hs
        generalize cntTo f k = q at *
        clear hf
        go_wp2
        go_roundw
        case rel => exact ⟨k + 1, by omega, by go_num, by rw [hs.out]; go_num, by trivial⟩
        case measure => simp [intOf]; omega
      | false =>
        rw [hf] at z
        rw [hf, if_neg (by decide)] at hs
        replace hs : Hid _ := hs
        generalize cntTo f k = q at *
        clear hf
        go_wp2
        go_roundw
        case rel => exact ⟨k + 1, by omega, by go_num, by rw [hs.out]; rfl, by trivial⟩
        case measure => simp [intOf]; omega
    · have hkI : (3 : Int) ≤ (k : Int) := by omega
      have e3 : Hid (cntTo f k = cnt f) := by show _ = _; rw [show k = 3 by omega]; exact cntTo_3 f
      go_wp2
      go_ret
      exact ⟨by rw [← e3.out]; rfl, hb⟩

theorem nextN_yes {n : Nat} (h : n < 4294967295) : nextN n = n + 1 := if_pos h
theorem nextN_no {n : Nat} (h : ¬ n < 4294967295) : nextN n = n := if_neg h

theorem plan_max {P : Program} {ops : Array Oper} {Q : Exit → Act → World → Prop} {S : World → Prop} {i : Nat} {p : Plan} {a : Act} {w : World} (o : Oper) (ho : nth ops.toList i = some o) (hw : Region.wanted o (yielded ops a.tmps) = true) (x y : Operand) (ts : Array TypeId) (hop : o.op = .call { callee := .builtin .max, args := #[x, y], argTypes := ts }) (k k' : IntKind) (X Y Z : Int) (hx : a.eval x = .int k X) (hy : a.eval y = .int k' Y)
    (hZ : (if Y > X then Y else X) = Z) (hS : S w) (h : wpPlan P ops Q S p (a.put o.dst (.int k Z)) w) : wpPlan P ops Q S (Plan.run i p) a w := by
  refine plan_run o ho fun K hK => ?_
  rw [if_pos hw]
  have r : (execOp a.eval o).run P w = .ok (.value (.int k Z)) w := by
    generalize a.eval = ev at hx hy
    unfold execOp
    simp [hop, hx, hy, Sem.run_bind, go_sem]
    rw [← hZ]
  unfold Oper.wp
  rw [r]
  exact hK.out _ _ hS h

/-- A row out of five parts. -/
theorem yields_build_5 {P : Program} {ops : Array Oper} {S : World → Prop} {o : Oper} {a : Act} (t : TypeId) (i1 i2 i3 i4 i5 : Nat) (x1 x2 x3 x4 x5 : Operand) (u1 u2 u3 u4 u5 : Value) (c : Array Value) (hw : Region.wanted o (yielded ops a.tmps) = true) (ho : o.op = .build t #[(i1, x1), (i2, x2), (i3, x3), (i4, x4), (i5, x5)])
    (h1 : a.eval x1 = u1) (h2 : a.eval x2 = u2) (h3 : a.eval x3 = u3) (h4 : a.eval x4 = u4) (h5 : a.eval x5 = u5) (hf : P.built t [(i1, u1), (i2, u2), (i3, u3), (i4, u4), (i5, u5)] = some c) : YieldsIf P ops S o (.agg c) a := by
  refine .inl ⟨hw, fun w _ => ?_⟩
  unfold execOp
  simp [ho, h1, h2, h3, h4, h5, run_build w t _ c hf, Sem.run_bind]

set_option maxHeartbeats 4000000 in
theorem rstart_any (p : Nat) (v : ProV) (o : BalV) (w : World) (h : Has w p 34 (refpC v)) (hv : ProOk v) (ho : BalOk o) :
    Calls Try.prog 11 #[.pointer (some ⟨p, 0, none⟩), .agg (balC o)] w fun e w' => e = .returned (.agg (balC (startM v o).b)) ∧ Has w' p 34 (refpC (startM v o)) ∧ But p w w' := by
  obtain ⟨w1, hw1, hO, hR, hb⟩ := two_vars w 31 31 (balC o) (balC bal0)
  have hlt := h.lt
  have hA := h.later hb
  obtain ⟨m, hm⟩ : ∃ m, max v.b.n o.n = m := ⟨_, rfl⟩
  have hm1 : m < 4294967296 := by have := hv.b.n; have := ho.n; omega
  have hmx : Hid ((if (o.n : Int) > (v.b.n : Int) then (o.n : Int) else (v.b.n : Int)) = (m : Int)) := by show _ = _; split <;> omega
  obtain ⟨n, hn⟩ : ∃ n, nextN m = n := ⟨_, rfl⟩
  have hS0 : Hid (startM v o = ⟨v.who, v.want, ⟨n, v.who⟩, none3, bal0, inc0, false, inc0, false, none3, false, v.dec, v.hasD⟩) := by
    show _ = _
    unfold startM
    rw [hm, hn]
  replace hm : Hid _ := hm
  go_enter Try.func11, Try.ntmps11
  go_wp2_with (first
    | (refine alloc_bal (by rfl) rfl ?_; rw [alloc_sz, hw1]))
  refine wp_region_plan (fun W => (Has W p 34 (refpC v) ∧ Has W w.heap.size 31 (balC o)) ∧ Below w.heap.size w W) (Plan.of [(0, true), (1, true), (2, true), (3, true), (4, true), (5, true), (6, true), (7, false), (8, true)] .done) (by kernel_rfl) (by kernel_rfl) (by kernel_rfl) (by kernel_rfl) ⟨⟨hA.drew, hO.drew⟩, hb.drew⟩ ?_
  iterate 4
    first
      | (refine plan_pass _ rfl (by rfl) ?_)
      | (refine plan_take _ _ rfl (.inl ⟨by rfl, fun W hS => by clear hS; go_simp; try with_reducible rfl⟩) ?_)
    try simp only [Act.put, List.setIfInBounds_toArray, List.set_cons_zero, List.set_cons_succ]
  iterate 1
    first
      | (refine plan_pass _ rfl (by rfl) ?_)
      | (refine plan_take _ _ rfl (.inl ⟨by rfl, fun W hS => by have z := rp_bn hS.1.1; go_simp; try with_reducible rfl⟩) ?_)
    try simp only [Act.put, List.setIfInBounds_toArray, List.set_cons_zero, List.set_cons_succ]
  iterate 1
    first
      | (refine plan_pass _ rfl (by rfl) ?_)
      | (refine plan_take _ _ rfl (.inl ⟨by rfl, fun W hS => by clear hS; go_simp; try with_reducible rfl⟩) ?_)
    try simp only [Act.put, List.setIfInBounds_toArray, List.set_cons_zero, List.set_cons_succ]
  iterate 1
    first
      | (refine plan_pass _ rfl (by rfl) ?_)
      | (refine plan_take _ _ rfl (.inl ⟨by rfl, fun W hS => by obtain ⟨z, _⟩ := bal_cells hS.1.2; go_simp; try with_reducible rfl⟩) ?_)
    try simp only [Act.put, List.setIfInBounds_toArray, List.set_cons_zero, List.set_cons_succ]
  refine plan_max _ rfl (by rfl) _ _ _ rfl _ _ _ _ (m : Int) rfl rfl hmx.out ⟨⟨hA.drew, hO.drew⟩, hb.drew⟩ ?_
  try simp only [Act.put, List.setIfInBounds_toArray, List.set_cons_zero, List.set_cons_succ]
  iterate 1
    first
      | (refine plan_pass _ rfl (by rfl) ?_)
      | (refine plan_take _ _ rfl (.inl ⟨by rfl, fun W hS => by clear hS; go_simp; try with_reducible rfl⟩) ?_)
    try simp only [Act.put, List.setIfInBounds_toArray, List.set_cons_zero, List.set_cons_succ]
  refine plan_done ?_
  replace hA := hA.drew
  replace hR := hR.drew
  replace hb := hb.drew
  clear hw1 hO
  generalize w1.drew = w2 at *
  have hA3 := hA.drew.row (refpC ⟨v.who, v.want, ⟨n, v.who⟩, none3, bal0, inc0, false, inc0, false, none3, false, v.dec, v.hasD⟩)
  have hR3 := hR.drew.row_other (k := p) (by omega) (refpC ⟨v.who, v.want, ⟨n, v.who⟩, none3, bal0, inc0, false, inc0, false, none3, false, v.dec, v.hasD⟩)
  have hq3 : But p w (w2.drew.setRow p (refpC ⟨v.who, v.want, ⟨n, v.who⟩, none3, bal0, inc0, false, inc0, false, none3, false, v.dec, v.hasD⟩)) := by
    have hz := below_setRow (Below.refl 0 w2.drew) (Nat.zero_le p) (refpC ⟨v.who, v.want, ⟨n, v.who⟩, none3, bal0, inc0, false, inc0, false, none3, false, v.dec, v.hasD⟩)
    exact (But.of (p := p) (hb.drew)).trans ⟨hz.os, hz.tape, hz.output, hz.size, fun k _ hk => setRow_other _ _ _ _ hk⟩
  by_cases hc : m < 4294967295
  · have hcI : (m : Int) < 4294967295 := by omega
    have hnn : m + 1 = n := by rw [← hn]; exact (nextN_yes hc).symm
    replace hnn : Hid _ := hnn
    have hn32 : n < 4294967296 := by rw [← hnn.out]; omega
    clear hn
    go_wp2_with (first
      | (refine wpList_val (.int .u32 (n : Int)) (by rfl) (run_add_n32 _ _ _ _ rfl m 1 n rfl rfl hnn.out hn32) ?_))
    refine wp_region_plan (fun W => ∃ u : ProV, Has W p 34 (refpC u) ∧ u.who = v.who ∧ u.want = v.want ∧ u.dec = v.dec ∧ u.hasD = v.hasD) (Plan.of [(0, true), (1, true), (2, true), (3, true), (4, true), (5, true), (6, true), (7, true), (8, true), (9, true), (10, true), (11, true), (12, true), (13, true), (14, true), (15, true), (16, true), (17, true), (18, true), (19, true), (20, true), (21, true), (22, true), (23, true), (24, true), (25, false)] .done) (by kernel_rfl) (by kernel_rfl) (by kernel_rfl) (by kernel_rfl) ⟨v, hA.drew, rfl, rfl, rfl, rfl⟩ ?_
    iterate 4
      first
        | (refine plan_pass _ rfl (by rfl) ?_)
        | (refine plan_take _ _ rfl (.inl ⟨by rfl, fun W hS => by clear hS; go_simp; try with_reducible rfl⟩) ?_)
      try simp only [Act.put, List.setIfInBounds_toArray, List.set_cons_zero, List.set_cons_succ]
    refine plan_take _ (.int .u8 (v.who : Int)) rfl (.inl ⟨by rfl, fun W hS => by obtain ⟨u, hu, u1, _⟩ := hS; have z := rp_who hu; rw [u1] at z; clear u1 hu; go_simp; try with_reducible rfl⟩) ?_
    try simp only [Act.put, List.setIfInBounds_toArray, List.set_cons_zero, List.set_cons_succ]
    iterate 3
      first
        | (refine plan_pass _ rfl (by rfl) ?_)
        | (refine plan_take _ _ rfl (.inl ⟨by rfl, fun W hS => by clear hS; go_simp; try with_reducible rfl⟩) ?_)
      try simp only [Act.put, List.setIfInBounds_toArray, List.set_cons_zero, List.set_cons_succ]
    refine plan_take _ _ rfl (yields_inc_mid v.want (by rfl) _ rfl p 1 rfl (fun _ h => by obtain ⟨u, hu, _, u2, _⟩ := h; have z := rp_want hu; rw [u2] at z; exact z)) ?_
    try simp only [Act.put, List.setIfInBounds_toArray, List.set_cons_zero, List.set_cons_succ]
    iterate 4
      first
        | (refine plan_pass _ rfl (by rfl) ?_)
        | (refine plan_take _ _ rfl (.inl ⟨by rfl, fun W hS => by clear hS; go_simp; try with_reducible rfl⟩) ?_)
      try simp only [Act.put, List.setIfInBounds_toArray, List.set_cons_zero, List.set_cons_succ]
    refine plan_take _ (.int .u8 (v.who : Int)) rfl (.inl ⟨by rfl, fun W hS => by obtain ⟨u, hu, u1, _⟩ := hS; have z := rp_who hu; rw [u1] at z; clear u1 hu; go_simp; try with_reducible rfl⟩) ?_
    try simp only [Act.put, List.setIfInBounds_toArray, List.set_cons_zero, List.set_cons_succ]
    refine plan_take _ _ rfl (yields_build_bal n v.who (by rfl) _ _ rfl rfl rfl) ?_
    try simp only [Act.put, List.setIfInBounds_toArray, List.set_cons_zero, List.set_cons_succ]
    iterate 3
      first
        | (refine plan_pass _ rfl (by rfl) ?_)
        | (refine plan_take _ _ rfl (.inl ⟨by rfl, fun W hS => by clear hS; go_simp; try with_reducible rfl⟩) ?_)
      try simp only [Act.put, List.setIfInBounds_toArray, List.set_cons_zero, List.set_cons_succ]
    refine plan_take _ _ rfl (yields_inc_mid v.dec (by rfl) _ rfl p 23 rfl (fun _ h => by obtain ⟨u, hu, _, _, u3, _⟩ := h; have z := rp_dec hu; rw [u3] at z; exact z)) ?_
    try simp only [Act.put, List.setIfInBounds_toArray, List.set_cons_zero, List.set_cons_succ]
    iterate 3
      first
        | (refine plan_pass _ rfl (by rfl) ?_)
        | (refine plan_take _ _ rfl (.inl ⟨by rfl, fun W hS => by clear hS; go_simp; try with_reducible rfl⟩) ?_)
      try simp only [Act.put, List.setIfInBounds_toArray, List.set_cons_zero, List.set_cons_succ]
    refine plan_take _ (.bool v.hasD) rfl (.inl ⟨by rfl, fun W hS => by obtain ⟨u, hu, _, _, _, u4⟩ := hS; have z := rp_hasD hu; rw [u4] at z; clear u4 hu; go_simp; try with_reducible rfl⟩) ?_
    try simp only [Act.put, List.setIfInBounds_toArray, List.set_cons_zero, List.set_cons_succ]
    refine plan_take _ _ rfl (yields_build_5 34 0 1 2 11 12 _ _ _ _ _ _ _ _ _ _ _ (by rfl) rfl rfl rfl rfl rfl rfl (rp_start v.who n v.want v.dec v.hasD)) ?_
    try simp only [Act.put, List.setIfInBounds_toArray, List.set_cons_zero, List.set_cons_succ]
    iterate 1
      first
        | (refine plan_pass _ rfl (by rfl) ?_)
        | (refine plan_take _ _ rfl (.inl ⟨by rfl, fun W hS => by clear hS; go_simp; try with_reducible rfl⟩) ?_)
      try simp only [Act.put, List.setIfInBounds_toArray, List.set_cons_zero, List.set_cons_succ]
    refine plan_store_has _ rfl (by rfl) 34 _ _ rfl p rfl _ rfl 34 (refpC v) (rp_size _) rfl (rp_one _) hA.drew ⟨_, hA3, rfl, rfl, rfl, rfl⟩ ?_
    try simp only [Act.put, List.setIfInBounds_toArray, List.set_cons_zero, List.set_cons_succ]
    refine plan_done ?_
    have hB4 := rp_b hA3
    have hR4 := hR3.row (balC ⟨n, v.who⟩)
    have hA4 := hA3.row_other (k := w.heap.size + 1) (by omega) (balC ⟨n, v.who⟩)
    have hz := below_setRow (Below.refl w.heap.size (w2.drew.setRow p (refpC ⟨v.who, v.want, ⟨n, v.who⟩, none3, bal0, inc0, false, inc0, false, none3, false, v.dec, v.hasD⟩))) (show w.heap.size ≤ w.heap.size + 1 by omega) (balC ⟨n, v.who⟩)
    have hq4 : But p w ((w2.drew.setRow p (refpC ⟨v.who, v.want, ⟨n, v.who⟩, none3, bal0, inc0, false, inc0, false, none3, false, v.dec, v.hasD⟩)).setRow (w.heap.size + 1) (balC ⟨n, v.who⟩)) := ⟨hz.os.trans hq3.os, hz.tape.trans hq3.tape, hz.output.trans hq3.output, Nat.le_trans hq3.size hz.size, fun k hk hn => (hz.block k hk).trans (hq3.block k hk hn)⟩
    clear hz
    go_wp2_with (first
      | (refine wpList_load_mid' (by rfl) 31 _ rfl p 4 rfl (balC ⟨n, v.who⟩).toList _ ?hg Try.underlying31 rfl (bal_size _) ?_; (case hg => exact hB4))
      | (refine store_bal ⟨n, v.who⟩ bal0 (by rfl) _ _ rfl (w.heap.size + 1) rfl rfl ?hg ?_; (case hg => exact hR3)))
    exact ret_has rfl (w.heap.size + 1) rfl 31 (balC ⟨n, v.who⟩) _ Try.underlying31 rfl (bal_size _) hR4 rfl ⟨by rw [hS0.out], by rw [hS0.out]; exact hA4, hq4⟩
  · obtain rfl : m = n := by rw [← hn]; exact (nextN_no hc).symm
    have hcI : ¬ (m : Int) < 4294967295 := by omega
    have hcd : decide ((m : Int) < 4294967295) = false := decide_eq_false hcI
    have hqv := hv.who
    clear hn hc hcI hm1 hmx hm hv ho
    go_wp2
    clear hcd
    refine wp_region_plan (fun W => ∃ u : ProV, Has W p 34 (refpC u) ∧ u.who = v.who ∧ u.want = v.want ∧ u.dec = v.dec ∧ u.hasD = v.hasD) (Plan.of [(0, true), (1, true), (2, true), (3, true), (4, true), (5, true), (6, true), (7, true), (8, true), (9, true), (10, true), (11, true), (12, true), (13, true), (14, true), (15, true), (16, true), (17, true), (18, true), (19, true), (20, true), (21, true), (22, true), (23, true), (24, true), (25, false)] .done) (by kernel_rfl) (by kernel_rfl) (by kernel_rfl) (by kernel_rfl) ⟨v, hA.drew, rfl, rfl, rfl, rfl⟩ ?_
    iterate 4
      first
        | (refine plan_pass _ rfl (by rfl) ?_)
        | (refine plan_take _ _ rfl (.inl ⟨by rfl, fun W hS => by clear hS; go_simp; try with_reducible rfl⟩) ?_)
      try simp only [Act.put, List.setIfInBounds_toArray, List.set_cons_zero, List.set_cons_succ]
    refine plan_take _ (.int .u8 (v.who : Int)) rfl (.inl ⟨by rfl, fun W hS => by obtain ⟨u, hu, u1, _⟩ := hS; have z := rp_who hu; rw [u1] at z; clear u1 hu; go_simp; try with_reducible rfl⟩) ?_
    try simp only [Act.put, List.setIfInBounds_toArray, List.set_cons_zero, List.set_cons_succ]
    iterate 3
      first
        | (refine plan_pass _ rfl (by rfl) ?_)
        | (refine plan_take _ _ rfl (.inl ⟨by rfl, fun W hS => by clear hS; go_simp; try with_reducible rfl⟩) ?_)
      try simp only [Act.put, List.setIfInBounds_toArray, List.set_cons_zero, List.set_cons_succ]
    refine plan_take _ _ rfl (yields_inc_mid v.want (by rfl) _ rfl p 1 rfl (fun _ h => by obtain ⟨u, hu, _, u2, _⟩ := h; have z := rp_want hu; rw [u2] at z; exact z)) ?_
    try simp only [Act.put, List.setIfInBounds_toArray, List.set_cons_zero, List.set_cons_succ]
    iterate 4
      first
        | (refine plan_pass _ rfl (by rfl) ?_)
        | (refine plan_take _ _ rfl (.inl ⟨by rfl, fun W hS => by clear hS; go_simp; try with_reducible rfl⟩) ?_)
      try simp only [Act.put, List.setIfInBounds_toArray, List.set_cons_zero, List.set_cons_succ]
    refine plan_take _ (.int .u8 (v.who : Int)) rfl (.inl ⟨by rfl, fun W hS => by obtain ⟨u, hu, u1, _⟩ := hS; have z := rp_who hu; rw [u1] at z; clear u1 hu; go_simp; try with_reducible rfl⟩) ?_
    try simp only [Act.put, List.setIfInBounds_toArray, List.set_cons_zero, List.set_cons_succ]
    refine plan_take _ _ rfl (yields_build_bal m v.who (by rfl) _ _ rfl rfl rfl) ?_
    try simp only [Act.put, List.setIfInBounds_toArray, List.set_cons_zero, List.set_cons_succ]
    iterate 3
      first
        | (refine plan_pass _ rfl (by rfl) ?_)
        | (refine plan_take _ _ rfl (.inl ⟨by rfl, fun W hS => by clear hS; go_simp; try with_reducible rfl⟩) ?_)
      try simp only [Act.put, List.setIfInBounds_toArray, List.set_cons_zero, List.set_cons_succ]
    refine plan_take _ _ rfl (yields_inc_mid v.dec (by rfl) _ rfl p 23 rfl (fun _ h => by obtain ⟨u, hu, _, _, u3, _⟩ := h; have z := rp_dec hu; rw [u3] at z; exact z)) ?_
    try simp only [Act.put, List.setIfInBounds_toArray, List.set_cons_zero, List.set_cons_succ]
    iterate 3
      first
        | (refine plan_pass _ rfl (by rfl) ?_)
        | (refine plan_take _ _ rfl (.inl ⟨by rfl, fun W hS => by clear hS; go_simp; try with_reducible rfl⟩) ?_)
      try simp only [Act.put, List.setIfInBounds_toArray, List.set_cons_zero, List.set_cons_succ]
    refine plan_take _ (.bool v.hasD) rfl (.inl ⟨by rfl, fun W hS => by obtain ⟨u, hu, _, _, _, u4⟩ := hS; have z := rp_hasD hu; rw [u4] at z; clear u4 hu; go_simp; try with_reducible rfl⟩) ?_
    try simp only [Act.put, List.setIfInBounds_toArray, List.set_cons_zero, List.set_cons_succ]
    refine plan_take _ _ rfl (yields_build_5 34 0 1 2 11 12 _ _ _ _ _ _ _ _ _ _ _ (by rfl) rfl rfl rfl rfl rfl rfl (rp_start v.who m v.want v.dec v.hasD)) ?_
    try simp only [Act.put, List.setIfInBounds_toArray, List.set_cons_zero, List.set_cons_succ]
    iterate 1
      first
        | (refine plan_pass _ rfl (by rfl) ?_)
        | (refine plan_take _ _ rfl (.inl ⟨by rfl, fun W hS => by clear hS; go_simp; try with_reducible rfl⟩) ?_)
      try simp only [Act.put, List.setIfInBounds_toArray, List.set_cons_zero, List.set_cons_succ]
    refine plan_store_has _ rfl (by rfl) 34 _ _ rfl p rfl _ rfl 34 (refpC v) (rp_size _) rfl (rp_one _) hA.drew ⟨_, hA3, rfl, rfl, rfl, rfl⟩ ?_
    try simp only [Act.put, List.setIfInBounds_toArray, List.set_cons_zero, List.set_cons_succ]
    refine plan_done ?_
    have hB4 := rp_b hA3
    have hR4 := hR3.row (balC ⟨m, v.who⟩)
    have hA4 := hA3.row_other (k := w.heap.size + 1) (by omega) (balC ⟨m, v.who⟩)
    have hz := below_setRow (Below.refl w.heap.size (w2.drew.setRow p (refpC ⟨v.who, v.want, ⟨m, v.who⟩, none3, bal0, inc0, false, inc0, false, none3, false, v.dec, v.hasD⟩))) (show w.heap.size ≤ w.heap.size + 1 by omega) (balC ⟨m, v.who⟩)
    have hq4 : But p w ((w2.drew.setRow p (refpC ⟨v.who, v.want, ⟨m, v.who⟩, none3, bal0, inc0, false, inc0, false, none3, false, v.dec, v.hasD⟩)).setRow (w.heap.size + 1) (balC ⟨m, v.who⟩)) := ⟨hz.os.trans hq3.os, hz.tape.trans hq3.tape, hz.output.trans hq3.output, Nat.le_trans hq3.size hz.size, fun k hk hn => (hz.block k hk).trans (hq3.block k hk hn)⟩
    clear hz
    go_wp2_with (first
      | (refine wpList_load_mid' (by rfl) 31 _ rfl p 4 rfl (balC ⟨m, v.who⟩).toList _ ?hg Try.underlying31 rfl (bal_size _) ?_; (case hg => exact hB4))
      | (refine store_bal ⟨m, v.who⟩ bal0 (by rfl) _ _ rfl (w.heap.size + 1) rfl rfl ?hg ?_; (case hg => exact hR3)))
    exact ret_has rfl (w.heap.size + 1) rfl 31 (balC ⟨m, v.who⟩) _ Try.underlying31 rfl (bal_size _) hR4 rfl ⟨by rw [hS0.out], by rw [hS0.out]; exact hA4, hq4⟩
end Go.Proofs.Ythpmkhbkbpifkaa
