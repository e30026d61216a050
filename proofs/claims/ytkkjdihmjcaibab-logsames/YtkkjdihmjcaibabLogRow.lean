/- The law's own helper: a row of operations, added one by one. -/
import Derived.Test.YtkkjdihmjcaibabLogAdd
import Derived.Maps.AppendAt
namespace Go.Proofs.Ytkkjdihmjcaibab
set_option linter.unusedSimpArgs false
set_option linter.unusedVariables false
set_option maxRecDepth 100000
open Go.RowKit

theorem opR_len (l : List OpV) : (opR l).length = l.length := by unfold opR; rw [List.length_map]
theorem opR_each (l : List OpV) : ∀ r ∈ opR l, r.length = 6 := by
  intro r hr
  obtain ⟨x, _, rfl⟩ := List.mem_map.1 hr
  rfl
theorem opF_len (l : List OpV) : (opR l).flatten.length = l.length * 6 := by
  induction l with
  | nil => rfl
  | cons e l ih =>
    show (opL e ++ (opR l).flatten).length = _
    rw [List.length_append, ih, List.length_cons]
    show 6 + _ = _
    omega
theorem opF_snoc (l : List OpV) (o : OpV) : (opR (l ++ [o])).flatten = (opR l).flatten ++ opL o := by
  unfold opR
  rw [List.map_append, List.flatten_append]
  simp
/-- A row of one's own, as a slice of operations. -/
theorem ops_own {w : World} {base n : Nat} {v : Value} {D : List OpV} (h : w.ownsRow base 25 6 v n (opR D).flatten) : n = D.length ∧ ∃ ao c, v = .slice ao n c ∧ Sl w ao c 6 (opR D) ∧ (∀ d, ao = some d → v.ownBlock = some d.block) := by
  have hl : n = D.length := by have := h.1; rw [opF_len] at this; omega
  refine ⟨hl, ?_⟩
  rcases h.2 with ⟨hv, h0⟩ | ⟨g, cap, cur, hv, hg, hc, hle, hm, hcur⟩
  · have : D = [] := List.eq_nil_of_length_eq_zero (by omega)
    subst this
    exact ⟨none, 0, by rw [hv, h0], Sl.nothing _ _, fun d hd => by cases hd⟩
  · refine ⟨some ⟨g, 0, none⟩, cap, hv, ⟨by rw [opR_len]; omega, Nat.le_trans hm (by unfold maxLen; omega), (fun h => by cases h), opR_each D, fun ad had i hi j hj => ?_⟩, fun d hd => by obtain rfl := Option.some.inj hd; rw [hv]; rfl⟩
    obtain rfl := Option.some.inj had
    have hf := flatten_at (opR D) (opR_each D) i hi j hj
    have hl3 := opR_each D _ (List.getElem_mem hi)
    rw [List.getElem?_eq_getElem (show j < ((opR D)[i]).length by omega)] at hf ⊢
    exact h.cells (g := g) (by rw [hv]; rfl) _ _ hf
theorem Sl.grown {w w' : World} {row : Option Nat} {ao : Option Addr} {c sz : Nat} {rows : List (List Value)} (h : Sl w ao c sz rows) (hg : w.grownBy w' row) (hn : ∀ d, ao = some d → row ≠ some d.block) : Sl w' ao c sz rows := by
  refine ⟨h.le, h.cap, h.nil, h.each, fun ad had i hi j hj => ?_⟩
  have hc := h.at' ad had i hi j hj
  have hl := h.each _ (List.getElem_mem hi)
  rw [List.getElem?_eq_getElem (by omega)] at hc
  have hlt := World.block_lt_of_cell? w _ hc
  have hb : (ad.add (i * sz + j)).block = ad.block := by simp [Addr.add]; split <;> rfl
  have e : w'.heap[(ad.add (i * sz + j)).block]? = w.heap[(ad.add (i * sz + j)).block]? := hg.block _ hlt (by rw [hb]; exact fun e => hn ad had e.symm)
  rw [List.getElem?_eq_getElem (by omega), ← hc]
  unfold World.cell?
  rw [e]
theorem Sl.block_lt {w : World} {d : Addr} {c sz : Nat} {rows : List (List Value)} (h : Sl w (some d) c sz rows) (hn : 0 < rows.length) (hs : 0 < sz) : d.block < w.heap.size := by
  have hc := h.at' d rfl 0 hn 0 hs
  have hl := h.each _ (List.getElem_mem hn)
  rw [List.getElem?_eq_getElem (by omega)] at hc
  have hlt := World.block_lt_of_cell? w _ hc
  have hb : (d.add (0 * sz + 0)).block = d.block := by simp [Addr.add]
  rw [hb] at hlt
  exact hlt
theorem Has.grownBy {w w' : World} {row : Option Nat} {g : Nat} {t : TypeId} {c : Array Value} (h : Has w g t c) (hg : w.grownBy w' row) (hn : row ≠ some g) : Has w' g t c := by
  unfold Has at *
  rw [hg.block g (Array.getElem?_eq_some_iff.1 h).1 (fun e => hn e.symm)]
  exact h
theorem own_below {w w' : World} {base n : Nat} {t : TypeId} {sz : Nat} {v : Value} {xs : List Value} (h : w.ownsRow base t sz v n xs) (hb : Below w.heap.size w w') : w'.ownsRow base t sz v n xs :=
  h.kept (row := none) ⟨hb.os, hb.tape, hb.output, hb.size, fun k hk _ => hb.block k hk⟩ (by simp; exact Classical.em _)
theorem own_row {w : World} {base n k : Nat} {t : TypeId} {sz : Nat} {v : Value} {xs : List Value} (h : w.ownsRow base t sz v n xs) (hk : v.ownBlock ≠ some k) (c : Array Value) : (w.setRow k c).ownsRow base t sz v n xs :=
  h.kept (row := some k) ⟨rfl, rfl, rfl, by simp [World.setRow], fun j hj hn => setRow_other w k j c (fun e => hn (by rw [e]))⟩ (.inr hk)
theorem one_row (w : World) (t : TypeId) (c : Array Value) : ∀ j u, c.toList[j]? = some u → (w.alloc (.cells c t)).cell? ((⟨w.heap.size, 0, none⟩ : Addr).add j) = some u := by
  intro j u hj
  have h := (Has.new w t c).cell j
  rw [Addr.add_mid, Nat.zero_add, h]
  simpa using hj
theorem op_cells1 (x : OpV) : ∀ u ∈ (opC x).toList, u.oneCell' = true := by
  intro u hu
  simp [opC, opL, strV] at hu
  rcases hu with rfl | rfl | rfl | rfl | rfl | rfl <;> rfl
theorem op_info : ∃ i, Try.prog.info? 25 = some i ∧ i.zero = some (.agg (opC op0)) ∧ i.size = 6 ∧ i.bytes = 32 := by
  have h : (Try.prog.info? 25).map (fun i => (i.zero, i.size, i.bytes)) = some (some (.agg (opC op0)), 6, 32) := by kernel_rfl
  cases hi : Try.prog.info? 25 with
  | none => rw [hi] at h; cases h
  | some i =>
    rw [hi] at h
    simp only [Option.map_some, Option.some.injEq, Prod.mk.injEq] at h
    exact ⟨i, rfl, h.1, h.2.1, h.2.2⟩
theorem slice_one_op (o : OpV) (w : World) : (Instr.buildSlice 22 1 #[(0, .agg (opC o))]).run Try.prog w = .ok (.slice (some ⟨w.heap.size, 0, none⟩) 1 1) (w.alloc (.cells (opC o) 25)) := by
  have h : (Instr.buildSlice 22 1 #[(0, .agg (opC o))]).run Try.prog w = ((newRow 25 (opC o)).run Try.prog w).andThen (fun a w => .ok (.slice (some a) 1 1) w) := by kernel_rfl
  rw [h]
  simp [newRow, run_newObj_alloc, Sem.run_bind, Sem.run_pure, Result.andThen]
theorem wpList_build_three {P : Program} {ops : Array Oper} {rest : List Oper} {o : Oper} {a : Act} {w : World} {Q : Exit → Act → World → Prop} (hw : Region.wanted o (yielded ops a.tmps) = true) (t : TypeId) (i j k : Nat) (x y z : Operand) (ho : o.op = .build t #[(i, x), (j, y), (k, z)]) (p q r : Value) (hx : a.eval x = p) (hy : a.eval y = q) (hz : a.eval z = r) (c : Array Value) (hf : P.built t [(i, p), (j, q), (k, r)] = some c)
    (h : wpList P ops Q rest (a.put o.dst (.agg c)) w) : wpList P ops Q (o :: rest) a w :=
  wpList_build_has hw t _ ho c (by simpa [hx, hy, hz] using hf) h
theorem yields_build_three {P : Program} {ops : Array Oper} {S : World → Prop} {o : Oper} {a : Act} (hw : Region.wanted o (yielded ops a.tmps) = true) (t : TypeId) (i j k : Nat) (x y z : Operand) (ho : o.op = .build t #[(i, x), (j, y), (k, z)]) (p q r : Value) (hx : a.eval x = p) (hy : a.eval y = q) (hz : a.eval z = r) (c : Array Value) (hf : P.built t [(i, p), (j, q), (k, r)] = some c) : YieldsIf P ops S o (.agg c) a := by
  refine .inl ⟨hw, fun W _ => ?_⟩
  have hc : P.built t ((#[(i, x), (j, y), (k, z)] : Array (Nat × Operand)).map fun (i, x) => (i, a.eval x)).toList = some c := by simpa [hx, hy, hz] using hf
  unfold execOp
  simp only [ho, Sem.run_bind, run_build W t _ c hc, Result.andThen_ok]
  rfl
/-- The remainder of a number of 32 bits by one above nought. -/
theorem run_rem_u32 {P : Program} {o : Oper} {ev : Operand → Value} (ty ty' : TypeId) (x y : Operand) (ho : o.op = .binOp .rem ty x y ty') (n m k : Nat) (hx : ev x = .int .u32 (n : Int)) (hy : ev y = .int .u32 (m : Int)) (hn : n < 4294967296) (hm : 0 < m) (hk : n % m = k) (w : World) :
    (execOp ev o).run P w = .ok (.value (.int .u32 (k : Int))) w := by
  subst hk
  have h1 : ((m : Int) = 0) = False := by simp; omega
  have h2 : (n : Int).tmod (m : Int) = ((n % m : Nat) : Int) := rfl
  have h3 : n % m < 4294967296 := Nat.lt_of_le_of_lt (Nat.mod_le _ _) hn
  have h4 : IntKind.u32.wrap ((n % m : Nat) : Int) = ((n % m : Nat) : Int) := by
    simp [IntKind.wrap, IntKind.bits, IntKind.signed]
    omega
  unfold execOp
  simp only [ho, hx, hy]
  simp [Sem.run_bind, go_sem, h1, h2, h4]
  omega
/-- The sum of two numbers of 32 bits that stays below 2^32. -/
theorem run_add_u32 {P : Program} {o : Oper} {ev : Operand → Value} (ty ty' : TypeId) (x y : Operand) (ho : o.op = .binOp .add ty x y ty') (n m k : Nat) (hx : ev x = .int .u32 (n : Int)) (hy : ev y = .int .u32 (m : Int)) (hk : n + m = k) (hl : k < 4294967296) (w : World) :
    (execOp ev o).run P w = .ok (.value (.int .u32 (k : Int))) w := by
  subst hk
  have h4 : IntKind.u32.wrap ((n : Int) + (m : Int)) = ((n + m : Nat) : Int) := by
    simp [IntKind.wrap, IntKind.bits, IntKind.signed]
    omega
  unfold execOp
  simp only [ho, hx, hy]
  simp [Sem.run_bind, go_sem, h4]
theorem filter_take (l : List OpV) (n : Nat) (h : n < l.length) : (l.take (n + 1)).filter writesM = if writesM l[n] = true then (l.take n).filter writesM ++ [l[n]] else (l.take n).filter writesM := by
  rw [List.take_succ_eq_append_getElem h, List.filter_append]
  cases hw : writesM l[n] with
  | false => simp [hw]
  | true => simp [hw]
theorem filter_writes (l : List OpV) : ∀ o ∈ l.filter writesM, writesM o = true := fun o ho => (List.mem_filter.1 ho).2
theorem filter_ok {l : List OpV} (h : ∀ o ∈ l, OpOk o) : ∀ o ∈ l.filter writesM, OpOk o := fun o ho => h o (List.mem_filter.1 ho).1
theorem filter_len (l : List OpV) : (l.filter writesM).length ≤ l.length := List.length_filter_le _ _

set_option maxHeartbeats 1500000 in
theorem row_any (ao : Option Addr) (c since : Nat) (l : List OpV) (w : World) (h : Sl w ao c 6 (opR l)) (hl : ∀ x ∈ l, OpOk x) (hlen : l.length ≤ 60) (hsince : since < 4294967296) :
    Calls Try.prog 6 #[.slice ao l.length c, .int .u32 (since : Int)] w fun en w' => ∃ ro rc bo bc, en = .returned (.tuple #[.agg (stC (stOf (since % 60 + 1) (l.filter writesM)) ro rc), .slice bo (l.filter writesM).length bc]) ∧
      Sl w' ro rc 8 (entR (stOf (since % 60 + 1) (l.filter writesM)).log) ∧ (∀ d, ro = some d → w.heap.size ≤ d.block) ∧ Sl w' bo bc 6 (opR (l.filter writesM)) ∧ (∀ d, bo = some d → w.heap.size ≤ d.block) ∧ Below w.heap.size w w' := by
  obtain ⟨i0, hi, hz0, hz1, hz2⟩ := op_info
  obtain ⟨w1, hw1, hR, hX, hb⟩ := two_vars w 42 42 (stC st0 none 0) (stC st0 none 0)
  have hX1 := hX.row (stC st0 none 0)
  have hR1 := hR.row_other (k := w.heap.size + 1) (by omega) (stC st0 none 0)
  have hb1 := below_setRow hb (show w.heap.size ≤ w.heap.size + 1 by omega) (stC st0 none 0)
  obtain ⟨w2, hw2⟩ : ∃ W, w1.setRow (w.heap.size + 1) (stC st0 none 0) = W := ⟨_, rfl⟩
  rw [hw2] at hX1 hR1 hb1
  have hle := h.le
  rw [opR_len] at hle
  have hcap := h.cap
  obtain ⟨r, hr⟩ : ∃ r, since % 60 = r := ⟨_, rfl⟩
  have hr60 : r < 60 := by omega
  have hr60I : (r : Int) < 60 := by omega
  rw [hr]
  replace hr : Hid _ := hr
  have hq60 : r + 1 ≤ 60 := by omega
  go_enter Try.func6, Try.ntmps6
  go_wp2_with (first
    | (refine wpList_alloc_has (by rfl) 42 rfl (stC st0 none 0) st_zero ?_; try rw [alloc_size]; try rw [hw1])
    | (refine wpList_build_has (by rfl) 42 #[] rfl (stC st0 none 0) (by simpa using st_built0) ?_)
    | (refine wpList_store_to (by rfl) 42 _ _ rfl (w.heap.size + 1) rfl (stC st0 none 0) rfl 42 (stC st0 none 0) (st_size _ _ _) (st_same _ _ _ _ _ _) (st_one _ _ _) ?hg w2 ?hW ?_; (case hg => exact hX); (case hW => exact hw2)))
  clear hw1 hw2 hR hX hb
  go_loopw [7, 8] (fun v i wr => ∃ (n : Nat) (ro : Option Addr) (rc : Nat), n ≤ l.length ∧ i = .int .i64 n ∧ Has wr w.heap.size 42 (stC st0 none 0) ∧ Has wr (w.heap.size + 1) 42 (stC (stOf (r + 1) ((l.take n).filter writesM)) ro rc) ∧ Sl wr ro rc 8 (entR (stOf (r + 1) ((l.take n).filter writesM)).log) ∧ (∀ d, ro = some d → w.heap.size + 1 < d.block) ∧
      wr.ownsRow (w.heap.size + 1 + 1) 25 6 v ((l.take n).filter writesM).length (opR ((l.take n).filter writesM)).flatten ∧ (∀ d, ro = some d → v.ownBlock ≠ some d.block) ∧ Below w.heap.size w wr) (fun _ i _ => l.length - (intOf i).toNat)
  case atStart => exact ⟨0, none, 0, Nat.zero_le _, rfl, hR1, hX1, Sl.nothing _ _, (fun d hd => by cases hd), World.ownsRow_nil _ _ _ _, (fun d hd => by cases hd), hb1⟩
  case round =>
    clear hR1 hX1 hb1
    obtain ⟨n, ro, rc, hn, rfl, hR, hX, hS8, hap, hown, hvl, hb⟩ := hrel
    by_cases hlt : n < l.length
    · cases ao with
      | none => have := h.nil rfl; omega
      | some ad =>
        have hyo := hl l[n] (List.getElem_mem hlt)
        have hci := fun W (hW : Below w.heap.size w W) => op_at (h.later hW) n hlt
        have hnext : Hid _ := filter_take l n hlt
        have hDw := filter_writes (l.take n)
        have hDo := filter_ok (l := l.take n) (fun o ho => hl o (List.mem_of_mem_take ho))
        have hDl : ((l.take n).filter writesM).length ≤ n := Nat.le_trans (filter_len _) (by rw [List.length_take]; omega)
        have hltI : (n : Int) < (l.length : Int) := by omega
        generalize l[n] = y at *
        generalize (l.take n).filter writesM = D at *
        have hso : StOk (stOf (r + 1) D) := sK_ok hq60 hDo (by omega) (by omega)
        have hhd : Hid (headM (stOf (r + 1) D) = ((posQ (r + 1) D.length).since, D.length)) := sK_headM hq60 hDw (by omega) (by omega)
        have hadd : Hid _ := stOf_add (o := y) hq60 hDw
        have heo : EntOk ⟨r + 1, D.length + 1, y⟩ := ⟨by show r + 1 < _; omega, by show D.length + 1 < _; omega, hyo⟩
        have hDn : D.length < 1000 := by omega
        have hDnI : (D.length : Int) < 1000 := by omega
        go_wp2_with (first
          | (refine wpList_load_has (by rfl) 42 _ rfl (w.heap.size + 1) rfl 42 (stC (stOf (r + 1) D) ro rc) _ Try.underlying42 rfl (st_size _ _ _) ?hg ?_; (case hg => exact hX)))
        refine (head_any (stOf (r + 1) D) ro rc _ hso hS8).mono ?_
        rintro en w2 ⟨rfl, hq⟩
        rw [hhd.out]
        replace hR := hR.later hq
        replace hX := hX.later hq
        replace hS8 := hS8.later hq
        replace hown := own_below hown hq
        replace hb := hb.trans (hq.mono hb.size)
        clear hq hhd
        generalize (posQ (r + 1) D.length).since = ps at *
        have hltX := hX.lt
        have hva := fun W (hS : Sl W ro rc 8 (entR (stOf (r + 1) D).log)) => add_any (stOf (r + 1) D) ro rc ⟨r + 1, D.length + 1, y⟩ W hso heo hS
        generalize addM (stOf (r + 1) D) ⟨r + 1, D.length + 1, y⟩ = A at *
        have hvlt := fun k hk => (hown.lt k hk)
        have hbA : Below w2.heap.size w2 w2.drew := (Below.refl _ _).drew
        go_wp2_with fail
        refine wp_region_plan (fun W => Below w2.heap.size w2 W) (Plan.of [(0, true), (1, true), (2, true), (3, true), (4, true), (5, true), (6, true), (7, true), (8, true), (9, true), (10, true)]
          (.either 11 (Plan.of [(12, true), (13, true), (14, true), (15, false), (16, false), (17, true)] .done) 15 (Plan.of [(11, false), (12, true), (13, true), (14, true), (16, false), (17, true)] .done))) (by kernel_rfl) (by kernel_rfl) (by kernel_rfl) (by kernel_rfl) hbA ?_
        refine plan_take _ _ rfl (yields_load_has (by rfl) 42 _ rfl (w.heap.size + 1) rfl 42 (stC (stOf (r + 1) D) ro rc) _ Try.underlying42 rfl (st_size _ _ _) (fun W hW => hX.later hW)) ?_
        try simp only [Act.put, List.setIfInBounds_toArray, List.set_cons_zero, List.set_cons_succ]
        iterate 1
          first
            | (refine plan_pass _ rfl (by rfl) ?_)
            | (refine plan_take _ _ rfl (.inl ⟨by rfl, fun W hS => by clear hS; go_simp; try with_reducible rfl⟩) ?_)
          try simp only [Act.put, List.setIfInBounds_toArray, List.set_cons_zero, List.set_cons_succ]
        refine plan_take _ (.int .u32 (r : Int)) rfl (.inl ⟨by rfl, fun W _ => run_rem_u32 _ _ _ _ rfl since 60 r rfl rfl hsince (by decide) hr.out W⟩) ?_
        try simp only [Act.put, List.setIfInBounds_toArray, List.set_cons_zero, List.set_cons_succ]
        refine plan_take _ (.int .u32 ((r + 1 : Nat) : Int)) rfl (.inl ⟨by rfl, fun W _ => run_add_u32 _ _ _ _ rfl r 1 (r + 1) rfl rfl rfl (by omega) W⟩) ?_
        try simp only [Act.put, List.setIfInBounds_toArray, List.set_cons_zero, List.set_cons_succ]
        iterate 1
          first
            | (refine plan_pass _ rfl (by rfl) ?_)
            | (refine plan_take _ _ rfl (.inl ⟨by rfl, fun W hS => by clear hS; go_simp; try with_reducible rfl⟩) ?_)
          try simp only [Act.put, List.setIfInBounds_toArray, List.set_cons_zero, List.set_cons_succ]
        refine plan_take _ (.int .u32 ((D.length + 1 : Nat) : Int)) rfl (.inl ⟨by rfl, fun W _ => run_add_u32 _ _ _ _ rfl D.length 1 (D.length + 1) rfl rfl rfl (by omega) W⟩) ?_
        try simp only [Act.put, List.setIfInBounds_toArray, List.set_cons_zero, List.set_cons_succ]
        iterate 3
          first
            | (refine plan_pass _ rfl (by rfl) ?_)
            | (refine plan_take _ _ rfl (.inl ⟨by rfl, fun W hS => by clear hS; go_simp; try with_reducible rfl⟩) ?_)
          try simp only [Act.put, List.setIfInBounds_toArray, List.set_cons_zero, List.set_cons_succ]
        refine plan_take _ _ rfl (.inl ⟨by rfl, fun W hW => run_load_any 25 _ rfl _ rfl (opL y) _ (hci W (hb.trans (hW.mono hb.size))) Try.underlying25 rfl (op_size y)⟩) ?_
        try simp only [Act.put, List.setIfInBounds_toArray, List.set_cons_zero, List.set_cons_succ]
        refine plan_take _ _ rfl (yields_build_three (by rfl) 39 0 1 2 _ _ _ rfl (.int .u32 ((r + 1 : Nat) : Int)) (.int .u32 ((D.length + 1 : Nat) : Int)) (.agg (opC y)) rfl rfl rfl (entC ⟨r + 1, D.length + 1, y⟩) (ent_built _ _ _)) ?_
        try simp only [Act.put, List.setIfInBounds_toArray, List.set_cons_zero, List.set_cons_succ]
        refine plan_either ?_ ?_
        · refine plan_run _ rfl (fun K hK => ?_)
          go_simp
          refine (hva _ (hS8.later hbA)).mono ?_
          rintro en w4 ⟨so, sc, rfl, hG⟩
          have hb4 : Below w2.heap.size w2 w4 := hbA.trans (hG.below.mono hbA.size)
          have hnew : ∀ d, so = some d → w2.heap.size ≤ d.block := hG.new
          refine hK.out _ _ hb4 ?_
          clear hK K
          try simp only [Act.put, List.setIfInBounds_toArray, List.set_cons_zero, List.set_cons_succ]
          iterate 3
            first
              | (refine plan_pass _ rfl (by rfl) ?_)
              | (refine plan_take _ _ rfl (.inl ⟨by rfl, fun W hS => by clear hS; go_simp; try with_reducible rfl⟩) ?_)
            try simp only [Act.put, List.setIfInBounds_toArray, List.set_cons_zero, List.set_cons_succ]
          refine plan_alloc_has _ rfl (by rfl) 42 rfl (stC st0 none 0) st_zero (hb4.alloc hb4.size _) ?_
          try simp only [Act.put, List.setIfInBounds_toArray, List.set_cons_zero, List.set_cons_succ]
          obtain ⟨w6, hw6, hT, hq⟩ := new_var w4 42 (stC st0 none 0) (stC A.1 so sc)
          have hb6 : Below w2.heap.size w2 w6 := hb4.trans (hq.mono hb4.size)
          have hsl6 := hG.sl.later hq
          have hgt : w2.heap.size ≤ w4.heap.size := hb4.size
          refine plan_store_has _ rfl (by rfl) 42 _ _ rfl w4.heap.size rfl (stC A.1 so sc) rfl 42 (stC st0 none 0) (st_size _ _ _) (st_same _ _ _ _ _ _) (st_one _ _ _) (Has.new _ _ _) (by rw [hw6]; exact hb6) ?_
          rw [hw6]
          try simp only [Act.put, List.setIfInBounds_toArray, List.set_cons_zero, List.set_cons_succ]
          iterate 1
            first
              | (refine plan_pass _ rfl (by rfl) ?_)
              | (refine plan_take _ _ rfl (.inl ⟨by rfl, fun W hS => by clear hS; go_simp; try with_reducible rfl⟩) ?_)
            try simp only [Act.put, List.setIfInBounds_toArray, List.set_cons_zero, List.set_cons_succ]
          refine plan_done ?_
          clear hw6 hq hG hb4 hva
          generalize w4.heap.size = gt at *
          replace hR := hR.later hb6
          replace hX := hX.later hb6
          replace hS8 := hS8.later hb6
          replace hown := own_below hown hb6
          have hbw := hb.trans (hb6.mono hb.size)
          cases hwy : writesM y with
          | false =>
            rw [hwy, if_neg (by simp)] at hadd hnext
            have hA2 : A.2 = 10 := by rw [hadd.out]
            rw [hA2]
            clear hT hsl6 hnew hci
            go_wp2
            go_roundw
            case rel => exact ⟨n + 1, ro, rc, by omega, by go_num, hR, by rw [hnext.out]; exact hX, by rw [hnext.out]; exact hS8, hap, by rw [hnext.out]; exact hown, hvl, hbw⟩
            case measure => simp [intOf]; omega
          | true =>
            rw [hwy, if_pos rfl] at hadd hnext
            have hA1 : A.1 = stOf (r + 1) (D ++ [y]) := by rw [hadd.out]
            have hA2 : A.2 = 0 := by rw [hadd.out]
            rw [hA1] at hT hsl6
            rw [hA1, hA2, show ((0 : Nat) : Int) = 0 from rfl]
            have hX7 := hX.row (stC (stOf (r + 1) (D ++ [y])) so sc)
            have hR7 := hR.row_other (k := w.heap.size + 1) (by omega) (stC (stOf (r + 1) (D ++ [y])) so sc)
            have hsl7 := hsl6.row_other (k := w.heap.size + 1) (fun d hd => by have := hnew d hd; omega) (stC (stOf (r + 1) (D ++ [y])) so sc)
            have hown7 := own_row hown (k := w.heap.size + 1) (fun e => by have := (hvlt _ e).1; omega) (stC (stOf (r + 1) (D ++ [y])) so sc)
            have hb7 := below_setRow hbw (show w.heap.size ≤ w.heap.size + 1 by omega) (stC (stOf (r + 1) (D ++ [y])) so sc)
            obtain ⟨w7, hw7⟩ : ∃ W, w6.setRow (w.heap.size + 1) (stC (stOf (r + 1) (D ++ [y])) so sc) = W := ⟨_, rfl⟩
            rw [hw7] at hX7 hR7 hsl7 hown7 hb7
            have hcy := hci w7 hb7
            have hs7 := hb7.size
            have hlt7 := hX7.lt
            clear hci
            go_wp2_with (first
              | (refine wpList_load_has (by rfl) 42 _ rfl (gt) rfl 42 (stC (stOf (r + 1) (D ++ [y])) so sc) _ Try.underlying42 rfl (st_size _ _ _) ?hg ?_; (case hg => exact hT))
              | (refine wpList_store_to (by rfl) 42 _ _ rfl (w.heap.size + 1) rfl (stC (stOf (r + 1) (D ++ [y])) so sc) rfl 42 (stC (stOf (r + 1) D) ro rc) (st_size _ _ _) (st_same _ _ _ _ _ _) (st_one _ _ _) ?hg w7 ?hW ?_; (case hg => exact hX); (case hW => exact hw7))
              | (refine wpList_load_any (by rfl) 25 _ rfl _ rfl (opL y) _ ?hg Try.underlying25 rfl (op_size y) ?_; (case hg => exact hcy))
              | (refine wpList_slice_one (by rfl) 22 _ rfl (.agg (opC y)) rfl (.slice (some ⟨w7.heap.size, 0, none⟩) 1 1) (w7.alloc (.cells (opC y) 25)) ?hr ?_; (case hr => exact slice_one_op y _))
              | (at_builtin; refine wpList_append_own_at _ rfl _ _ 22 rfl (w.heap.size + 1 + 1) 25 i0 (.agg (opC op0)) 6 32 Try.underlying22 hi hz0 hz1 hz2 rfl (by decide) _ D.length _ rfl (hown7.alloc _) ⟨w7.heap.size, 0, none⟩ 1 1 (opC y).toList rfl rfl (one_row _ _ _) (op_cells1 y) (by unfold maxLen; omega) (by omega) (by simp; omega) ?_))
            intro v' w8 hown8 hgrow _ hat
            have hX8 := (hX7.alloc (.cells (opC y) 25)).grownBy hgrow (fun e => by have := (hvlt _ e).1; omega)
            have hR8 := (hR7.alloc (.cells (opC y) 25)).grownBy hgrow (fun e => by have := (hvlt _ e).1; omega)
            have hne : ∀ d, so = some d → Value.ownBlock u7 ≠ some d.block := fun d hd e => by have := hnew d hd; have := (hvlt _ e).2; omega
            have hal : Below w7.heap.size w7 (w7.alloc (.cells (opC y) 25)) := (Below.refl _ _).alloc (Nat.le_refl _) _
            have hsl8 := (hsl7.later hal).grown hgrow hne
            have hb8 : Below w.heap.size w w8 := (hb7.alloc hb7.size _).grown hgrow (by simp; omega) (fun k hk => by have := (hvlt k hk).1; omega)
            have hpos : 0 < (entR (stOf (r + 1) (D ++ [y])).log).length := by
              rw [entR_len]
              show 0 < (sK (r + 1) (D ++ [y]) ((D ++ [y]).length - 6)).log.length
              rw [sK_len, List.length_append, List.length_singleton]
              omega
            have hvl8 : ∀ d, so = some d → v'.ownBlock ≠ some d.block := fun d hd e => by
              subst hd
              have hlt := hsl7.block_lt hpos (by decide)
              rcases hat with e1 | e1
              · exact hne d rfl (e1.symm.trans e)
              · rw [e] at e1
                have := Option.some.inj e1
                omega
            have hown9 : w8.ownsRow (w.heap.size + 1 + 1) 25 6 v' (D ++ [y]).length (opR (D ++ [y])).flatten := by
              rw [opF_snoc, List.length_append]
              exact hown8
            have hap8 : ∀ d, so = some d → w.heap.size + 1 < d.block := fun d hd => by have := hnew d hd; omega
            clear hown8 hgrow hat hown7 hsl7 hX7 hR7 hb7 hcy hw7 hT hsl6 hnew hne hal hpos
            go_wp2
            go_roundw
            case rel => exact ⟨n + 1, so, sc, by omega, by go_num, hR8, by rw [hnext.out]; exact hX8, by rw [hnext.out]; exact hsl8, hap8, by rw [hnext.out]; exact hown9, hvl8, hb8⟩
            case measure => simp [intOf]; omega
        · refine plan_alloc_has _ rfl (by rfl) 42 rfl (stC st0 none 0) st_zero (hbA.alloc hbA.size _) ?_
          try simp only [Act.put, List.setIfInBounds_toArray, List.set_cons_zero, List.set_cons_succ]
          obtain ⟨w3, hw3, hT, hq⟩ : ∃ W, w2.drew.alloc (.cells (stC st0 none 0) 42) = W ∧ Has W w2.heap.size 42 (stC st0 none 0) ∧ Below w2.heap.size w2.drew W := one_var w2.drew 42 (stC st0 none 0)
          rw [hw3]
          have hb3 : Below w2.heap.size w2 w3 := hbA.trans (hq.mono hbA.size)
          have hgt : w2.heap.size ≤ w2.heap.size := Nat.le_refl _
          have hlt3 := hT.lt
          clear hq hw3
          refine plan_run _ rfl (fun K hK => ?_)
          go_simp
          refine (hva _ (hS8.later hb3)).mono ?_
          rintro en w4 ⟨so, sc, rfl, hG⟩
          have hb4 : Below w2.heap.size w2 w4 := hb3.trans (hG.below.mono hb3.size)
          have hnew : ∀ d, so = some d → w2.heap.size ≤ d.block := fun d hd => by have := hG.new d hd; have := hb3.size; omega
          have hnet : ∀ d, so = some d → d.block ≠ w2.heap.size := fun d hd => by have := hG.new d hd; omega
          refine hK.out _ _ hb4 ?_
          clear hK K
          try simp only [Act.put, List.setIfInBounds_toArray, List.set_cons_zero, List.set_cons_succ]
          iterate 3
            first
              | (refine plan_pass _ rfl (by rfl) ?_)
              | (refine plan_take _ _ rfl (.inl ⟨by rfl, fun W hS => by clear hS; go_simp; try with_reducible rfl⟩) ?_)
            try simp only [Act.put, List.setIfInBounds_toArray, List.set_cons_zero, List.set_cons_succ]
          replace hT := hT.later hG.below
          have hT6 := hT.row (stC A.1 so sc)
          have hb6 := below_setRow hb4 hgt (stC A.1 so sc)
          have hsl6 := hG.sl.row_other hnet (stC A.1 so sc)
          refine plan_store_has _ rfl (by rfl) 42 _ _ rfl w2.heap.size rfl (stC A.1 so sc) rfl 42 (stC st0 none 0) (st_size _ _ _) (st_same _ _ _ _ _ _) (st_one _ _ _) hT hb6 ?_
          try simp only [Act.put, List.setIfInBounds_toArray, List.set_cons_zero, List.set_cons_succ]
          iterate 1
            first
              | (refine plan_pass _ rfl (by rfl) ?_)
              | (refine plan_take _ _ rfl (.inl ⟨by rfl, fun W hS => by clear hS; go_simp; try with_reducible rfl⟩) ?_)
            try simp only [Act.put, List.setIfInBounds_toArray, List.set_cons_zero, List.set_cons_succ]
          refine plan_done ?_
          replace hT := hT6
          clear hG hb4 hva hT6 hnet hlt3 hb3
          generalize w4.setRow w2.heap.size (stC A.1 so sc) = w6 at *
          replace hR := hR.later hb6
          replace hX := hX.later hb6
          replace hS8 := hS8.later hb6
          replace hown := own_below hown hb6
          have hbw := hb.trans (hb6.mono hb.size)
          cases hwy : writesM y with
          | false =>
            rw [hwy, if_neg (by simp)] at hadd hnext
            have hA2 : A.2 = 10 := by rw [hadd.out]
            rw [hA2]
            clear hT hsl6 hnew hci
            go_wp2
            go_roundw
            case rel => exact ⟨n + 1, ro, rc, by omega, by go_num, hR, by rw [hnext.out]; exact hX, by rw [hnext.out]; exact hS8, hap, by rw [hnext.out]; exact hown, hvl, hbw⟩
            case measure => simp [intOf]; omega
          | true =>
            rw [hwy, if_pos rfl] at hadd hnext
            have hA1 : A.1 = stOf (r + 1) (D ++ [y]) := by rw [hadd.out]
            have hA2 : A.2 = 0 := by rw [hadd.out]
            rw [hA1] at hT hsl6
            rw [hA1, hA2, show ((0 : Nat) : Int) = 0 from rfl]
            have hX7 := hX.row (stC (stOf (r + 1) (D ++ [y])) so sc)
            have hR7 := hR.row_other (k := w.heap.size + 1) (by omega) (stC (stOf (r + 1) (D ++ [y])) so sc)
            have hsl7 := hsl6.row_other (k := w.heap.size + 1) (fun d hd => by have := hnew d hd; omega) (stC (stOf (r + 1) (D ++ [y])) so sc)
            have hown7 := own_row hown (k := w.heap.size + 1) (fun e => by have := (hvlt _ e).1; omega) (stC (stOf (r + 1) (D ++ [y])) so sc)
            have hb7 := below_setRow hbw (show w.heap.size ≤ w.heap.size + 1 by omega) (stC (stOf (r + 1) (D ++ [y])) so sc)
            obtain ⟨w7, hw7⟩ : ∃ W, w6.setRow (w.heap.size + 1) (stC (stOf (r + 1) (D ++ [y])) so sc) = W := ⟨_, rfl⟩
            rw [hw7] at hX7 hR7 hsl7 hown7 hb7
            have hcy := hci w7 hb7
            have hs7 := hb7.size
            have hlt7 := hX7.lt
            clear hci
            go_wp2_with (first
              | (refine wpList_load_has (by rfl) 42 _ rfl (w2.heap.size) rfl 42 (stC (stOf (r + 1) (D ++ [y])) so sc) _ Try.underlying42 rfl (st_size _ _ _) ?hg ?_; (case hg => exact hT))
              | (refine wpList_store_to (by rfl) 42 _ _ rfl (w.heap.size + 1) rfl (stC (stOf (r + 1) (D ++ [y])) so sc) rfl 42 (stC (stOf (r + 1) D) ro rc) (st_size _ _ _) (st_same _ _ _ _ _ _) (st_one _ _ _) ?hg w7 ?hW ?_; (case hg => exact hX); (case hW => exact hw7))
              | (refine wpList_load_any (by rfl) 25 _ rfl _ rfl (opL y) _ ?hg Try.underlying25 rfl (op_size y) ?_; (case hg => exact hcy))
              | (refine wpList_slice_one (by rfl) 22 _ rfl (.agg (opC y)) rfl (.slice (some ⟨w7.heap.size, 0, none⟩) 1 1) (w7.alloc (.cells (opC y) 25)) ?hr ?_; (case hr => exact slice_one_op y _))
              | (at_builtin; refine wpList_append_own_at _ rfl _ _ 22 rfl (w.heap.size + 1 + 1) 25 i0 (.agg (opC op0)) 6 32 Try.underlying22 hi hz0 hz1 hz2 rfl (by decide) _ D.length _ rfl (hown7.alloc _) ⟨w7.heap.size, 0, none⟩ 1 1 (opC y).toList rfl rfl (one_row _ _ _) (op_cells1 y) (by unfold maxLen; omega) (by omega) (by simp; omega) ?_))
            intro v' w8 hown8 hgrow _ hat
            have hX8 := (hX7.alloc (.cells (opC y) 25)).grownBy hgrow (fun e => by have := (hvlt _ e).1; omega)
            have hR8 := (hR7.alloc (.cells (opC y) 25)).grownBy hgrow (fun e => by have := (hvlt _ e).1; omega)
            have hne : ∀ d, so = some d → Value.ownBlock u7 ≠ some d.block := fun d hd e => by have := hnew d hd; have := (hvlt _ e).2; omega
            have hal : Below w7.heap.size w7 (w7.alloc (.cells (opC y) 25)) := (Below.refl _ _).alloc (Nat.le_refl _) _
            have hsl8 := (hsl7.later hal).grown hgrow hne
            have hb8 : Below w.heap.size w w8 := (hb7.alloc hb7.size _).grown hgrow (by simp; omega) (fun k hk => by have := (hvlt k hk).1; omega)
            have hpos : 0 < (entR (stOf (r + 1) (D ++ [y])).log).length := by
              rw [entR_len]
              show 0 < (sK (r + 1) (D ++ [y]) ((D ++ [y]).length - 6)).log.length
              rw [sK_len, List.length_append, List.length_singleton]
              omega
            have hvl8 : ∀ d, so = some d → v'.ownBlock ≠ some d.block := fun d hd e => by
              subst hd
              have hlt := hsl7.block_lt hpos (by decide)
              rcases hat with e1 | e1
              · exact hne d rfl (e1.symm.trans e)
              · rw [e] at e1
                have := Option.some.inj e1
                omega
            have hown9 : w8.ownsRow (w.heap.size + 1 + 1) 25 6 v' (D ++ [y]).length (opR (D ++ [y])).flatten := by
              rw [opF_snoc, List.length_append]
              exact hown8
            have hap8 : ∀ d, so = some d → w.heap.size + 1 < d.block := fun d hd => by have := hnew d hd; omega
            clear hown8 hgrow hat hown7 hsl7 hX7 hR7 hb7 hcy hw7 hT hsl6 hnew hne hal hpos
            go_wp2
            go_roundw
            case rel => exact ⟨n + 1, so, sc, by omega, by go_num, hR8, by rw [hnext.out]; exact hX8, by rw [hnext.out]; exact hsl8, hap8, by rw [hnext.out]; exact hown9, hvl8, hb8⟩
            case measure => simp [intOf]; omega
    · have e5 : n = l.length := by omega
      subst e5
      rw [List.take_length] at hX hS8 hown
      obtain ⟨hzz, bo, bc, rfl, hBo, hbk⟩ := ops_own hown
      have hlo := hown.lt
      have hz := hR.row (stC (stOf (r + 1) (l.filter writesM)) ro rc)
      have hS9 := hS8.row_other (k := w.heap.size) (fun d hd => by have := hap d hd; omega) (stC (stOf (r + 1) (l.filter writesM)) ro rc)
      have hB9 := hBo.row_other (k := w.heap.size) (fun d hd => by have := (hlo _ (hbk d hd)).1; omega) (stC (stOf (r + 1) (l.filter writesM)) ro rc)
      have hb9 := below_setRow hb (Nat.le_refl _) (stC (stOf (r + 1) (l.filter writesM)) ro rc)
      have hn1 : ∀ d, ro = some d → w.heap.size ≤ d.block := fun d hd => by have := hap d hd; omega
      have hn2 : ∀ d, bo = some d → w.heap.size ≤ d.block := fun d hd => by have := (hlo _ (hbk d hd)).1; omega
      generalize hDe : l.filter writesM = D at *
      replace hDe : Hid _ := hDe
      clear hown hS8 hBo hb hap hvl hlo hbk
      go_wp2_with (first
        | (refine wpList_load_has (by rfl) 42 _ rfl (w.heap.size + 1) rfl 42 (stC (stOf (r + 1) D) ro rc) _ Try.underlying42 rfl (st_size _ _ _) ?hg ?_; (case hg => exact hX))
        | (refine wpList_store_has (by rfl) 42 _ _ rfl w.heap.size rfl (stC (stOf (r + 1) D) ro rc) rfl 42 (stC st0 none 0) (st_size _ _ _) (st_same _ _ _ _ _ _) (st_one _ _ _) ?hg ?_; (case hg => exact hR)))
      exact ret_has_tmp rfl w.heap.size rfl 42 (stC (stOf (r + 1) D) ro rc) _ Try.underlying42 rfl (st_size _ _ _) hz rfl ⟨ro, rc, bo, bc, by rw [hDe.out]; rfl, by rw [hDe.out]; exact hS9, hn1, by rw [hDe.out]; exact hB9, hn2, hb9⟩
end Go.Proofs.Ytkkjdihmjcaibab
