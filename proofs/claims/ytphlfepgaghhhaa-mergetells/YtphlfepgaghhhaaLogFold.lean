/- Fields of values; the contracts of pglog's folded and reach. -/
import Derived.Test.YtphlfepgaghhhaaLogJoin
import Derived.Test.YtphlfepgaghhhaaVal
namespace Go.Proofs.Ytphlfepgaghhhaa
set_option linter.unusedSimpArgs false
set_option linter.unusedVariables false
set_option maxRecDepth 100000
open Go.RowKit

section
variable {P : Program} {ops : Array Oper} {rest : List Oper} {o : Oper} {a : Act} {w : World} {Q : Exit → Act → World → Prop}
theorem run_field_one {ev : Operand → Value} (ty : TypeId) (x : Operand) (k : Nat) (ho : o.op = .field ty x k) (cs : Array Value) (hx : ev x = .agg cs) (fs : Array Field) (f : Field) (d : TypeDesc) (hu : P.underlying ty = some (.struct fs)) (hf : fs[k]? = some f) (hue : P.underlying f.type = some d) (hd : d.isRow = false) (v : Value) (hv : cs[f.offset]? = some v) (w : World) :
    (execOp ev o).run P w = .ok (.value v) w := by
  have hagg : (isAgg f.type).run P w = .ok false w := by
    unfold isAgg
    rw [Sem.run_bind, run_underlying hue w]
    cases d <;> simp_all
  unfold execOp
  simp only [ho, hx]
  simp [Instr.field, Sem.run_bind, run_underlying hu, hf, asAgg, part, hagg, hv]
theorem run_field_row {ev : Operand → Value} (ty : TypeId) (x : Operand) (k : Nat) (ho : o.op = .field ty x k) (cs : Array Value) (hx : ev x = .agg cs) (fs : Array Field) (f : Field) (d : TypeDesc) (sz : Nat) (hu : P.underlying ty = some (.struct fs)) (hf : fs[k]? = some f) (hue : P.underlying f.type = some d) (hd : d.isRow = true) (hi : (P.info? f.type).map (·.size) = some sz) (c : Array Value) (hc : cs.extract f.offset (f.offset + sz) = c) (w : World) :
    (execOp ev o).run P w = .ok (.value (.agg c)) w := by
  have hagg : (isAgg f.type).run P w = .ok true w := by
    unfold isAgg
    rw [Sem.run_bind, run_underlying hue w]
    cases d <;> simp_all
  cases hq : P.info? f.type with
  | none => simp [hq] at hi
  | some i =>
    have hs : i.size = sz := by simpa [hq] using hi
    unfold execOp
    simp only [ho, hx]
    simp [Instr.field, Sem.run_bind, run_underlying hu, hf, asAgg, part, hagg, sizeOf, typeInfo, hq, hs, hc]
end
theorem ent_field_n {o : Oper} {ev : Operand → Value} (x : Operand) (ho : o.op = .field 37 x 1) (e : EntV) (hx : ev x = .agg (entC e)) (w : World) : (execOp ev o).run Try.prog w = .ok (.value (.int .u32 (e.n : Int))) w :=
  run_field_one 37 x 1 ho (entC e) hx _ _ _ Try.underlying37 rfl Try.underlying22 rfl _ rfl w

theorem head_n (s : StV) : headE s = lastE s.tail s.log := rfl

set_option maxHeartbeats 4000000 in
theorem folded_any (s : StV) (ao : Option Addr) (c k : Nat) (w : World) (hB0 : BaseOk s.base) (hT0 : EntOk s.tail) (h : Sl w ao c 8 (entR s.log)) (hl : ∀ e ∈ s.log, EntOk e) (hn : s.log.length ≤ 1000) (hk : k ≤ s.log.length) :
    Calls Try.prog 45 #[.agg (stC s ao c), .int .i64 (k : Int)] w fun en w' => ∃ ro rc, en = .returned (.agg (stC (foldK s k) ro rc)) ∧ Gives w w' (foldK s k) ro rc := by
  obtain ⟨w1, hw1, hX, hR, hb⟩ := two_vars w 40 40 (stC s ao c) (stC st0 none 0)
  have hle := h.ent_le
  have hcap := h.cap
  have hlen1 : (s.log.take k).length = k := by rw [List.length_take]; omega
  have hlen2 : (s.log.drop k).length = s.log.length - k := List.length_drop
  have hhead := fun W => run_head W ao s.log.length c k (by omega)
  have hrest := fun W => run_rest W ao s.log.length c k hk hle
  have hdone := fun W (hW : Below w.heap.size w W) => done_any s.base ao c (s.log.take k) W hB0 ((h.later hW).take k) (fun e he => hl e (List.mem_of_mem_take he)) (by omega)
  have hlast := fun W (hW : Below w.heap.size w W) => last_any s.tail ao c (s.log.take k) W ((h.later hW).take k) (by omega)
  have hjoin := fun W (hW : Below w.heap.size w W) => joined_any (cutAddr ao c k) none (c - k) 0 (s.log.drop k) [] W ((h.later hW).drop k hk) (Sl.nothing W 8) (by simp; omega)
  rw [List.append_nil] at hjoin
  rw [hlen1] at hdone hlast
  rw [hlen2] at hjoin
  have hz : Hid (foldK s k = ⟨s.started, doneM s.base (s.log.take k), lastE s.tail (s.log.take k), s.log.drop k⟩) := rfl
  generalize cutAddr ao c k = co at *
  generalize doneM s.base (s.log.take k) = B at *
  generalize lastE s.tail (s.log.take k) = T at *
  generalize hm : s.log.length - k = m at *
  replace hm : Hid _ := hm
  generalize hL : s.log.drop k = L at *
  replace hL : Hid _ := hL
  have hLm : Hid _ := hlen2
  go_enter Try.func45, Try.ntmps45
  go_wp2_with (first
    | (refine wpList_alloc_has (by rfl) 40 rfl (stC st0 none 0) st_zero ?_; rw [hw1]))
  have hbA : Below w1.heap.size w1 w1.drew := (Below.refl _ _).drew
  refine wp_region_plan (fun W => Below w1.heap.size w1 W) (Plan.of [(0, true), (1, true), (2, true), (3, true), (4, true), (5, true), (6, true), (7, true), (8, true), (9, true)] .done) (by kernel_rfl) (by kernel_rfl) (by kernel_rfl) (by kernel_rfl) hbA ?_
  iterate 1
    first
      | (refine plan_pass _ rfl (by rfl) ?_)
      | (refine plan_take _ _ rfl (.inl ⟨by rfl, fun W hS => by clear hS; go_simp; try with_reducible rfl⟩) ?_)
    try simp only [Act.put, List.setIfInBounds_toArray, List.set_cons_zero, List.set_cons_succ]
  iterate 1
    first
      | (refine plan_pass _ rfl (by rfl) ?_)
      | (refine plan_take _ _ rfl (.inl ⟨by rfl, fun W hS => by have z0 := (hX.later hS).st_log; go_simp; try with_reducible rfl⟩) ?_)
    try simp only [Act.put, List.setIfInBounds_toArray, List.set_cons_zero, List.set_cons_succ]
  iterate 1
    first
      | (refine plan_pass _ rfl (by rfl) ?_)
      | (refine plan_take _ _ rfl (.inl ⟨by rfl, fun W hS => by clear hS; go_simp; try with_reducible rfl⟩) ?_)
    try simp only [Act.put, List.setIfInBounds_toArray, List.set_cons_zero, List.set_cons_succ]
  refine plan_take _ (.slice ao k c) rfl (.inl ⟨by rfl, fun W hS => by clear hS; have z := hhead W; go_simp; try with_reducible rfl⟩) ?_
  try simp only [Act.put, List.setIfInBounds_toArray, List.set_cons_zero, List.set_cons_succ]
  iterate 1
    first
      | (refine plan_pass _ rfl (by rfl) ?_)
      | (refine plan_take _ _ rfl (.inl ⟨by rfl, fun W hS => by clear hS; go_simp; try with_reducible rfl⟩) ?_)
    try simp only [Act.put, List.setIfInBounds_toArray, List.set_cons_zero, List.set_cons_succ]
  iterate 1
    first
      | (refine plan_pass _ rfl (by rfl) ?_)
      | (refine plan_take _ _ rfl (.inl ⟨by rfl, fun W hS => by have z0 := (hX.later hS).st_log; go_simp; try with_reducible rfl⟩) ?_)
    try simp only [Act.put, List.setIfInBounds_toArray, List.set_cons_zero, List.set_cons_succ]
  iterate 1
    first
      | (refine plan_pass _ rfl (by rfl) ?_)
      | (refine plan_take _ _ rfl (.inl ⟨by rfl, fun W hS => by clear hS; go_simp; try with_reducible rfl⟩) ?_)
    try simp only [Act.put, List.setIfInBounds_toArray, List.set_cons_zero, List.set_cons_succ]
  refine plan_take _ (.slice co m (c - k)) rfl (.inl ⟨by rfl, fun W hS => by clear hS; have z := hrest W; go_simp; try with_reducible rfl⟩) ?_
  try simp only [Act.put, List.setIfInBounds_toArray, List.set_cons_zero, List.set_cons_succ]
  iterate 2
    first
      | (refine plan_pass _ rfl (by rfl) ?_)
      | (refine plan_take _ _ rfl (.inl ⟨by rfl, fun W hS => by clear hS; go_simp; try with_reducible rfl⟩) ?_)
    try simp only [Act.put, List.setIfInBounds_toArray, List.set_cons_zero, List.set_cons_succ]
  refine plan_done ?_
  replace hX := hX.later hbA
  replace hR := hR.later hbA
  replace hb := hb.trans (hbA.mono hb.size)
  clear hbA hw1
  generalize w1.drew = w2 at *
  have hBx := hX.st_base
  go_wp2_with (first
    | (refine wpList_load_mid' (by rfl) 33 _ rfl w.heap.size 1 rfl (baseL s.base) _ ?hg Try.underlying33 rfl (base_size _) ?_; (case hg => exact hBx)))
  refine (hdone _ hb).mono ?_
  rintro en w3 ⟨rfl, hq⟩
  replace hX := hX.later hq
  replace hR := hR.later hq
  replace hb := hb.trans (hq.mono hb.size)
  clear hq hBx
  have ht : Hid (w3.there w.heap.size 1 (baseC B).size) := hX.there 1 39 (by show 1 + 39 ≤ 49; omega)
  have hX3 : Has (w3.setCells w.heap.size 1 (baseC B).toList) w.heap.size 40 (stC ⟨s.started, B, s.tail, s.log⟩ ao c) := hX.setBase B
  have hR3 := hR.cells_other (k := w.heap.size) (by omega) (baseC B).toList 1
  have hb3 := below_setCells hb (Nat.le_refl w.heap.size) (baseC B).toList 1
  obtain ⟨w4, hw4⟩ : ∃ W, w3.setCells w.heap.size 1 (baseC B).toList = W := ⟨_, rfl⟩
  rw [hw4] at hX3 hR3 hb3
  have hTx := hX3.st_tail
  go_wp2_with (first
    | (refine wpList_store_mid' (by rfl) 33 _ _ rfl w.heap.size 1 (baseC B) rfl rfl ?hg (base_size B) (base_one B) ?_; (case hg => exact ht.out); rw [hw4])
    | (refine wpList_load_mid' (by rfl) 37 _ rfl w.heap.size 40 rfl (entL s.tail) _ ?hg Try.underlying37 rfl (ent_size _) ?_; (case hg => exact hTx)))
  refine (hlast _ hb3).mono ?_
  rintro en w5 ⟨rfl, hq⟩
  replace hX3 := hX3.later hq
  replace hR3 := hR3.later hq
  replace hb3 := hb3.trans (hq.mono hb3.size)
  clear hq hTx hX hR hb ht hw4
  have ht : Hid (w5.there w.heap.size 40 (entC T).size) := hX3.there 40 8 (by show 40 + 8 ≤ 49; omega)
  have hX5 : Has (w5.setCells w.heap.size 40 (entC T).toList) w.heap.size 40 (stC ⟨s.started, B, T, s.log⟩ ao c) := hX3.setTail T
  have hR5 := hR3.cells_other (k := w.heap.size) (by omega) (entC T).toList 40
  have hb5 := below_setCells hb3 (Nat.le_refl w.heap.size) (entC T).toList 40
  obtain ⟨w6, hw6⟩ : ∃ W, w5.setCells w.heap.size 40 (entC T).toList = W := ⟨_, rfl⟩
  rw [hw6] at hX5 hR5 hb5
  go_wp2_with (first
    | (refine wpList_store_mid' (by rfl) 37 _ _ rfl w.heap.size 40 (entC T) rfl rfl ?hg (ent_size T) (ent_one T) ?_; (case hg => exact ht.out); rw [hw6]))
  refine (hjoin _ hb5).mono ?_
  rintro en w7 ⟨g, hg1, rfl, hG, hq⟩
  have hgs : w.heap.size + 1 < g := by have := hR5.lt; omega
  replace hX5 := hX5.later hq
  replace hR5 := hR5.later hq
  replace hb5 := hb5.trans (hq.mono hb5.size)
  clear hq ht hX3 hR3 hb3 hw6
  have c48 := hX5.st_log
  have f48 := hX5.free 48
  have hX7 := hX5.setLog L (some ⟨g, 0, none⟩) m
  rw [hlen2] at hX7
  have hR7 := hR5.set_other (a := ⟨w.heap.size, 48, none⟩) (show w.heap.size + 1 ≠ w.heap.size by omega) (.slice (some ⟨g, 0, none⟩) m m)
  have hG7 := hG.set_other (a := ⟨w.heap.size, 48, none⟩) (show g ≠ w.heap.size by omega) (.slice (some ⟨g, 0, none⟩) m m)
  have hb7 := hb5.setCell (show w.heap.size ≤ (⟨w.heap.size, 48, none⟩ : Addr).block from Nat.le_refl _) (.slice (some ⟨g, 0, none⟩) m m)
  obtain ⟨w8, hw8⟩ : ∃ W, w7.setCell ⟨w.heap.size, 48, none⟩ (.slice (some ⟨g, 0, none⟩) m m) = W := ⟨_, rfl⟩
  rw [hw8] at hX7 hR7 hG7 hb7
  have hz2 : withLog ⟨s.started, B, T, s.log⟩ L = foldK s k := by rw [hz.out]; rfl
  rw [hz2] at hX7
  have hzl : (foldK s k).log = L := by rw [hz.out]
  have hR8 := hR7.row (stC (foldK s k) (some ⟨g, 0, none⟩) m)
  have hG8 := hG7.row_other (k := w.heap.size + 1) (by omega) (stC (foldK s k) (some ⟨g, 0, none⟩) m)
  have hb8 := below_setRow hb7 (show w.heap.size ≤ w.heap.size + 1 by omega) (stC (foldK s k) (some ⟨g, 0, none⟩) m)
  have hSl := hG8.ents (by rw [hlen2]; have := hm.out; omega)
  rw [hlen2] at hSl
  replace hzl : Hid _ := hzl
  have hgg : w.heap.size ≤ g := by omega
  clear hz2 hz hX5 hR5 hb5 hG hhead hrest hdone hlast hjoin
  go_wp2_with (first
    | (refine wpList_load_has (by rfl) 40 _ rfl w.heap.size rfl 40 (stC (foldK s k) (some ⟨g, 0, none⟩) m) _ Try.underlying40 rfl (st_size _ _ _) ?hg ?_; (case hg => exact hX7))
    | (refine wpList_store_has (by rfl) 40 _ _ rfl (w.heap.size + 1) rfl (stC (foldK s k) (some ⟨g, 0, none⟩) m) rfl 40 (stC st0 none 0) (st_size _ _ _) (st_same _ _ _ _ _ _) (st_one _ _ _) ?hg ?_; (case hg => exact hR7)))
  refine ret_has rfl (w.heap.size + 1) rfl 40 (stC (foldK s k) (some ⟨g, 0, none⟩) m) _ Try.underlying40 rfl (st_size _ _ _) hR8 rfl ⟨some ⟨g, 0, none⟩, m, rfl, ?_, ?_, hb8⟩
  · rw [hzl.out]
    exact hSl
  · intro d hd
    obtain rfl := Option.some.inj hd
    exact hgg

theorem reach_form {s : StV} {n : Nat} (h : isM s = false) : reachM s n = (0, 10) := by unfold reachM; rw [if_pos h]
theorem reach_below {s : StV} {n : Nat} (h : isM s = true) (h1 : n < s.tail.n) : reachM s n = (0, 80) := by unfold reachM; rw [if_neg (by rw [h]; simp), if_pos h1]
theorem reach_above {s : StV} {n : Nat} (h : isM s = true) (h1 : ¬ n < s.tail.n) (h2 : (headE s).n < n) : reachM s n = (0, 141) := by unfold reachM; rw [if_neg (by rw [h]; simp), if_neg h1, if_pos h2]
theorem reach_in {s : StV} {n : Nat} (h : isM s = true) (h1 : ¬ n < s.tail.n) (h2 : ¬ (headE s).n < n) : reachM s n = (n - s.tail.n, 0) := by unfold reachM; rw [if_neg (by rw [h]; simp), if_neg h1, if_neg h2]
/-- How far a number reaches is within the log. -/
theorem reach_le {s : StV} {n : Nat} (h : (reachM s n).2 = 0) : isM s = true ∧ (reachM s n).1 ≤ s.log.length := by
  cases hs : isM s with
  | false => rw [reach_form hs] at h; cases h
  | true =>
    refine ⟨rfl, ?_⟩
    by_cases h1 : n < s.tail.n
    · rw [reach_below hs h1]; exact Nat.zero_le _
    · by_cases h2 : (headE s).n < n
      · rw [reach_above hs h1 h2]; exact Nat.zero_le _
      · rw [reach_in hs h1 h2]
        have h3 := chain_n s.tail s.log ((is_is s).1 hs).2.2.2.2
        rw [← head_n s] at h3
        show n - s.tail.n ≤ _
        omega

set_option maxHeartbeats 4000000 in
theorem reach_any (s : StV) (ao : Option Addr) (c n : Nat) (w : World) (hs : StOk s) (h : Sl w ao c 8 (entR s.log)) (hn : n < 4294967296) :
    Calls Try.prog 54 #[.agg (stC s ao c), .int .u32 (n : Int)] w fun en w' => en = .returned (.tuple #[.int .i64 ((reachM s n).1 : Int), .int .i64 ((reachM s n).2 : Int)]) ∧ Below w.heap.size w w' := by
  obtain ⟨w1, hw1, hX, hb⟩ := one_var w 40 (stC s ao c)
  have hlen := hs.len
  have hle := h.ent_le
  have hcap := h.cap
  have htn := hs.tail.n
  have hhn := (lastE_ok hs.tail hs.log).n
  go_enter Try.func54, Try.ntmps54
  go_wp2_with (first
    | (refine wpList_load_has (by rfl) 40 _ rfl w.heap.size rfl 40 (stC s ao c) _ Try.underlying40 rfl (st_size _ _ _) ?hg ?_; (case hg => exact hX)))
  refine (is_any s ao c _ hs (h.later hb)).mono ?_
  rintro en w2 ⟨rfl, hq⟩
  replace hX := hX.later hq
  replace hb := hb.trans (hq.mono hb.size)
  clear hq hw1
  have hn41 := hX.st_tail_n
  cases hi : isM s with
  | false =>
    have hM : Hid _ := reach_form (n := n) hi
    go_wp2
    go_ret2
    exact ⟨by rw [hM.out]; rfl, hb⟩
  | true =>
    by_cases h1 : n < s.tail.n
    · have hM : Hid _ := reach_below hi h1
      have h1I : (n : Int) < (s.tail.n : Int) := by omega
      go_wp2
      go_ret2
      exact ⟨by rw [hM.out]; rfl, hb⟩
    · have h1I : ¬ (n : Int) < (s.tail.n : Int) := by omega
      have ht := hX.st_tail
      have hl := hX.st_log
      have hr1 : Hid _ := fun h2 => reach_above hi h1 h2
      have hr2 : Hid _ := fun h2 => reach_in hi h1 h2
      have h1H : Hid _ := h1
      clear h1
      go_wp2_with (first
        | (refine wpList_load_mid' (by rfl) 37 _ rfl w.heap.size 40 rfl (entL s.tail) _ ?hg Try.underlying37 rfl (ent_size _) ?_; (case hg => exact ht)))
      refine (last_any s.tail ao c s.log _ (h.later hb) (by omega)).mono ?_
      rintro en w3 ⟨rfl, hq⟩
      replace hX := hX.later hq
      replace hb := hb.trans (hq.mono hb.size)
      have hn41 := hX.st_tail_n
      clear hq hl ht
      have hE : Hid (headE s = lastE s.tail s.log) := rfl
      rw [hE.out] at hr1 hr2
      generalize lastE s.tail s.log = E at *
      by_cases h2 : E.n < n
      · have hM : Hid _ := hr1.out h2
        have h2I : (E.n : Int) < (n : Int) := by omega
        clear h2
        go_wp2_with (first
          | (refine wpList_val (.int .u32 (E.n : Int)) (by rfl) (ent_field_n _ rfl E rfl) ?_))
        go_ret2
        exact ⟨by rw [hM.out]; rfl, hb⟩
      · have hM : Hid _ := hr2.out h2
        have h2I : ¬ (E.n : Int) < (n : Int) := by omega
        have hsub : ((n : Int) - (s.tail.n : Int)) = ((n - s.tail.n : Nat) : Int) := by have := h1H.out; omega
        clear h2
        go_wp2_with (first
          | (refine wpList_val (.int .u32 (E.n : Int)) (by rfl) (ent_field_n _ rfl E rfl) ?_))
        go_ret2
        exact ⟨by rw [hM.out]; first | rfl | (simp only [hsub]; rfl), hb⟩
end Go.Proofs.Ytphlfepgaghhhaa
