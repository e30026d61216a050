/- The contract of merge's Make. -/
import Derived.Test.YtphlfepgaghhhabMergeWay
import Derived.Test.YtphlfepgaghhhabLogRow
namespace Go.Proofs.Ytphlfepgaghhhab
set_option linter.unusedSimpArgs false
set_option linter.unusedVariables false
set_option maxRecDepth 100000
open Go.RowKit

/-- What a call that hands back a difference leaves: its logs lie in new memory. -/
structure GivesD (w w' : World) (d : DiffV) (lo : Option Addr) (lc : Nat) (wo : Option Addr) (wc : Nat) : Prop where
  sl : Sl w' lo lc 8 (entR d.log)
  wl : Sl w' wo wc 8 (entR d.whole.log)
  newl : ∀ a, lo = some a → w.heap.size ≤ a.block
  neww : ∀ a, wo = some a → w.heap.size ≤ a.block
  below : Below w.heap.size w w'

theorem wpList_build_four8 {P : Program} {ops : Array Oper} {rest : List Oper} {o : Oper} {a : Act} {w : World} {Q : Exit → Act → World → Prop} (hw : Region.wanted o (yielded ops a.tmps) = true) (t : TypeId) (i j k l : Nat) (x y z u : Operand) (ho : o.op = .build t #[(i, x), (j, y), (k, z), (l, u)]) (p q r s : Value) (hx : a.eval x = p) (hy : a.eval y = q) (hz : a.eval z = r) (hu : a.eval u = s) (c : Array Value) (hf : P.built t [(i, p), (j, q), (k, r), (l, s)] = some c)
    (h : wpList P ops Q rest (a.put o.dst (.agg c)) w) : wpList P ops Q (o :: rest) a w :=
  wpList_build_has hw t _ ho c (by simpa [hx, hy, hz, hu] using hf) h
theorem yields_build_four8 {P : Program} {ops : Array Oper} {S : World → Prop} {o : Oper} {a : Act} (hw : Region.wanted o (yielded ops a.tmps) = true) (t : TypeId) (i j k l : Nat) (x y z u : Operand) (ho : o.op = .build t #[(i, x), (j, y), (k, z), (l, u)]) (p q r s : Value) (hx : a.eval x = p) (hy : a.eval y = q) (hz : a.eval z = r) (hu : a.eval u = s) (c : Array Value) (hf : P.built t [(i, p), (j, q), (k, r), (l, s)] = some c) : YieldsIf P ops S o (.agg c) a := by
  refine .inl ⟨hw, fun W _ => ?_⟩
  have hc : P.built t ((#[(i, x), (j, y), (k, z), (l, u)] : Array (Nat × Operand)).map fun (i, x) => (i, a.eval x)).toList = some c := by simpa [hx, hy, hz, hu] using hf
  unfold execOp
  simp only [ho, Sem.run_bind, run_build W t _ c hc, Result.andThen_ok]
  rfl
theorem u32_small (n : Nat) (h : n < 4294967296) : IntKind.u32.wrap (n : Int) = (n : Int) := by
  simp [IntKind.wrap, IntKind.bits, IntKind.signed]
  omega

theorem make_no {a b : StV} (h : isM a = false ∨ isM b = false) : makeM a b = diff0 := by unfold makeM; rw [if_pos h]
theorem make_0 {a b : StV} (ha : isM a = true) (hb : isM b = true) (h : same tSt (startAt a b.started) b = true) : makeM a b = ⟨0, 0, [], endsM b⟩ := by
  unfold makeM
  rw [if_neg (by rw [ha, hb]; simp), if_pos h]
theorem make_1 {a b : StV} (ha : isM a = true) (hb : isM b = true) (h : same tSt (startAt a b.started) b = false) (h' : throughM a b = true) : makeM a b = ⟨1, b.tail.n + sharedN a b.log, b.log.drop (sharedN a b.log), endsM b⟩ := by
  unfold makeM
  rw [if_neg (by rw [ha, hb]; simp), if_neg (by rw [h]; simp), if_pos h']
theorem make_2 {a b : StV} (ha : isM a = true) (hb : isM b = true) (h : same tSt (startAt a b.started) b = false) (h' : throughM a b = false) : makeM a b = ⟨2, 0, [], b⟩ := by
  unfold makeM
  rw [if_neg (by rw [ha, hb]; simp), if_neg (by rw [h]; simp), if_neg (by rw [h']; simp)]

set_option maxHeartbeats 4000000 in
theorem make_any (s t : StV) (ao bo : Option Addr) (c d : Nat) (w : World) (hs : StOk s) (ht : StOk t) (h : Sl w ao c 8 (entR s.log)) (h' : Sl w bo d 8 (entR t.log)) :
    Calls Try.prog 8 #[.agg (stC s ao c), .agg (stC t bo d)] w fun en w' => ∃ lo lc wo wc, en = .returned (.agg (diffC (makeM s t) lo lc wo wc)) ∧ GivesD w w' (makeM s t) lo lc wo wc := by
  obtain ⟨w1, hw1, hX, hY, hR, hb⟩ := three_vars w 42 42 48 (stC s ao c) (stC t bo d) (diffC diff0 none 0 none 0)
  have hle' := h'.ent_le
  have hcap' := h'.cap
  go_enter Try.func8, Try.ntmps8
  go_wp2_with (first
    | (refine wpList_alloc_has (by rfl) 48 rfl (diffC diff0 none 0 none 0) diff_zero ?_; rw [hw1])
    | (refine wpList_load_has (by rfl) 42 _ rfl (w.heap.size) rfl 42 (stC s ao c) _ Try.underlying42 rfl (st_size _ _ _) ?hg ?_; (case hg => exact hX))
    | fail)
  refine (is_any s ao c _ hs (h.later hb)).mono ?_
  rintro en w2 ⟨rfl, hq⟩
  replace hX := hX.later hq
  replace hY := hY.later hq
  replace hR := hR.later hq
  replace hb := hb.trans (hq.mono hb.size)
  clear hq hw1
  cases hi : isM s with
  | false =>
    have hM : Hid _ := make_no (a := s) (b := t) (.inl hi)
    have hz := hR.row (diffC diff0 none 0 none 0)
    have hbz := below_setRow hb (show w.heap.size ≤ w.heap.size + 1 + 1 by omega) (diffC diff0 none 0 none 0)
    go_wp2_with (first
      | (refine wpList_build_has (by rfl) 48 #[] rfl (diffC diff0 none 0 none 0) (by simpa using diff_built0) ?_)
      | (refine wpList_store_has (by rfl) 48 _ _ rfl (w.heap.size + 1 + 1) rfl (diffC diff0 none 0 none 0) rfl 48 (diffC diff0 none 0 none 0) (diff_size _ _ _ _ _) (diff_same _ _ _ _ _ _ _ _ _ _) (diff_one _ _ _ _ _) ?hg ?_; (case hg => exact hR))
      | fail)
    refine ret_has rfl (w.heap.size + 1 + 1) rfl 48 (diffC diff0 none 0 none 0) _ Try.underlying48 rfl (diff_size _ _ _ _ _) hz rfl ⟨none, 0, none, 0, by rw [hM.out], ?_⟩
    rw [hM.out]
    exact ⟨Sl.nothing _ _, Sl.nothing _ _, (fun a ha => by cases ha), (fun a ha => by cases ha), hbz⟩
  | true =>
  go_wp2_with (first
    | (refine wpList_load_has (by rfl) 42 _ rfl (w.heap.size + 1) rfl 42 (stC t bo d) _ Try.underlying42 rfl (st_size _ _ _) ?hg ?_; (case hg => exact hY))
    | fail)
  refine (is_any t bo d _ ht (h'.later hb)).mono ?_
  rintro en w3 ⟨rfl, hq⟩
  replace hX := hX.later hq
  replace hY := hY.later hq
  replace hR := hR.later hq
  replace hb := hb.trans (hq.mono hb.size)
  clear hq
  cases hj : isM t with
  | false =>
    have hM : Hid _ := make_no (a := s) (b := t) (.inr hj)
    have hz := hR.row (diffC diff0 none 0 none 0)
    have hbz := below_setRow hb (show w.heap.size ≤ w.heap.size + 1 + 1 by omega) (diffC diff0 none 0 none 0)
    go_wp2_with (first
      | (refine wpList_build_has (by rfl) 48 #[] rfl (diffC diff0 none 0 none 0) (by simpa using diff_built0) ?_)
      | (refine wpList_store_has (by rfl) 48 _ _ rfl (w.heap.size + 1 + 1) rfl (diffC diff0 none 0 none 0) rfl 48 (diffC diff0 none 0 none 0) (diff_size _ _ _ _ _) (diff_same _ _ _ _ _ _ _ _ _ _) (diff_one _ _ _ _ _) ?hg ?_; (case hg => exact hR))
      | fail)
    refine ret_has rfl (w.heap.size + 1 + 1) rfl 48 (diffC diff0 none 0 none 0) _ Try.underlying48 rfl (diff_size _ _ _ _ _) hz rfl ⟨none, 0, none, 0, by rw [hM.out], ?_⟩
    rw [hM.out]
    exact ⟨Sl.nothing _ _, Sl.nothing _ _, (fun a ha => by cases ha), (fun a ha => by cases ha), hbz⟩
  | true =>
  have hllt := last_lt ht hj
  have m0 : Hid _ := make_0 hi hj
  have m1 : Hid _ := make_1 hi hj
  have m2 : Hid _ := make_2 hi hj
  clear hi hj
  go_wp2_with (first
    | (refine wpList_load_has (by rfl) 42 _ rfl (w.heap.size) rfl 42 (stC s ao c) _ Try.underlying42 rfl (st_size _ _ _) ?hg ?_; (case hg => exact hX))
    | (refine wpList_load_has (by rfl) 42 _ rfl (w.heap.size + 1) rfl 42 (stC t bo d) _ Try.underlying42 rfl (st_size _ _ _) ?hg ?_; (case hg => exact hY))
    | fail)
  refine (sbs_any s t ao bo c d _ hs ht (h.later hb) (h'.later hb)).mono ?_
  rintro en w4 ⟨rfl, hq⟩
  replace hX := hX.later hq
  replace hY := hY.later hq
  replace hR := hR.later hq
  replace hb := hb.trans (hq.mono hb.size)
  clear hq
  generalize same tSt (startAt s t.started) t = b at *
  cases b with
  | true =>
    have hM : Hid _ := m0.out (by first | trivial | rfl)
    clear m0 m1 m2
    go_wp2_with (first
      | (refine wpList_load_has (by rfl) 42 _ rfl (w.heap.size + 1) rfl 42 (stC t bo d) _ Try.underlying42 rfl (st_size _ _ _) ?hg ?_; (case hg => exact hY))
      | fail)
    refine (ends_any t bo d _).mono ?_
    rintro en w5 ⟨rfl, hq⟩
    replace hR := hR.later hq
    replace hb := hb.trans (hq.mono hb.size)
    clear hq
    have hz := hR.row (diffC ⟨0, 0, [], endsM t⟩ none 0 none 0)
    have hbz := below_setRow hb (show w.heap.size ≤ w.heap.size + 1 + 1 by omega) (diffC ⟨0, 0, [], endsM t⟩ none 0 none 0)
    go_wp2_with (first
      | (refine wpList_build_two (by rfl) 48 0 3 _ _ rfl (.int .i64 0) (.agg (stC (endsM t) none 0)) rfl rfl (diffC ⟨0, 0, [], endsM t⟩ none 0 none 0) (diff_built_kw none 0 0 (endsM t)) ?_)
      | (refine wpList_store_has (by rfl) 48 _ _ rfl (w.heap.size + 1 + 1) rfl (diffC ⟨0, 0, [], endsM t⟩ none 0 none 0) rfl 48 (diffC diff0 none 0 none 0) (diff_size _ _ _ _ _) (diff_same _ _ _ _ _ _ _ _ _ _) (diff_one _ _ _ _ _) ?hg ?_; (case hg => exact hR))
      | fail)
    refine ret_has rfl (w.heap.size + 1 + 1) rfl 48 (diffC ⟨0, 0, [], endsM t⟩ none 0 none 0) _ Try.underlying48 rfl (diff_size _ _ _ _ _) hz rfl ⟨none, 0, none, 0, by rw [hM.out], ?_⟩
    rw [hM.out]
    exact ⟨Sl.nothing _ _, Sl.nothing _ _, (fun a ha => by cases ha), (fun a ha => by cases ha), hbz⟩
  | false =>
  go_wp2_with (first
    | (refine wpList_load_has (by rfl) 42 _ rfl (w.heap.size) rfl 42 (stC s ao c) _ Try.underlying42 rfl (st_size _ _ _) ?hg ?_; (case hg => exact hX))
    | (refine wpList_load_has (by rfl) 42 _ rfl (w.heap.size + 1) rfl 42 (stC t bo d) _ Try.underlying42 rfl (st_size _ _ _) ?hg ?_; (case hg => exact hY))
    | fail)
  refine (through_any s t ao bo c d _ hs ht (h.later hb)).mono ?_
  rintro en w5 ⟨rfl, hq⟩
  replace hX := hX.later hq
  replace hY := hY.later hq
  replace hR := hR.later hq
  replace hb := hb.trans (hq.mono hb.size)
  clear hq
  generalize throughM s t = b at *
  cases b with
  | false =>
    have hM : Hid _ := m2.out (by first | trivial | rfl) (by first | trivial | rfl)
    clear m0 m1 m2
    go_wp2_with (first
      | (refine wpList_load_has (by rfl) 42 _ rfl (w.heap.size + 1) rfl 42 (stC t bo d) _ Try.underlying42 rfl (st_size _ _ _) ?hg ?_; (case hg => exact hY))
      | fail)
    refine (twin_any t bo d _ ht (h'.later hb)).mono ?_
    rintro en w6 ⟨ro, rc, rfl, hG⟩
    have hlt0 := hR.lt
    have hS6 := hG.sl
    have hnew : ∀ d, ro = some d → w.heap.size + 1 + 1 < d.block := fun d hd => by have := hG.new d hd; omega
    replace hR := hR.later hG.below
    replace hb := hb.trans (hG.below.mono hb.size)
    clear hG
    have hz := hR.row (diffC ⟨2, 0, [], t⟩ none 0 ro rc)
    have hsl := hS6.row_other (k := w.heap.size + 1 + 1) (fun d hd => by have := hnew d hd; omega) (diffC ⟨2, 0, [], t⟩ none 0 ro rc)
    have hbz := below_setRow hb (show w.heap.size ≤ w.heap.size + 1 + 1 by omega) (diffC ⟨2, 0, [], t⟩ none 0 ro rc)
    have hgn : ∀ d, ro = some d → w.heap.size ≤ d.block := fun d hd => by have := hnew d hd; omega
    go_wp2_with (first
      | (refine wpList_build_two (by rfl) 48 0 3 _ _ rfl (.int .i64 2) (.agg (stC t ro rc)) rfl rfl (diffC ⟨2, 0, [], t⟩ none 0 ro rc) (diff_built_kw ro rc 2 t) ?_)
      | (refine wpList_store_has (by rfl) 48 _ _ rfl (w.heap.size + 1 + 1) rfl (diffC ⟨2, 0, [], t⟩ none 0 ro rc) rfl 48 (diffC diff0 none 0 none 0) (diff_size _ _ _ _ _) (diff_same _ _ _ _ _ _ _ _ _ _) (diff_one _ _ _ _ _) ?hg ?_; (case hg => exact hR))
      | fail)
    refine ret_has rfl (w.heap.size + 1 + 1) rfl 48 (diffC ⟨2, 0, [], t⟩ none 0 ro rc) _ Try.underlying48 rfl (diff_size _ _ _ _ _) hz rfl ⟨none, 0, ro, rc, by rw [hM.out], ?_⟩
    rw [hM.out]
    exact ⟨Sl.nothing _ _, hsl, (fun a ha => by cases ha), hgn, hbz⟩
  | true =>
  have hM : Hid _ := m1.out (by first | trivial | rfl) (by first | trivial | rfl)
  clear m0 m1 m2
  go_wp2_with (first
    | (refine wpList_load_has (by rfl) 42 _ rfl (w.heap.size) rfl 42 (stC s ao c) _ Try.underlying42 rfl (st_size _ _ _) ?hg ?_; (case hg => exact hX))
    | (refine wpList_load_has (by rfl) 42 _ rfl (w.heap.size + 1) rfl 42 (stC t bo d) _ Try.underlying42 rfl (st_size _ _ _) ?hg ?_; (case hg => exact hY))
    | fail)
  refine (shared_any s t ao bo c d _ hs ht (h.later hb) (h'.later hb)).mono ?_
  rintro en w6 ⟨rfl, hq⟩
  have hkl := shared_le s t.log
  replace hX := hX.later hq
  replace hY := hY.later hq
  replace hR := hR.later hq
  replace hb := hb.trans (hq.mono hb.size)
  clear hq
  generalize sharedN s t.log = k at *
  have hlen := ht.len
  have hlen1 : (t.log.drop k).length = t.log.length - k := by rw [List.length_drop]
  have hsum : Hid (t.tail.n + k < 4294967296) := by show _ < _; omega
  have hrest := fun W => run_rest W bo t.log.length d k hkl hle'
  have hcop := fun W (hW : Below w.heap.size w W) => copied_any (cutAddr bo d k) (d - k) (t.log.drop k) W ((h'.later hW).drop k hkl) (by omega)
  rw [hlen1] at hcop
  have hkI : (k : Int) ≤ (t.log.length : Int) := by omega
  generalize cutAddr bo d k = co at *
  go_wp2_with fail
  have hbA : Below w6.heap.size w6 w6.drew := (Below.refl _ _).drew
  refine wp_region_plan (fun W => Has W (w.heap.size + 1) 42 (stC t bo d) ∧ Below w.heap.size w W) (Plan.of [(0, true), (1, true), (2, true), (3, true), (4, true), (5, true), (6, true), (7, true), (8, true), (9, true), (11, true), (10, false), (12, false), (13, true), (14, false)] .done) (by kernel_rfl) (by kernel_rfl) (by kernel_rfl) (by kernel_rfl) ⟨hY.later hbA, hb.trans (hbA.mono hb.size)⟩ ?_
  iterate 2
    first
      | (refine plan_pass _ rfl (by rfl) ?_)
      | (refine plan_take _ _ rfl (.inl ⟨by rfl, fun W hS => by clear hS; go_simp; try with_reducible rfl⟩) ?_)
    try simp only [Act.put, List.setIfInBounds_toArray, List.set_cons_zero, List.set_cons_succ]
  iterate 1
    first
      | (refine plan_pass _ rfl (by rfl) ?_)
      | (refine plan_take _ _ rfl (.inl ⟨by rfl, fun W hS => by have z0 := hS.1.st_tail_n; go_simp; try with_reducible rfl⟩) ?_)
    try simp only [Act.put, List.setIfInBounds_toArray, List.set_cons_zero, List.set_cons_succ]
  iterate 1
    first
      | (refine plan_pass _ rfl (by rfl) ?_)
      | (refine plan_take _ _ rfl (.inl ⟨by rfl, fun W hS => by clear hS; go_simp; try with_reducible rfl⟩) ?_)
    try simp only [Act.put, List.setIfInBounds_toArray, List.set_cons_zero, List.set_cons_succ]
  refine plan_take _ (.int .u32 (k : Int)) rfl (.inl ⟨by rfl, fun W hS => by clear hS; go_simp; first | exact u32_small _ (by omega) | with_reducible rfl⟩) ?_
  try simp only [Act.put, List.setIfInBounds_toArray, List.set_cons_zero, List.set_cons_succ]
  refine plan_take _ (.int .u32 ((t.tail.n + k : Nat) : Int)) rfl (.inl ⟨by rfl, fun W _ => run_add_u32 _ _ _ _ rfl t.tail.n k (t.tail.n + k) rfl rfl rfl hsum.out W⟩) ?_
  try simp only [Act.put, List.setIfInBounds_toArray, List.set_cons_zero, List.set_cons_succ]
  iterate 1
    first
      | (refine plan_pass _ rfl (by rfl) ?_)
      | (refine plan_take _ _ rfl (.inl ⟨by rfl, fun W hS => by clear hS; go_simp; try with_reducible rfl⟩) ?_)
    try simp only [Act.put, List.setIfInBounds_toArray, List.set_cons_zero, List.set_cons_succ]
  iterate 1
    first
      | (refine plan_pass _ rfl (by rfl) ?_)
      | (refine plan_take _ _ rfl (.inl ⟨by rfl, fun W hS => by have z0 := hS.1.st_log; go_simp; try with_reducible rfl⟩) ?_)
    try simp only [Act.put, List.setIfInBounds_toArray, List.set_cons_zero, List.set_cons_succ]
  iterate 1
    first
      | (refine plan_pass _ rfl (by rfl) ?_)
      | (refine plan_take _ _ rfl (.inl ⟨by rfl, fun W hS => by clear hS; go_simp; try with_reducible rfl⟩) ?_)
    try simp only [Act.put, List.setIfInBounds_toArray, List.set_cons_zero, List.set_cons_succ]
  refine plan_take _ (.slice co (t.log.length - k) (d - k)) rfl (.inl ⟨by rfl, fun W hS => by clear hS; have z := hrest W; go_simp; try with_reducible rfl⟩) ?_
  try simp only [Act.put, List.setIfInBounds_toArray, List.set_cons_zero, List.set_cons_succ]
  refine plan_take _ _ rfl (yields_load_has (by rfl) 42 _ rfl (w.heap.size + 1) rfl 42 (stC t bo d) _ Try.underlying42 rfl (st_size _ _ _) (fun W hW => hW.1)) ?_
  try simp only [Act.put, List.setIfInBounds_toArray, List.set_cons_zero, List.set_cons_succ]
  replace hX := hX.later hbA
  replace hY := hY.later hbA
  replace hR := hR.later hbA
  replace hb := hb.trans (hbA.mono hb.size)
  clear hbA
  refine plan_run _ rfl (fun K hK => ?_)
  go_simp
  refine (hcop _ hb).mono ?_
  rintro en w7 ⟨g, hg1, rfl, hG, hq⟩
  have hgs : w.heap.size + 1 + 1 < g := by have := hR.lt; omega
  replace hY := hY.later hq
  replace hR := hR.later hq
  replace hb := hb.trans (hq.mono hb.size)
  refine hK.out _ _ ⟨hY, hb⟩ ?_
  clear hK K hq
  try simp only [Act.put, List.setIfInBounds_toArray, List.set_cons_zero, List.set_cons_succ]
  refine plan_run _ rfl (fun K hK => ?_)
  go_simp
  refine (ends_any t bo d _).mono ?_
  rintro en w8 ⟨rfl, hq⟩
  replace hY := hY.later hq
  replace hR := hR.later hq
  replace hG := hG.later hq
  replace hb := hb.trans (hq.mono hb.size)
  refine hK.out _ _ ⟨hY, hb⟩ ?_
  clear hK K hq
  try simp only [Act.put, List.setIfInBounds_toArray, List.set_cons_zero, List.set_cons_succ]
  have hbf := diff_built4 (some ⟨g, 0, none⟩) none (t.log.length - k) 0 1 (t.tail.n + k) (t.log.drop k) (endsM t)
  rw [hlen1] at hbf
  refine plan_take _ _ rfl (yields_build_four8 (by rfl) 48 0 1 2 3 _ _ _ _ rfl (.int .i64 1) (.int .u32 ((t.tail.n + k : Nat) : Int)) (.slice (some ⟨g, 0, none⟩) (t.log.length - k) (t.log.length - k)) (.agg (stC (endsM t) none 0)) rfl rfl rfl rfl _ hbf) ?_
  try simp only [Act.put, List.setIfInBounds_toArray, List.set_cons_zero, List.set_cons_succ]
  have hG2 := hG
  have hR9 := hR.row (diffC ⟨1, t.tail.n + k, t.log.drop k, endsM t⟩ (some ⟨g, 0, none⟩) (t.log.length - k) none 0)
  have hY9 := hY.row_other (k := w.heap.size + 1 + 1) (by omega) (diffC ⟨1, t.tail.n + k, t.log.drop k, endsM t⟩ (some ⟨g, 0, none⟩) (t.log.length - k) none 0)
  have hG9 := hG.row_other (k := w.heap.size + 1 + 1) (by omega) (diffC ⟨1, t.tail.n + k, t.log.drop k, endsM t⟩ (some ⟨g, 0, none⟩) (t.log.length - k) none 0)
  have hb9 := below_setRow hb (show w.heap.size ≤ w.heap.size + 1 + 1 by omega) (diffC ⟨1, t.tail.n + k, t.log.drop k, endsM t⟩ (some ⟨g, 0, none⟩) (t.log.length - k) none 0)
  refine plan_store_has _ rfl (by rfl) 48 _ _ rfl (w.heap.size + 1 + 1) rfl (diffC ⟨1, t.tail.n + k, t.log.drop k, endsM t⟩ (some ⟨g, 0, none⟩) (t.log.length - k) none 0) rfl 48 (diffC diff0 none 0 none 0) (diff_size _ _ _ _ _) (diff_same _ _ _ _ _ _ _ _ _ _) (diff_one _ _ _ _ _) hR ⟨hY9, hb9⟩ ?_
  try simp only [Act.put, List.setIfInBounds_toArray, List.set_cons_zero, List.set_cons_succ]
  refine plan_done ?_
  have hSl := hG9.ents (by omega)
  rw [hlen1] at hSl
  go_wp2
  refine ret_has rfl (w.heap.size + 1 + 1) rfl 48 (diffC ⟨1, t.tail.n + k, t.log.drop k, endsM t⟩ (some ⟨g, 0, none⟩) (t.log.length - k) none 0) _ Try.underlying48 rfl (diff_size _ _ _ _ _) hR9 rfl ⟨some ⟨g, 0, none⟩, t.log.length - k, none, 0, by rw [hM.out], ?_⟩
  rw [hM.out]
  exact ⟨hSl, Sl.nothing _ _, (fun a ha => by obtain rfl := Option.some.inj ha; show w.heap.size ≤ g; omega), (fun a ha => by cases ha), hb9⟩
end Go.Proofs.Ytphlfepgaghhhab
