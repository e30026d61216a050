/- JnlCall, joined. -/
import Derived.Test.YtlalfagafbpkiaaGreatGrp40
import Derived.Test.YtlalfagafbpkiaaGreatGrp36
namespace Go.Proofs.YtlalfagafbpkiaaGreat
section
set_option linter.unusedSimpArgs false
set_option linter.unusedVariables false
set_option maxRecDepth 100000
open Go.RowKit Go.MapKept

theorem run_cloneS (w : World) (ty : TypeId) (lo : Option Addr) (lc : Nat) (l : List (List UInt8)) (h : Strs w lo lc l) (hl : l.length ≤ 1000000) :
    ∃ no nc w', (Builtin.append_ #[30, 30] ty #[.slice none 0 0, .slice lo l.length lc]).run Tryz.prog w = .ok (.slice no l.length nc) w' ∧ w'.ownsRow w.heap.size 9 1 (.slice no l.length nc) l.length (SsV l) ∧ Below w.heap.size w w' := by
  obtain ⟨i0, hi, hz0, hz1, hz2⟩ := str_info
  cases lo with
  | none =>
    have h0 := h.nil rfl
    have h1 := h.le
    have h2 : l = [] := List.eq_nil_of_length_eq_zero (by omega)
    subst h2
    subst h0
    exact ⟨none, 0, w, run_append_owned_none (P := Tryz.prog) (w := w) w.heap.size 30 ty 9 i0 1 Tryz.underlying30 hi (.slice none 0 0) 0 (SsV []) (own_nilS _ _), own_nilS _ _, Below.refl _ _⟩
  | some ad =>
    obtain ⟨v', w', hr, hown, hgr⟩ := run_appS w ty w.heap.size (.slice none 0 0) 0 [] (own_nilS _ _) ad l.length lc l h rfl (by omega) (Nat.le_refl _)
    rw [Nat.zero_add, List.nil_append] at hown
    obtain ⟨_, no, nc, rfl, _, _⟩ := strs_own hown
    exact ⟨no, nc, w', hr, hown, (Below.refl _ _).grown hgr (Nat.le_refl _) (fun k hk => by cases hk)⟩
section
variable {ops : Array Oper} {Q : Exit → Act → World → Prop} {S : World → Prop} {i : Nat} {p : Plan} {a : Act} {w : World}
theorem plan_cloneS (o : Oper) (ho : nth ops.toList i = some o) (hw : Region.wanted o (yielded ops a.tmps) = true) (x : Operand)
    (hop : o.op = Op.call { callee := Callee.builtin Builtin.append, args := #[.const (.slice none 0 0), x], argTypes := #[30, 30] })
    (lo : Option Addr) (lc : Nat) (l : List (List UInt8)) (hx : a.eval x = .slice lo l.length lc) (h : Strs w lo lc l) (hl : l.length ≤ 1000000)
    (hK : ∀ no nc w', w'.ownsRow w.heap.size 9 1 (.slice no l.length nc) l.length (SsV l) → Below w.heap.size w w' → S w' ∧ wpPlan Tryz.prog ops Q S p (a.put o.dst (.slice no l.length nc)) w') : wpPlan Tryz.prog ops Q S (Plan.run i p) a w := by
  refine plan_run o ho fun K hK' => ?_
  rw [if_pos hw]
  obtain ⟨no, nc, w', hr, hown, hb⟩ := run_cloneS w o.type lo lc l h hl
  obtain ⟨h1, h2⟩ := hK no nc w' hown hb
  have hn : a.eval (.const (.slice none 0 0)) = .slice none 0 0 := rfl
  unfold Oper.wp
  simp [execOp, hop, resolve, invoke, builtin, hn, hx, hr, Result.andThen]
  exact hK'.out _ _ h1 h2
end
theorem run_rem_int {P : Program} {o : Oper} {ev : Operand → Value} (ty ty' : TypeId) (x y : Operand) (ho : o.op = .binOp .rem ty x y ty') (n : Int) (m : Nat) (k : Int) (hx : ev x = .int .i64 n) (hy : ev y = .int .i64 (m : Int)) (hm : 0 < m) (hm' : m < 1000) (hk : n.tmod (m : Int) = k) (w : World) :
    (execOp ev o).run P w = .ok (.value (.int .i64 k)) w := by
  subst hk
  have h1 : ((m : Int) = 0) = False := by simp; omega
  have h3 : -(m : Int) < n.tmod (m : Int) ∧ n.tmod (m : Int) < (m : Int) := by
    have a := Int.lt_tmod_of_pos n (show (0 : Int) < (m : Int) by omega)
    have b := Int.tmod_lt_of_pos n (show (0 : Int) < (m : Int) by omega)
    exact ⟨by omega, b⟩
  have h4 : IntKind.i64.wrap (n.tmod (m : Int)) = n.tmod (m : Int) := by
    rw [IntKind.wrap_i64]
    omega
  unfold execOp
  simp only [ho, hx, hy]
  simp [Sem.run_bind, go_sem, h1, h4]
  omega

set_option maxHeartbeats 4000000 in
theorem long_any (ao : Option Addr) (c : Nat) (l : List (List UInt8)) (w : World) (h : Strs w ao c l) (he : ∀ s ∈ l, s.length ≤ 20000) :
    Calls Tryz.prog 28 #[.slice ao l.length c] w fun en w' => en = .returned (.bool false) ∧ w' = w := by
  have hle := h.le
  have hcap := h.cap
  obtain ⟨L, hL⟩ : ∃ L, l.length = L := ⟨_, rfl⟩
  rw [hL] at hle ⊢
  replace hL : Hid _ := hL
  replace he : Hid _ := he
  go_enter Tryz.func28, Tryz.ntmps28
  go_wp2
  go_loopw [3] (fun iv wr => ∃ q, q ≤ L ∧ iv = .int .i64 (q : Nat) ∧ wr = w) (fun iv _ => L - (intOf iv).toNat)
  case atStart => exact ⟨0, Nat.zero_le _, rfl, rfl⟩
  case round =>
    obtain ⟨q, hq, rfl, hwr⟩ := hrel
    have hwr' := hwr.symm
    clear hwr
    subst hwr'
    by_cases hlt : q < L
    · have hql : q < l.length := by rw [hL.out]; exact hlt
      have hltI : (q : Int) < (L : Int) := by omega
      cases ao with
      | none => have := h.nil rfl; omega
      | some ad =>
        have c1 := h.cell ad rfl q hql
        have hz := mkS_size l[q]
        have hs := he.out _ (List.getElem_mem hql)
        obtain ⟨s, hss⟩ : ∃ s, l[q] = s := ⟨_, rfl⟩
        rw [hss] at c1 hz hs
        unfold strV at c1
        obtain ⟨n, hn⟩ : ∃ n, (mkS s).size = n := ⟨_, rfl⟩
        have hns : n = s.length := hn.symm.trans hz
        rw [← hns] at hs
        have hsI : ¬ (20000 : Int) < (n : Int) := by omega
        clear hss hz hns hql
        go_wp2
        go_roundw
        case rel => exact ⟨q + 1, by omega, by go_num, trivial⟩
        case measure => simp [intOf]; omega
    · have hltI : ¬ (q : Int) < (L : Int) := by omega
      go_wp2
      go_ret
      exact ⟨rfl, rfl⟩

theorem own_baseS {w : World} {a b n k : Nat} {e : TypeId} {v : Value} {xs : List Value} (h : w.ownsRow b e k v n xs) (hb : a ≤ b) : w.ownsRow a e k v n xs :=
  ⟨h.1, h.2.imp id (fun ⟨g, cap, cur, hv, hg, rest⟩ => ⟨g, cap, cur, hv, Nat.le_trans hb hg, rest⟩)⟩
theorem Strs.offN {F : Nat → Prop} {a b : World} {ao : Option Addr} {c : Nat} {l : List (List UInt8)} (h : Strs a ao c l) (ho : OffF F a b) (hne : l ≠ [] → ∀ ad, ao = some ad → ad.block < a.heap.size ∧ ¬ F ad.block) : Strs b ao c l := by
  by_cases hl : l = []
  · subst hl
    exact ⟨h.le, h.cap, h.nil, fun ad had i hi => absurd hi (Nat.not_lt_zero i)⟩
  · exact h.same (fun ad had => ho.block _ (hne hl ad had).1 (hne hl ad had).2)
theorem results_tmp4 {fn : Func} {t u v x : Tmp} (h : fn.results = #[.tmp t, .tmp u, .tmp v, .tmp x]) (tmps : Array Value) (P : Program) (w : World) :
    (results fn tmps).run P w = .ok (.tuple #[tmps.getD t undef, tmps.getD u undef, tmps.getD v undef, tmps.getD x undef]) w := by
  simp [results, h, go_sem]
def nowM (x : StepV) (l : List (List UInt8)) : List (List UInt8) := if x.what.tmod 6 = 4 then x.l else l ++ [x.s]
/-- What a call has told and left. -/
structure CallAt (w w' : World) (j p kb mb n left : Nat) (lo : Option Addr) (lc : Nat) (l m : List (List UInt8)) (N f : Nat) (no : Option Addr) (nc : Nat) (mu mn : Bool) : Prop where
  strs : Strs w' no nc m
  lies : ∀ ad, no = some ad → w.heap.size ≤ ad.block ∧ ad.block < w'.heap.size
  off : OffF (FJ j p kb mb lo) w w'
  told : (f = 0 ∧ mn = false ∧ ∃ lo' lc' left', left' ≤ left ∧ JOk w' j p kb mb n left' lo' lc' m (N + 1) ∧ (∀ k, FJ j p kb mb lo' k → FJ j p kb mb lo k ∨ w.heap.size ≤ k) ∧ (∀ ad, no = some ad → ¬ FJ j p kb mb lo' ad.block)) ∨
    (f = 140 ∧ mu = false ∧ JOk w' j p kb mb n left lo lc l N) ∨
    (f = 131 ∧ left ≠ 0 ∧ DCut w' p kb mb n (fun E => GoodL n E l (N + 1) ∨ GoodL n E m (N + 1)) ∧ ∃ h, Has w' j 53 (jnlC p h lo l.length lc true))

def Called (w : World) (j p kb mb n left : Nat) (lo : Option Addr) (lc : Nat) (l m : List (List UInt8)) (N : Nat) (e : Ending) (w' : World) : Prop :=
  ∃ (f : Nat) (no : Option Addr) (nc : Nat) (mu mn : Bool), e = .returned (.tuple #[.int .i64 (f : Int), .slice no m.length nc, .bool mu, .bool mn]) ∧ CallAt w w' j p kb mb n left lo lc l m N f no nc mu mn
set_option maxHeartbeats 32000000 in
theorem call_any (j p kb mb n left : Nat) (lo : Option Addr) (lc : Nat) (l : List (List UInt8)) (N : Nat) (x : StepV) (mo : Option Addr) (mc : Nat) (w : World) (H : JOk w j p kb mb n left lo lc l N) (hN : N < 255) (hx : StepOk w 140737488351232 x)
    (hs : x.s.length ≤ 3000) (hl20 : x.l.length ≤ 20) (hwt : takenM x.l ≤ 6000) (hm : Strs w mo mc l) (hn67 : n ≤ 67) (hxF : x.l ≠ [] → ∀ ad, x.lo = some ad → ad.block < w.heap.size ∧ ¬ FJ j p kb mb lo ad.block) :
    Calls Tryz.prog 12 #[.pointer (some ⟨j, 0, none⟩), .agg (stepL x).toArray, .slice mo l.length mc, .int .i64 (limitM n : Nat)] w fun e w' =>
      Called w j p kb mb n left lo lc l (nowM x l) N e w' := by
  obtain ⟨w1, hw1⟩ : ∃ W, w.alloc (.cells (stepL x).toArray 33) = W := ⟨_, rfl⟩
  have hX : Has w1 w.heap.size 33 (stepL x).toArray := by rw [← hw1]; exact Has.new _ _ _
  have hb1 : Below w.heap.size w w1 := by rw [← hw1]; exact (Below.refl _ _).alloc (Nat.le_refl _) _
  have H1 := H.later hb1
  have hx1 := hx.later hb1
  have hm1 := hm.later hb1
  have hBF : ¬ FJ j p kb mb lo w.heap.size := fun hf => absurd (H.lt _ hf) (Nat.lt_irrefl _)
  obtain ⟨f1, f2, f3, f4, f5⟩ := H.facts
  obtain ⟨B, hB⟩ : ∃ B, limitM n = B := ⟨_, rfl⟩
  have hB1 : B ≤ 40000 := by unfold limitM at hB; omega
  have c0 : w1.cell? ⟨w.heap.size, 0, none⟩ = some (.int .i64 x.what) := (hX.cell 0).trans rfl
  obtain ⟨t, ht⟩ : ∃ t, x.what.tmod 6 = t := ⟨_, rfl⟩
  have hnow : nowM x l = if t = 4 then x.l else l ++ [x.s] := by unfold nowM; rw [ht]
  replace ht : Hid _ := ht
  rw [hB]
  replace hnow : Hid _ := hnow
  replace hB : Hid _ := hB
  have hX0 : Hid (Has w1 w.heap.size 33 (stepL x).toArray) := hX
  clear hX
  by_cases hR : t = 4
  · replace hnow : Hid (nowM x l = x.l) := by show _ = _; rw [hnow.out, if_pos hR]
    have hlo := hx1.l
    have hwe := weight_any x.lo x.lc x.l w1 hlo (by omega) (fun s hs => by have := hx.each s hs; omega)
    have hlg := long_any x.lo x.lc x.l w1 hlo (fun s hs => Nat.le_trans (each_takenL hwt s hs) (by decide))
    have c2 : w1.cell? ⟨w.heap.size, 2, none⟩ = some (.slice x.lo x.l.length x.lc) := by have := hX0.out; exact (Has.cell this 2).trans rfl
    replace hwe : Hid _ := hwe
    replace hlg : Hid _ := hlg
    obtain ⟨T, hT⟩ : ∃ T, takenM x.l = T := ⟨_, rfl⟩
    rw [hT] at hwe hwt
    obtain ⟨XL, hXL⟩ : ∃ XL, x.l.length = XL := ⟨_, rfl⟩
    rw [hXL] at hwe hlg c2 hl20
    replace hXL : Hid _ := hXL
    replace hT : Hid _ := hT
    have hc2x : ∀ W, OffF (FJ j p kb mb lo) w1 W → W.cell? ⟨w.heap.size, 2, none⟩ = some (.slice x.lo XL x.lc) := fun W hS => by
      rw [← hXL.out]
      exact ((hS.has hX0.out hBF).cell 2).trans rfl
    replace hc2x : Hid _ := hc2x
    subst hR
    by_cases hfit : T ≤ B
    · have hfitI : (T : Int) ≤ (B : Int) := by omega
      go_enter Tryz.func12, Tryz.ntmps12
      go_wp2_with (first
        | (refine Go.Great.wpList_boxTo rfl 33 _ rfl _ rfl w.heap.size rfl (stepL x).toArray rfl ?_; rw [hw1]; clear hw1)
        | (refine wpList_val (.int .i64 4) (by rfl) (run_rem_int _ _ _ _ rfl x.what 6 4 rfl rfl (by decide) (by decide) ht.out) ?_)
        | fail)
      refine Calls.mono hwe.out ?_
      rintro e w2 ⟨rfl, h9⟩
      have h9' := h9.symm; subst h9'
      clear hwe h9
      go_wp2_with fail
      refine Calls.mono hlg.out ?_
      rintro e w2 ⟨rfl, h9⟩
      have h9' := h9.symm; subst h9'
      clear hlg h9
      go_wp2_with fail
      refine wp_region_plan (fun W => OffF (FJ j p kb mb lo) w1 W) (Plan.of [(0, true), (1, true), (2, true), (5, true), (6, true), (8, true), (9, true), (10, true), (3, false), (4, false), (7, false), (11, true), (12, true), (13, true), (14, true)] .done) (by kernel_rfl) (by kernel_rfl) (by kernel_rfl) (by kernel_rfl) (OffF.of (Below.refl _ _).drew) ?_
      have hb2 : Below w.heap.size w w1.drew := hb1.drew
      have hq2 : Below w1.heap.size w1 w1.drew := (Below.refl _ _).drew
      have H2 := H1.later hq2
      have hS2 : Strs w1.drew x.lo x.lc x.l := hlo.later hq2
      have hz2 : w.heap.size ≤ w1.drew.heap.size := hb2.size
      obtain ⟨w2, hw2⟩ : ∃ W, w1.drew = W := ⟨_, rfl⟩
      rw [hw2] at hb2 hq2 H2 hS2 hz2 ⊢
      clear hw2 H1 hx1 hm1 c0 c2
      iterate 2
        first
          | (refine plan_pass _ rfl (by rfl) ?_)
          | (refine plan_take _ _ rfl (.inl ⟨by rfl, fun W hS => by clear hS; go_simp; try with_reducible rfl⟩) ?_)
        try simp only [Act.put, List.setIfInBounds_toArray, List.set_cons_zero, List.set_cons_succ]
      iterate 1
        first
          | (refine plan_pass _ rfl (by rfl) ?_)
          | (refine plan_take _ _ rfl (.inl ⟨by rfl, fun W hS => by have z : W.cell? ⟨w.heap.size, 2, none⟩ = some (.slice x.lo XL x.lc) := hc2x.out W hS; go_simp; try with_reducible rfl⟩) ?_)
        try simp only [Act.put, List.setIfInBounds_toArray, List.set_cons_zero, List.set_cons_succ]
      iterate 1
        first
          | (refine plan_pass _ rfl (by rfl) ?_)
          | (refine plan_take _ _ rfl (.inl ⟨by rfl, fun W hS => by clear hS; go_simp; try with_reducible rfl⟩) ?_)
        try simp only [Act.put, List.setIfInBounds_toArray, List.set_cons_zero, List.set_cons_succ]
      iterate 1
        first
          | (refine plan_pass _ rfl (by rfl) ?_)
          | (refine plan_take _ _ rfl (.inl ⟨by rfl, fun W hS => by have z : W.cell? ⟨w.heap.size, 2, none⟩ = some (.slice x.lo XL x.lc) := hc2x.out W hS; go_simp; try with_reducible rfl⟩) ?_)
        try simp only [Act.put, List.setIfInBounds_toArray, List.set_cons_zero, List.set_cons_succ]
      iterate 3
        first
          | (refine plan_pass _ rfl (by rfl) ?_)
          | (refine plan_take _ _ rfl (.inl ⟨by rfl, fun W hS => by clear hS; go_simp; try with_reducible rfl⟩) ?_)
        try simp only [Act.put, List.setIfInBounds_toArray, List.set_cons_zero, List.set_cons_succ]
      refine plan_cloneS _ rfl (by rfl) _ rfl x.lo x.lc x.l (by rw [hXL.out]; rfl) hS2 (by rw [hXL.out]; omega) ?_
      rintro no nc w3 hown3 hb3
      refine ⟨(OffF.of hq2).trans (OffF.of hb3), ?_⟩
      obtain ⟨_, ao3, c3, hv3, hS3, hf3⟩ := strs_own hown3
      injection hv3 with hv3a hv3b hv3c
      subst hv3a hv3c
      have H3 := H2.later hb3
      have hS3' : Strs w3 x.lo x.lc x.l := hS2.later hb3
      try simp only [Act.put, List.setIfInBounds_toArray, List.set_cons_zero, List.set_cons_succ]
      have hrp := replace_face j p kb mb n left lo lc l N no nc x.l w3 H3 hN hS3 (fun ad had => ⟨(hf3 ad had).2, fun hf => by have := H.lt _ hf; have := (hf3 ad had).1; omega⟩) (fun r hr => Nat.le_trans (each_takenL (by rw [hT.out]; exact hwt) r hr) (by decide)) (by rw [hT.out, hB.out]; exact hfit)
      replace hrp : Hid _ := hrp
      refine plan_run _ rfl (fun K' hK' => ?_)
      go_simp
      refine Calls.mono hrp.out ?_
      clear hrp
      rintro e w4 (⟨rfl, lo4, lc4, left4, hl4, H4, hF4, ho4⟩ | ⟨rfl, hl4, hc4, hj4, ho4⟩)
      · have ho34 : OffF (FJ j p kb mb lo) w1 w4 := ((OffF.of hq2).trans (OffF.of hb3)).trans ho4
        refine hK'.out _ _ ho34 ?_
        clear hK' K'
        try simp only [Act.put, List.setIfInBounds_toArray, List.set_cons_zero, List.set_cons_succ]
        have hS4 : Strs w4 x.lo x.lc x.l := hS3'.offN ho4 (fun hne ad had => ⟨Nat.lt_of_lt_of_le (hxF hne ad had).1 (Nat.le_trans hz2 hb3.size), (hxF hne ad had).2⟩)
        refine plan_cloneS _ rfl (by rfl) _ rfl x.lo x.lc x.l (by rw [hXL.out]; rfl) hS4 (by rw [hXL.out]; omega) ?_
        rintro no5 nc5 w5 hown5 hb5
        refine ⟨ho34.trans (OffF.of hb5), ?_⟩
        obtain ⟨_, ao5, c5, hv5, hS5, hf5⟩ := strs_own hown5
        injection hv5 with hv5a hv5b hv5c
        subst hv5a hv5c
        have hz4 : w.heap.size ≤ w4.heap.size := Nat.le_trans hz2 (Nat.le_trans hb3.size ho4.size)
        have ho05 : OffF (FJ j p kb mb lo) w w5 := (OffF.of hb1).trans (ho34.trans (OffF.of hb5))
        try simp only [Act.put, List.setIfInBounds_toArray, List.set_cons_zero, List.set_cons_succ]
        iterate 4
          first
            | (refine plan_pass _ rfl (by rfl) ?_)
            | (refine plan_take _ _ rfl (.inl ⟨by rfl, fun W hS => by clear hS; go_simp; try with_reducible rfl⟩) ?_)
          try simp only [Act.put, List.setIfInBounds_toArray, List.set_cons_zero, List.set_cons_succ]
        refine plan_done ?_
        go_wp2
        (try simp only [Exit.inBlock, Exit.then]); refine bodyPost_ret (results_tmp4 rfl _ _ _) rfl ?_; unfold Called
        refine ⟨0, no5, nc5, true, false, by rw [hnow.out]; rfl, ?_⟩
        rw [hnow.out]
        exact ⟨hS5, fun ad had => ⟨Nat.le_trans hz4 (hf5 ad had).1, (hf5 ad had).2⟩, ho05, .inl ⟨rfl, rfl, lo4, lc4, left4, hl4, H4.later hb5, fun k hk => (hF4 k hk).imp id (fun z => Nat.le_trans (Nat.le_trans hz2 hb3.size) z), fun ad had hf => by have := H4.lt _ hf; have := (hf5 ad had).1; omega⟩⟩
      · have ho34 : OffF (FJ j p kb mb lo) w1 w4 := ((OffF.of hq2).trans (OffF.of hb3)).trans ho4
        refine hK'.out _ _ ho34 ?_
        clear hK' K'
        try simp only [Act.put, List.setIfInBounds_toArray, List.set_cons_zero, List.set_cons_succ]
        have hS4 : Strs w4 x.lo x.lc x.l := hS3'.offN ho4 (fun hne ad had => ⟨Nat.lt_of_lt_of_le (hxF hne ad had).1 (Nat.le_trans hz2 hb3.size), (hxF hne ad had).2⟩)
        refine plan_cloneS _ rfl (by rfl) _ rfl x.lo x.lc x.l (by rw [hXL.out]; rfl) hS4 (by rw [hXL.out]; omega) ?_
        rintro no5 nc5 w5 hown5 hb5
        refine ⟨ho34.trans (OffF.of hb5), ?_⟩
        obtain ⟨_, ao5, c5, hv5, hS5, hf5⟩ := strs_own hown5
        injection hv5 with hv5a hv5b hv5c
        subst hv5a hv5c
        have hz4 : w.heap.size ≤ w4.heap.size := Nat.le_trans hz2 (Nat.le_trans hb3.size ho4.size)
        have ho05 : OffF (FJ j p kb mb lo) w w5 := (OffF.of hb1).trans (ho34.trans (OffF.of hb5))
        try simp only [Act.put, List.setIfInBounds_toArray, List.set_cons_zero, List.set_cons_succ]
        iterate 4
          first
            | (refine plan_pass _ rfl (by rfl) ?_)
            | (refine plan_take _ _ rfl (.inl ⟨by rfl, fun W hS => by clear hS; go_simp; try with_reducible rfl⟩) ?_)
          try simp only [Act.put, List.setIfInBounds_toArray, List.set_cons_zero, List.set_cons_succ]
        refine plan_done ?_
        go_wp2
        (try simp only [Exit.inBlock, Exit.then]); refine bodyPost_ret (results_tmp4 rfl _ _ _) rfl ?_; unfold Called
        refine ⟨131, no5, nc5, true, false, by rw [hnow.out]; rfl, ?_⟩
        rw [hnow.out]
        obtain ⟨h4, hj4⟩ := hj4
        obtain ⟨d4, hd4, hp4, hE4⟩ := hc4
        exact ⟨hS5, fun ad had => ⟨Nat.le_trans hz4 (hf5 ad had).1, (hf5 ad had).2⟩, ho05, .inr (.inr ⟨rfl, hl4, ⟨d4, hd4.later hb5, hp4, hE4⟩, h4, hj4.later hb5⟩)⟩
    · have hfitI : ¬ (T : Int) ≤ (B : Int) := by omega
      go_enter Tryz.func12, Tryz.ntmps12
      go_wp2_with (first
        | (refine Go.Great.wpList_boxTo rfl 33 _ rfl _ rfl w.heap.size rfl (stepL x).toArray rfl ?_; rw [hw1]; clear hw1)
        | (refine wpList_val (.int .i64 4) (by rfl) (run_rem_int _ _ _ _ rfl x.what 6 4 rfl rfl (by decide) (by decide) ht.out) ?_)
        | fail)
      refine Calls.mono hwe.out ?_
      rintro e w2 ⟨rfl, h9⟩
      have h9' := h9.symm; subst h9'
      clear hwe h9 hlg
      go_wp2_with fail
      refine wp_region_plan (fun W => OffF (FJ j p kb mb lo) w1 W) (Plan.of [(0, true), (1, true), (2, true), (5, true), (6, true), (8, true), (9, true), (10, true), (3, false), (4, false), (7, false), (11, true), (12, true), (13, true), (14, true)] .done) (by kernel_rfl) (by kernel_rfl) (by kernel_rfl) (by kernel_rfl) (OffF.of (Below.refl _ _).drew) ?_
      have hb2 : Below w.heap.size w w1.drew := hb1.drew
      have hq2 : Below w1.heap.size w1 w1.drew := (Below.refl _ _).drew
      have H2 := H1.later hq2
      have hS2 : Strs w1.drew x.lo x.lc x.l := hlo.later hq2
      have hz2 : w.heap.size ≤ w1.drew.heap.size := hb2.size
      obtain ⟨w2, hw2⟩ : ∃ W, w1.drew = W := ⟨_, rfl⟩
      rw [hw2] at hb2 hq2 H2 hS2 hz2 ⊢
      clear hw2 H1 hx1 hm1 c0 c2
      iterate 2
        first
          | (refine plan_pass _ rfl (by rfl) ?_)
          | (refine plan_take _ _ rfl (.inl ⟨by rfl, fun W hS => by clear hS; go_simp; try with_reducible rfl⟩) ?_)
        try simp only [Act.put, List.setIfInBounds_toArray, List.set_cons_zero, List.set_cons_succ]
      iterate 1
        first
          | (refine plan_pass _ rfl (by rfl) ?_)
          | (refine plan_take _ _ rfl (.inl ⟨by rfl, fun W hS => by have z : W.cell? ⟨w.heap.size, 2, none⟩ = some (.slice x.lo XL x.lc) := hc2x.out W hS; go_simp; try with_reducible rfl⟩) ?_)
        try simp only [Act.put, List.setIfInBounds_toArray, List.set_cons_zero, List.set_cons_succ]
      iterate 1
        first
          | (refine plan_pass _ rfl (by rfl) ?_)
          | (refine plan_take _ _ rfl (.inl ⟨by rfl, fun W hS => by clear hS; go_simp; try with_reducible rfl⟩) ?_)
        try simp only [Act.put, List.setIfInBounds_toArray, List.set_cons_zero, List.set_cons_succ]
      iterate 1
        first
          | (refine plan_pass _ rfl (by rfl) ?_)
          | (refine plan_take _ _ rfl (.inl ⟨by rfl, fun W hS => by have z : W.cell? ⟨w.heap.size, 2, none⟩ = some (.slice x.lo XL x.lc) := hc2x.out W hS; go_simp; try with_reducible rfl⟩) ?_)
        try simp only [Act.put, List.setIfInBounds_toArray, List.set_cons_zero, List.set_cons_succ]
      iterate 3
        first
          | (refine plan_pass _ rfl (by rfl) ?_)
          | (refine plan_take _ _ rfl (.inl ⟨by rfl, fun W hS => by clear hS; go_simp; try with_reducible rfl⟩) ?_)
        try simp only [Act.put, List.setIfInBounds_toArray, List.set_cons_zero, List.set_cons_succ]
      refine plan_cloneS _ rfl (by rfl) _ rfl x.lo x.lc x.l (by rw [hXL.out]; rfl) hS2 (by rw [hXL.out]; omega) ?_
      rintro no nc w3 hown3 hb3
      refine ⟨(OffF.of hq2).trans (OffF.of hb3), ?_⟩
      obtain ⟨_, ao3, c3, hv3, hS3, hf3⟩ := strs_own hown3
      injection hv3 with hv3a hv3b hv3c
      subst hv3a hv3c
      have H3 := H2.later hb3
      have hS3' : Strs w3 x.lo x.lc x.l := hS2.later hb3
      try simp only [Act.put, List.setIfInBounds_toArray, List.set_cons_zero, List.set_cons_succ]
      have hrp := replace_no j p kb mb n left lo lc l N no nc x.l w3 H3 hS3 (by rw [hT.out]; omega) (.inr ⟨fun r hr => Nat.le_trans (each_takenL (by rw [hT.out]; exact hwt) r hr) (by decide), by rw [hT.out, hB.out]; exact hfit⟩)
      replace hrp : Hid _ := hrp
      refine plan_run _ rfl (fun K' hK' => ?_)
      go_simp
      refine Calls.mono hrp.out ?_
      clear hrp
      rintro e w4 ⟨hh, H4, hb4⟩
      obtain rfl : e = .returned (.int .i64 140) := by
        rcases hh with ⟨_, r, hr, h9⟩ | ⟨h9, _⟩
        · have := each_takenL (k := 6000) (by rw [hT.out]; exact hwt) r hr; omega
        · exact h9
      have ho4 : OffF (FJ j p kb mb lo) w3 w4 := (OffF.but hb4).more (fun k hk => .inl hk)
      have ho34 : OffF (FJ j p kb mb lo) w1 w4 := ((OffF.of hq2).trans (OffF.of hb3)).trans ho4
      refine hK'.out _ _ ho34 ?_
      clear hK' K' hh
      try simp only [Act.put, List.setIfInBounds_toArray, List.set_cons_zero, List.set_cons_succ]
      have hS4 : Strs w4 x.lo x.lc x.l := hS3'.offN ho4 (fun hne ad had => ⟨Nat.lt_of_lt_of_le (hxF hne ad had).1 (Nat.le_trans hz2 hb3.size), (hxF hne ad had).2⟩)
      refine plan_cloneS _ rfl (by rfl) _ rfl x.lo x.lc x.l (by rw [hXL.out]; rfl) hS4 (by rw [hXL.out]; omega) ?_
      rintro no5 nc5 w5 hown5 hb5
      refine ⟨ho34.trans (OffF.of hb5), ?_⟩
      obtain ⟨_, ao5, c5, hv5, hS5, hf5⟩ := strs_own hown5
      injection hv5 with hv5a hv5b hv5c
      subst hv5a hv5c
      have hz4 : w.heap.size ≤ w4.heap.size := Nat.le_trans hz2 (Nat.le_trans hb3.size ho4.size)
      have ho05 : OffF (FJ j p kb mb lo) w w5 := (OffF.of hb1).trans (ho34.trans (OffF.of hb5))
      try simp only [Act.put, List.setIfInBounds_toArray, List.set_cons_zero, List.set_cons_succ]
      iterate 4
        first
          | (refine plan_pass _ rfl (by rfl) ?_)
          | (refine plan_take _ _ rfl (.inl ⟨by rfl, fun W hS => by clear hS; go_simp; try with_reducible rfl⟩) ?_)
        try simp only [Act.put, List.setIfInBounds_toArray, List.set_cons_zero, List.set_cons_succ]
      refine plan_done ?_
      go_wp2
      (try simp only [Exit.inBlock, Exit.then]); refine bodyPost_ret (results_tmp4 rfl _ _ _) rfl ?_; unfold Called
      refine ⟨140, no5, nc5, false, true, by rw [hnow.out]; rfl, ?_⟩
      rw [hnow.out]
      exact ⟨hS5, fun ad had => ⟨Nat.le_trans hz4 (hf5 ad had).1, (hf5 ad had).2⟩, ho05, .inr (.inl ⟨rfl, rfl, H4.later hb5⟩)⟩
  · have hR4 : ¬ t = (4 : Int) := hR
    replace hnow : Hid (nowM x l = l ++ [x.s]) := by show _ = _; rw [hnow.out, if_neg hR]
    have hlen : l.length ≤ 200 := by
      have := sheet_taken l
      have h9 : B ≤ 2000 := by have := hB.out; unfold limitM at this; omega
      have := hB.out
      omega
    have hc1x : ∀ W, OffF (FJ j p kb mb lo) w1 W → W.cell? ⟨w.heap.size, 1, none⟩ = some (.string (mkS x.s)) := fun W hS => ((hS.has hX0.out hBF).cell 1).trans rfl
    replace hc1x : Hid _ := hc1x
    obtain ⟨ML, hML⟩ : ∃ ML, l.length = ML := ⟨_, rfl⟩
    rw [hML]
    have hml : ML ≤ 200 := by omega
    replace hML : Hid _ := hML
    clear hlen
    go_enter Tryz.func12, Tryz.ntmps12
    go_wp2_with (first
      | (refine Go.Great.wpList_boxTo rfl 33 _ rfl _ rfl w.heap.size rfl (stepL x).toArray rfl ?_; rw [hw1]; clear hw1)
      | (refine wpList_val (.int .i64 t) (by rfl) (run_rem_int _ _ _ _ rfl x.what 6 t rfl rfl (by decide) (by decide) ht.out) ?_)
      | fail)
    let F4 : Act → Act → World → Prop := fun a a' w' => ∃ (n9 : Option Addr) (c9 : Nat) (g : Nat) (no : Option Addr) (nc : Nat), a' = (((((((a.put (some 41) (.slice mo ML mc)).put (some 43) (.pointer (some ⟨w.heap.size, 1, none⟩))).put (some 44) (.string (mkS x.s))).put (some 42) (.slice n9 ML c9)).put (some 45) (.slice (some ⟨g, 0, none⟩) 1 1)).put (some 46) (.slice no (ML + 1) nc)).put (some 13) (.slice no (ML + 1) nc)) ∧ w'.ownsRow w.heap.size 9 1 (.slice no (ML + 1) nc) (ML + 1) (SsV (l ++ [x.s])) ∧ Below w.heap.size w w' ∧ OffF (FJ j p kb mb lo) w1 w'
    refine wp_region_plan_mid (fun W => OffF (FJ j p kb mb lo) w1 W) (Plan.of [(0, true), (2, true), (3, true)] (.either 1 (Plan.of [(4, false), (5, false), (6, true)] .done) 4 (Plan.of [(1, false), (5, false), (6, true)] .done))) F4 (by kernel_rfl) (by kernel_rfl) (by kernel_rfl) (by kernel_rfl) (OffF.of (Below.refl _ _).drew) ?_ ?_
    · have hb2 : Below w.heap.size w w1.drew := hb1.drew
      have hq2 : Below w1.heap.size w1 w1.drew := (Below.refl _ _).drew
      have hm2 : Strs w1.drew mo mc l := hm1.later hq2
      have hz2 : w.heap.size ≤ w1.drew.heap.size := hb2.size
      obtain ⟨w2, hw2⟩ : ∃ W, w1.drew = W := ⟨_, rfl⟩
      rw [hw2] at hb2 hq2 hm2 hz2 ⊢
      clear hw2 H1 hx1 hm1 c0
      iterate 2
        first
          | (refine plan_pass _ rfl (by rfl) ?_)
          | (refine plan_take _ _ rfl (.inl ⟨by rfl, fun W hS => by clear hS; go_simp; try with_reducible rfl⟩) ?_)
        try simp only [Act.put, List.setIfInBounds_toArray, List.set_cons_zero, List.set_cons_succ]
      iterate 1
        first
          | (refine plan_pass _ rfl (by rfl) ?_)
          | (refine plan_take _ _ rfl (.inl ⟨by rfl, fun W hS => by have z : W.cell? ⟨w.heap.size, 1, none⟩ = some (.string (mkS x.s)) := hc1x.out W hS; go_simp; try with_reducible rfl⟩) ?_)
        try simp only [Act.put, List.setIfInBounds_toArray, List.set_cons_zero, List.set_cons_succ]
      refine plan_either ?_ ?_
      · refine plan_cloneS _ rfl (by rfl) _ rfl mo mc l (by rw [hML.out]; rfl) hm2 (by rw [hML.out]; omega) ?_
        rintro n3 c3 w3 hown3 hb3
        have ho3 : OffF (FJ j p kb mb lo) w1 w3 := (OffF.of hq2).trans (OffF.of hb3)
        rw [hML.out] at hown3
        refine ⟨ho3, ?_⟩
        rw [hML.out]
        try simp only [Act.put, List.setIfInBounds_toArray, List.set_cons_zero, List.set_cons_succ]
        have hb4 : Below w3.heap.size w3 (w3.alloc (.cells #[strV x.s] 9)) := (Below.refl _ _).alloc (Nat.le_refl _) _
        have ho4 := ho3.trans (OffF.of hb4)
        refine plan_sliceS _ rfl (by rfl) _ rfl x.s rfl ho4 ?_
        try simp only [Act.put, List.setIfInBounds_toArray, List.set_cons_zero, List.set_cons_succ]
        have hown4 := own_keptE hown3 hb4
        have hN4 := Strs.new w3 x.s (0, 0)
        refine plan_appS _ rfl (by rfl) _ _ rfl w2.heap.size _ ML l rfl ⟨w3.heap.size, 0, none⟩ 1 1 [x.s] rfl hown4 hN4 rfl (by omega) (Nat.le_trans hb3.size hb4.size) ?_
        rintro n5 c5 w5 hown5 hgr5
        have hb5 : Below w2.heap.size (w3.alloc (.cells #[strV x.s] 9)) w5 := (Below.refl _ _).grown hgr5 (Nat.le_trans hb3.size hb4.size) (fun q hq => (hown4.lt q hq).1)
        have hb25 : Below w2.heap.size w2 w5 := (hb3.trans (hb4.mono hb3.size)).trans hb5
        have ho5 : OffF (FJ j p kb mb lo) w1 w5 := (OffF.of hq2).trans (OffF.of hb25)
        refine ⟨ho5, ?_⟩
        try simp only [Act.put, List.setIfInBounds_toArray, List.set_cons_zero, List.set_cons_succ]
        iterate 1
          first
            | (refine plan_pass _ rfl (by rfl) ?_)
            | (refine plan_take _ _ rfl (.inl ⟨by rfl, fun W hS => by clear hS; go_simp; try with_reducible rfl⟩) ?_)
          try simp only [Act.put, List.setIfInBounds_toArray, List.set_cons_zero, List.set_cons_succ]
        refine plan_done (mid_done ?_)
        exact ⟨n3, c3, w3.heap.size, n5, c5, (by simp only [Act.put, List.setIfInBounds_toArray, List.set_cons_zero, List.set_cons_succ]), own_baseS hown5 hz2, hb2.trans (hb25.mono hz2), ho5⟩
      · have hb3 : Below w2.heap.size w2 (w2.alloc (.cells #[strV x.s] 9)) := (Below.refl _ _).alloc (Nat.le_refl _) _
        have ho3 := (OffF.of (F := FJ j p kb mb lo) hq2).trans (OffF.of hb3)
        refine plan_sliceS _ rfl (by rfl) _ rfl x.s rfl ho3 ?_
        try simp only [Act.put, List.setIfInBounds_toArray, List.set_cons_zero, List.set_cons_succ]
        have hN3 := Strs.new w2 x.s (0, 0)
        have hm3 := hm2.later hb3
        obtain ⟨w3, hw3⟩ : ∃ W, w2.alloc (.cells #[strV x.s] 9) = W := ⟨_, rfl⟩
        rw [hw3] at hb3 ho3 hN3 hm3 ⊢
        clear hw3
        refine plan_cloneS _ rfl (by rfl) _ rfl mo mc l (by rw [hML.out]; rfl) hm3 (by rw [hML.out]; omega) ?_
        rintro n3 c3 w4 hown4 hb4
        have ho4 : OffF (FJ j p kb mb lo) w1 w4 := ho3.trans (OffF.of hb4)
        rw [hML.out] at hown4
        refine ⟨ho4, ?_⟩
        rw [hML.out]
        try simp only [Act.put, List.setIfInBounds_toArray, List.set_cons_zero, List.set_cons_succ]
        have hN4 := hN3.later hb4
        refine plan_appS _ rfl (by rfl) _ _ rfl w3.heap.size _ ML l rfl ⟨w2.heap.size, 0, none⟩ 1 1 [x.s] rfl hown4 hN4 rfl (by omega) hb4.size ?_
        rintro n5 c5 w5 hown5 hgr5
        have hb5 : Below w3.heap.size w4 w5 := (Below.refl _ _).grown hgr5 hb4.size (fun q hq => (hown4.lt q hq).1)
        have hb35 : Below w3.heap.size w3 w5 := hb4.trans hb5
        have hb25 : Below w2.heap.size w2 w5 := hb3.trans (hb35.mono hb3.size)
        have ho5 : OffF (FJ j p kb mb lo) w1 w5 := (OffF.of hq2).trans (OffF.of hb25)
        refine ⟨ho5, ?_⟩
        try simp only [Act.put, List.setIfInBounds_toArray, List.set_cons_zero, List.set_cons_succ]
        iterate 1
          first
            | (refine plan_pass _ rfl (by rfl) ?_)
            | (refine plan_take _ _ rfl (.inl ⟨by rfl, fun W hS => by clear hS; go_simp; try with_reducible rfl⟩) ?_)
          try simp only [Act.put, List.setIfInBounds_toArray, List.set_cons_zero, List.set_cons_succ]
        refine plan_done (mid_done ?_)
        exact ⟨n3, c3, w2.heap.size, n5, c5, (by simp only [Act.put, List.setIfInBounds_toArray, List.set_cons_zero, List.set_cons_succ]), own_baseS hown5 (Nat.le_trans hz2 hb3.size), hb2.trans (hb25.mono hz2), ho5⟩
    · rintro a' w5 ⟨n3, c3, g3, no, nc, rfl, hown5, hb5, ho5⟩
      try simp only [Act.put, List.setIfInBounds_toArray, List.set_cons_zero, List.set_cons_succ]
      have H5 := H.later hb5
      have hz5 : w.heap.size ≤ w5.heap.size := hb5.size
      obtain ⟨RM, hRM⟩ : ∃ R, roomM n l = R := ⟨_, rfl⟩
      have hRv : RM = B - (takenM l + 16) := by rw [← hRM, ← hB.out]; rfl
      obtain ⟨T, hT⟩ : ∃ T, takenM l = T := ⟨_, rfl⟩
      rw [hT] at hRv
      have hTB : T ≤ B := by rw [← hT, ← hB.out]; exact f3
      replace hT : Hid _ := hT
      have hroom := room_face j p kb mb n left lo lc l N w5 H5
      rw [hRM] at hroom
      replace hroom : Hid _ := hroom
      clear hRM H1 hx1 hm1 c0
      go_wp2_with fail
      refine Calls.mono hroom.out ?_
      rintro e w6 ⟨rfl, h9⟩
      clear hroom
      have hq6 : Below w5.heap.size w5 w6 := by rw [h9]; exact (Below.refl _ _).drew
      clear h9
      have H6 := H5.later hq6
      have hown6 := own_keptE hown5 hq6
      have hb6 := hb5.trans (hq6.mono hz5)
      have ho6 := ho5.trans (OffF.of hq6)
      have hz6 : w.heap.size ≤ w6.heap.size := hb6.size
      obtain ⟨_, ao6, c6, hv6, hS6, hf6⟩ := strs_own hown6
      injection hv6 with hv6a hv6b hv6c
      subst hv6a hv6c
      obtain ⟨SN, hSN⟩ : ∃ k, x.s.length = k := ⟨_, rfl⟩
      have hsz : (mkS x.s).size = SN := by rw [mkS_size]; exact hSN
      rw [hSN] at hs
      have hone : (l ++ [x.s]).length = ML + 1 := by rw [List.length_append, hML.out]; rfl
      have hTO : takenM (l ++ [x.s]) = T + (SN + 16) := by
        rw [takenM_app, hT.out]
        show T + (x.s.length + 16) = _
        rw [hSN]
      replace hone : Hid _ := hone
      replace hTO : Hid _ := hTO
      replace hSN : Hid _ := hSN
      have each1 : ∀ r ∈ l ++ [x.s], r.length ≤ 140737488355328 := fun r hr => by
        rcases List.mem_append.1 hr with h9 | h9
        · have := f5 r h9; omega
        · rw [List.mem_singleton.1 h9, hSN.out]; omega
      replace each1 : Hid _ := each1
      clear hown5 hq6 hb5 ho5 H5 hz5
      by_cases hfit : T + (SN + 16) ≤ B
      · have q1 : ((T + (SN + 16) : Nat) : Int) ≤ (B : Int) := by omega
        have q2 : ¬ (RM : Int) < (SN : Int) := by omega
        replace hRv : Hid _ := hRv
        go_wp2_with fail
        refine wp_region_plan (fun W => OffF (FJ j p kb mb lo) w1 W) (Plan.of [(0, true), (1, true), (2, true), (4, true), (5, true), (7, true), (9, true), (10, true), (12, true), (11, true), (13, true), (3, false), (6, false), (8, true), (14, true), (15, true), (16, true), (17, true)] .done) (by kernel_rfl) (by kernel_rfl) (by kernel_rfl) (by kernel_rfl) (ho6.trans (OffF.of (Below.refl _ _).drew)) ?_
        have hq7 : Below w6.heap.size w6 w6.drew := (Below.refl _ _).drew
        have H7 := H6.later hq7
        have ho7 := ho6.trans (OffF.of hq7)
        have hS7 := hS6.later hq7
        have hf7 : ∀ ad, no = some ad → w.heap.size ≤ ad.block ∧ ad.block < w6.drew.heap.size := fun ad had => hf6 ad had
        have hb7 := hb6.trans (hq7.mono hz6)
        have hz7 : w.heap.size ≤ w6.drew.heap.size := hz6
        obtain ⟨w7, hw7⟩ : ∃ W, w6.drew = W := ⟨_, rfl⟩
        rw [hw7] at H7 ho7 hS7 hf7 hb7 hz7 ⊢
        clear hw7 hq7 H6 ho6 hS6 hf6 hb6 hz6 hown6
        iterate 2
          first
            | (refine plan_pass _ rfl (by rfl) ?_)
            | (refine plan_take _ _ rfl (.inl ⟨by rfl, fun W hS => by clear hS; go_simp; try with_reducible rfl⟩) ?_)
          try simp only [Act.put, List.setIfInBounds_toArray, List.set_cons_zero, List.set_cons_succ]
        iterate 1
          first
            | (refine plan_pass _ rfl (by rfl) ?_)
            | (refine plan_take _ _ rfl (.inl ⟨by rfl, fun W hS => by have z : W.cell? ⟨w.heap.size, 1, none⟩ = some (.string (mkS x.s)) := hc1x.out W hS; go_simp; try with_reducible rfl⟩) ?_)
          try simp only [Act.put, List.setIfInBounds_toArray, List.set_cons_zero, List.set_cons_succ]
        iterate 4
          first
            | (refine plan_pass _ rfl (by rfl) ?_)
            | (refine plan_take _ _ rfl (.inl ⟨by rfl, fun W hS => by clear hS; go_simp; try with_reducible rfl⟩) ?_)
          try simp only [Act.put, List.setIfInBounds_toArray, List.set_cons_zero, List.set_cons_succ]
        iterate 1
          first
            | (refine plan_pass _ rfl (by rfl) ?_)
            | (refine plan_take _ _ rfl (.inl ⟨by rfl, fun W hS => by have z : W.cell? ⟨w.heap.size, 1, none⟩ = some (.string (mkS x.s)) := hc1x.out W hS; go_simp; try with_reducible rfl⟩) ?_)
          try simp only [Act.put, List.setIfInBounds_toArray, List.set_cons_zero, List.set_cons_succ]
        iterate 3
          first
            | (refine plan_pass _ rfl (by rfl) ?_)
            | (refine plan_take _ _ rfl (.inl ⟨by rfl, fun W hS => by clear hS; go_simp; try with_reducible rfl⟩) ?_)
          try simp only [Act.put, List.setIfInBounds_toArray, List.set_cons_zero, List.set_cons_succ]
        have hap := append_face j p kb mb n left lo lc l N x.s w7 H7 hN (by rw [hSN.out]; omega) (by rw [hT.out, hSN.out, hB.out]; exact hfit)
        replace hap : Calls Tryz.prog 15 #[.pointer (some ⟨j, 0, none⟩), .string (mkS x.s)] w7 _ := hap
        replace hap : Hid _ := hap
        refine plan_run _ rfl (fun K' hK' => ?_)
        go_simp
        refine Calls.mono hap.out ?_
        clear hap
        rintro e w8 (⟨rfl, lo8, lc8, left8, hl8, H8, hF8, ho8⟩ | ⟨rfl, hl8, hc8, hj8, ho8⟩)
        · have ho18 : OffF (FJ j p kb mb lo) w1 w8 := ho7.trans ho8
          refine hK'.out _ _ ho18 ?_
          clear hK' K'
          try simp only [Act.put, List.setIfInBounds_toArray, List.set_cons_zero, List.set_cons_succ]
          have hS8 : Strs w8 no nc (l ++ [x.s]) := hS7.same (fun ad had => ho8.block _ (hf7 ad had).2 (fun hf => by have := H.lt _ hf; have := (hf7 ad had).1; omega))
          have hwe := weight_any no nc (l ++ [x.s]) w8 hS8 (by rw [hone.out]; omega) each1.out
          rw [hTO.out, List.length_append] at hwe
          replace hwe : Calls Tryz.prog 7 #[.slice no (l.length + 1) nc] w8 _ := hwe
          replace hwe : Hid _ := hwe
          refine plan_run _ rfl (fun K' hK' => ?_)
          go_simp
          refine Calls.mono hwe.out ?_
          rintro e w9 ⟨rfl, h9⟩
          have h9' := h9.symm; subst h9'
          clear h9 hwe
          refine hK'.out _ _ ho18 ?_
          clear hK' K'
          try simp only [Act.put, List.setIfInBounds_toArray, List.set_cons_zero, List.set_cons_succ]
          iterate 5
            first
              | (refine plan_pass _ rfl (by rfl) ?_)
              | (refine plan_take _ _ rfl (.inl ⟨by rfl, fun W hS => by clear hS; go_simp; try with_reducible rfl⟩) ?_)
            try simp only [Act.put, List.setIfInBounds_toArray, List.set_cons_zero, List.set_cons_succ]
          refine plan_done ?_
          have hz8 : w.heap.size ≤ w8.heap.size := Nat.le_trans hz7 ho8.size
          have ho08 : OffF (FJ j p kb mb lo) w w8 := (OffF.of hb1).trans ho18
          go_wp2
          (try simp only [Exit.inBlock, Exit.then]); refine bodyPost_ret (results_tmp4 rfl _ _ _) rfl ?_; unfold Called
          refine ⟨0, no, nc, decide ((T : Int) + ((SN : Int) + 16) ≤ (B : Int)), decide (RM < SN), by rw [hnow.out, List.length_append]; rfl, ?_⟩
          rw [hnow.out]
          exact ⟨hS8, fun ad had => ⟨(hf7 ad had).1, Nat.lt_of_lt_of_le (hf7 ad had).2 ho8.size⟩, ho08, .inl ⟨rfl, decide_eq_false (by omega), lo8, lc8, left8, hl8, H8, fun k hk => (hF8 k hk).imp id (fun z => Nat.le_trans hz7 z), fun ad had hf => by
            rcases hF8 _ hf with h9 | h9
            · have := H.lt _ h9; have := (hf7 ad had).1; omega
            · have := (hf7 ad had).2; omega⟩⟩
        · have ho18 : OffF (FJ j p kb mb lo) w1 w8 := ho7.trans ho8
          refine hK'.out _ _ ho18 ?_
          clear hK' K'
          try simp only [Act.put, List.setIfInBounds_toArray, List.set_cons_zero, List.set_cons_succ]
          have hS8 : Strs w8 no nc (l ++ [x.s]) := hS7.same (fun ad had => ho8.block _ (hf7 ad had).2 (fun hf => by have := H.lt _ hf; have := (hf7 ad had).1; omega))
          have hwe := weight_any no nc (l ++ [x.s]) w8 hS8 (by rw [hone.out]; omega) each1.out
          rw [hTO.out, List.length_append] at hwe
          replace hwe : Calls Tryz.prog 7 #[.slice no (l.length + 1) nc] w8 _ := hwe
          replace hwe : Hid _ := hwe
          refine plan_run _ rfl (fun K' hK' => ?_)
          go_simp
          refine Calls.mono hwe.out ?_
          rintro e w9 ⟨rfl, h9⟩
          have h9' := h9.symm; subst h9'
          clear h9 hwe
          refine hK'.out _ _ ho18 ?_
          clear hK' K'
          try simp only [Act.put, List.setIfInBounds_toArray, List.set_cons_zero, List.set_cons_succ]
          iterate 5
            first
              | (refine plan_pass _ rfl (by rfl) ?_)
              | (refine plan_take _ _ rfl (.inl ⟨by rfl, fun W hS => by clear hS; go_simp; try with_reducible rfl⟩) ?_)
            try simp only [Act.put, List.setIfInBounds_toArray, List.set_cons_zero, List.set_cons_succ]
          refine plan_done ?_
          have hz8 : w.heap.size ≤ w8.heap.size := Nat.le_trans hz7 ho8.size
          have ho08 : OffF (FJ j p kb mb lo) w w8 := (OffF.of hb1).trans ho18
          go_wp2
          (try simp only [Exit.inBlock, Exit.then]); refine bodyPost_ret (results_tmp4 rfl _ _ _) rfl ?_; unfold Called
          refine ⟨131, no, nc, decide ((T : Int) + ((SN : Int) + 16) ≤ (B : Int)), decide (RM < SN), by rw [hnow.out, List.length_append]; rfl, ?_⟩
          rw [hnow.out]
          exact ⟨hS8, fun ad had => ⟨(hf7 ad had).1, Nat.lt_of_lt_of_le (hf7 ad had).2 ho8.size⟩, ho08, .inr (.inr ⟨rfl, hl8, hc8, hj8⟩)⟩
      · have q1 : ¬ ((T + (SN + 16) : Nat) : Int) ≤ (B : Int) := by omega
        replace hRv : Hid _ := hRv
        go_wp2_with fail
        refine wp_region_plan (fun W => OffF (FJ j p kb mb lo) w1 W) (Plan.of [(0, true), (1, true), (2, true), (4, true), (5, true), (7, true), (9, true), (10, true), (12, true), (11, true), (13, true), (3, false), (6, false), (8, true), (14, true), (15, true), (16, true), (17, true)] .done) (by kernel_rfl) (by kernel_rfl) (by kernel_rfl) (by kernel_rfl) (ho6.trans (OffF.of (Below.refl _ _).drew)) ?_
        have hq7 : Below w6.heap.size w6 w6.drew := (Below.refl _ _).drew
        have H7 := H6.later hq7
        have ho7 := ho6.trans (OffF.of hq7)
        have hS7 := hS6.later hq7
        have hf7 : ∀ ad, no = some ad → w.heap.size ≤ ad.block ∧ ad.block < w6.drew.heap.size := fun ad had => hf6 ad had
        have hb7 := hb6.trans (hq7.mono hz6)
        have hz7 : w.heap.size ≤ w6.drew.heap.size := hz6
        obtain ⟨w7, hw7⟩ : ∃ W, w6.drew = W := ⟨_, rfl⟩
        rw [hw7] at H7 ho7 hS7 hf7 hb7 hz7 ⊢
        clear hw7 hq7 H6 ho6 hS6 hf6 hb6 hz6 hown6
        iterate 2
          first
            | (refine plan_pass _ rfl (by rfl) ?_)
            | (refine plan_take _ _ rfl (.inl ⟨by rfl, fun W hS => by clear hS; go_simp; try with_reducible rfl⟩) ?_)
          try simp only [Act.put, List.setIfInBounds_toArray, List.set_cons_zero, List.set_cons_succ]
        iterate 1
          first
            | (refine plan_pass _ rfl (by rfl) ?_)
            | (refine plan_take _ _ rfl (.inl ⟨by rfl, fun W hS => by have z : W.cell? ⟨w.heap.size, 1, none⟩ = some (.string (mkS x.s)) := hc1x.out W hS; go_simp; try with_reducible rfl⟩) ?_)
          try simp only [Act.put, List.setIfInBounds_toArray, List.set_cons_zero, List.set_cons_succ]
        iterate 4
          first
            | (refine plan_pass _ rfl (by rfl) ?_)
            | (refine plan_take _ _ rfl (.inl ⟨by rfl, fun W hS => by clear hS; go_simp; try with_reducible rfl⟩) ?_)
          try simp only [Act.put, List.setIfInBounds_toArray, List.set_cons_zero, List.set_cons_succ]
        iterate 1
          first
            | (refine plan_pass _ rfl (by rfl) ?_)
            | (refine plan_take _ _ rfl (.inl ⟨by rfl, fun W hS => by have z : W.cell? ⟨w.heap.size, 1, none⟩ = some (.string (mkS x.s)) := hc1x.out W hS; go_simp; try with_reducible rfl⟩) ?_)
          try simp only [Act.put, List.setIfInBounds_toArray, List.set_cons_zero, List.set_cons_succ]
        iterate 3
          first
            | (refine plan_pass _ rfl (by rfl) ?_)
            | (refine plan_take _ _ rfl (.inl ⟨by rfl, fun W hS => by clear hS; go_simp; try with_reducible rfl⟩) ?_)
          try simp only [Act.put, List.setIfInBounds_toArray, List.set_cons_zero, List.set_cons_succ]
        have hap := append_no j p kb mb n left lo lc l N x.s w7 H7 (.inr (by rw [hT.out, hSN.out, hB.out]; exact hfit))
        rw [if_neg (by rw [hSN.out]; omega)] at hap
        replace hap : Calls Tryz.prog 15 #[.pointer (some ⟨j, 0, none⟩), .string (mkS x.s)] w7 _ := hap
        replace hap : Hid _ := hap
        refine plan_run _ rfl (fun K' hK' => ?_)
        go_simp
        refine Calls.mono hap.out ?_
        clear hap
        rintro e w8 ⟨rfl, H8, hb8⟩
        have ho8 : OffF (FJ j p kb mb lo) w7 w8 := (OffF.but hb8).more (fun k hk => .inl hk)
        have ho18 : OffF (FJ j p kb mb lo) w1 w8 := ho7.trans ho8
        refine hK'.out _ _ ho18 ?_
        clear hK' K'
        try simp only [Act.put, List.setIfInBounds_toArray, List.set_cons_zero, List.set_cons_succ]
        have hS8 : Strs w8 no nc (l ++ [x.s]) := hS7.same (fun ad had => ho8.block _ (hf7 ad had).2 (fun hf => by have := H.lt _ hf; have := (hf7 ad had).1; omega))
        have hwe := weight_any no nc (l ++ [x.s]) w8 hS8 (by rw [hone.out]; omega) each1.out
        rw [hTO.out, List.length_append] at hwe
        replace hwe : Calls Tryz.prog 7 #[.slice no (l.length + 1) nc] w8 _ := hwe
        replace hwe : Hid _ := hwe
        refine plan_run _ rfl (fun K' hK' => ?_)
        go_simp
        refine Calls.mono hwe.out ?_
        rintro e w9 ⟨rfl, h9⟩
        have h9' := h9.symm; subst h9'
        clear h9 hwe
        refine hK'.out _ _ ho18 ?_
        clear hK' K'
        try simp only [Act.put, List.setIfInBounds_toArray, List.set_cons_zero, List.set_cons_succ]
        iterate 5
          first
            | (refine plan_pass _ rfl (by rfl) ?_)
            | (refine plan_take _ _ rfl (.inl ⟨by rfl, fun W hS => by clear hS; go_simp; try with_reducible rfl⟩) ?_)
          try simp only [Act.put, List.setIfInBounds_toArray, List.set_cons_zero, List.set_cons_succ]
        refine plan_done ?_
        have hz8 : w.heap.size ≤ w8.heap.size := Nat.le_trans hz7 ho8.size
        have ho08 : OffF (FJ j p kb mb lo) w w8 := (OffF.of hb1).trans ho18
        go_wp2
        (try simp only [Exit.inBlock, Exit.then]); refine bodyPost_ret (results_tmp4 rfl _ _ _) rfl ?_; unfold Called
        refine ⟨140, no, nc, decide ((T : Int) + ((SN : Int) + 16) ≤ (B : Int)), decide (RM < SN), by rw [hnow.out, List.length_append]; rfl, ?_⟩
        rw [hnow.out]
        exact ⟨hS8, fun ad had => ⟨(hf7 ad had).1, Nat.lt_of_lt_of_le (hf7 ad had).2 ho8.size⟩, ho08, .inr (.inl ⟨rfl, decide_eq_false (by omega), H8⟩)⟩
end
end Go.Proofs.YtlalfagafbpkiaaGreat
