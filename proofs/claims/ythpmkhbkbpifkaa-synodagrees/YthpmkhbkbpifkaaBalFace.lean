/- The contracts of ballot's Accepted, promise, Prepare, Accept. -/
import Derived.Test.YthpmkhbkbpifkaaBalSmall
namespace Go.Proofs.Ythpmkhbkbpifkaa
set_option linter.unusedSimpArgs false
set_option linter.unusedVariables false
set_option maxRecDepth 100000
open Go.RowKit

section laws
variable {P : Program} {a : Act} {w : World}
/-- A function's end that hands back two structs and one thing more, or two. -/
theorem ret_has_21 {fn : Func} {R : Ending → World → Prop} {p q r : Tmp} {ty uy : TypeId} (h : fn.results = #[.cell p ty, .cell q uy, .tmp r]) (g k : Nat) (hp : a.tmps.getD p undef = .pointer (some ⟨g, 0, none⟩)) (hq : a.tmps.getD q undef = .pointer (some ⟨k, 0, none⟩))
    (t u : TypeId) (c e : Array Value) (d f : TypeDesc) (hu : P.underlying ty = some d) (hd : (match d with | .struct _ | .array _ _ => true | _ => false) = true) (hi : (P.info? ty).map (·.size) = some c.size)
    (hv : P.underlying uy = some f) (hf : (match f with | .struct _ | .array _ _ => true | _ => false) = true) (hj : (P.info? uy).map (·.size) = some e.size)
    (hg : Has w g t c) (hk : Has w k u e) (x : Value) (hr : a.tmps.getD r undef = x) (hdf : a.defers = []) (hR : R (.returned (.tuple #[.agg c, .agg e, x])) w) : bodyPost P fn R .ret a w := by
  refine bodyPost_ret ?_ hdf hR
  have hp' : a.tmps[p]?.getD undef = .pointer (some ⟨g, 0, none⟩) := by simpa using hp
  have hq' : a.tmps[q]?.getD undef = .pointer (some ⟨k, 0, none⟩) := by simpa using hq
  have hr' : a.tmps[r]?.getD undef = x := by simpa using hr
  simp [results, h, hp', hq', hr', asAddr, Sem.run_bind, run_loadVar_row w g t ty c (0, 0) d hg hu hd hi, run_loadVar_row w k u uy e (0, 0) f hk hv hf hj, Result.andThen]
theorem ret_has_22 {fn : Func} {R : Ending → World → Prop} {p q r s : Tmp} {ty uy : TypeId} (h : fn.results = #[.cell p ty, .cell q uy, .tmp r, .tmp s]) (g k : Nat) (hp : a.tmps.getD p undef = .pointer (some ⟨g, 0, none⟩)) (hq : a.tmps.getD q undef = .pointer (some ⟨k, 0, none⟩))
    (t u : TypeId) (c e : Array Value) (d f : TypeDesc) (hu : P.underlying ty = some d) (hd : (match d with | .struct _ | .array _ _ => true | _ => false) = true) (hi : (P.info? ty).map (·.size) = some c.size)
    (hv : P.underlying uy = some f) (hf : (match f with | .struct _ | .array _ _ => true | _ => false) = true) (hj : (P.info? uy).map (·.size) = some e.size)
    (hg : Has w g t c) (hk : Has w k u e) (x y : Value) (hr : a.tmps.getD r undef = x) (hs : a.tmps.getD s undef = y) (hdf : a.defers = []) (hR : R (.returned (.tuple #[.agg c, .agg e, x, y])) w) : bodyPost P fn R .ret a w := by
  refine bodyPost_ret ?_ hdf hR
  have hp' : a.tmps[p]?.getD undef = .pointer (some ⟨g, 0, none⟩) := by simpa using hp
  have hq' : a.tmps[q]?.getD undef = .pointer (some ⟨k, 0, none⟩) := by simpa using hq
  have hr' : a.tmps[r]?.getD undef = x := by simpa using hr
  have hs' : a.tmps[s]?.getD undef = y := by simpa using hs
  simp [results, h, hp', hq', hr', hs', asAddr, Sem.run_bind, run_loadVar_row w g t ty c (0, 0) d hg hu hd hi, run_loadVar_row w k u uy e (0, 0) f hk hv hf hj, Result.andThen]
end laws

set_option maxHeartbeats 2000000 in
theorem accepted_any (p : Nat) (a : AccV) (w : World) (h : Has w p 77 (accC a)) (ha : AccOk a) :
    Calls Try.prog 34 #[.pointer (some ⟨p, 0, none⟩)] w fun e w' => e = .returned (.tuple #[.agg (balC a.acc), .agg (incC a.inc), .bool (hasA a)]) ∧ Below w.heap.size w w' := by
  obtain ⟨w1, hw1, hR, hX, hb⟩ := two_vars w 31 23 (balC bal0) (incC inc0)
  have hlt := h.lt
  have hA := h.later hb
  have hA2 := hA.drew.row_other (k := w.heap.size) (by omega) (balC a.acc)
  have hA3 := hA2.row_other (k := w.heap.size + 1) (by omega) (incC a.inc)
  have hR2 := hR.drew.row (balC a.acc)
  have hX2 := hX.drew.row_other (k := w.heap.size) (by omega) (balC a.acc)
  have hR3 := hR2.row_other (k := w.heap.size + 1) (by omega) (incC a.inc)
  have hX3 := hX2.row (incC a.inc)
  have hb3 := below_setRow (below_setRow hb.drew (Nat.le_refl w.heap.size) (balC a.acc)) (show w.heap.size ≤ w.heap.size + 1 by omega) (incC a.inc)
  go_enter Try.func34, Try.ntmps34
  go_wp2_with (first
    | (refine alloc_bal (by rfl) rfl ?_)
    | (refine alloc_inc0 (by rfl) rfl ?_; rw [alloc_sz, hw1]))
  refine wp_region_plan (fun W => Has W p 77 (accC a)) (Plan.of [(0, true), (1, true), (2, true), (3, true), (4, true), (5, true), (6, true), (7, true), (8, true), (9, true), (10, true), (11, true), (12, true), (13, true), (14, false), (15, false), (16, true)] .done) (by kernel_rfl) (by kernel_rfl) (by kernel_rfl) (by kernel_rfl) hA.drew ?_
  iterate 3
    first
      | (refine plan_pass _ rfl (by rfl) ?_)
      | (refine plan_take _ _ rfl (.inl ⟨by rfl, fun W hS => by clear hS; go_simp; try with_reducible rfl⟩) ?_)
    try simp only [Act.put, List.setIfInBounds_toArray, List.set_cons_zero, List.set_cons_succ]
  refine plan_take _ _ rfl (yields_bal_mid a.acc (by rfl) _ rfl p 2 rfl (fun _ h => acc_acc h)) ?_
  try simp only [Act.put, List.setIfInBounds_toArray, List.set_cons_zero, List.set_cons_succ]
  iterate 3
    first
      | (refine plan_pass _ rfl (by rfl) ?_)
      | (refine plan_take _ _ rfl (.inl ⟨by rfl, fun W hS => by clear hS; go_simp; try with_reducible rfl⟩) ?_)
    try simp only [Act.put, List.setIfInBounds_toArray, List.set_cons_zero, List.set_cons_succ]
  refine plan_take _ _ rfl (yields_inc_mid a.inc (by rfl) _ rfl p 4 rfl (fun _ h => acc_inc h)) ?_
  try simp only [Act.put, List.setIfInBounds_toArray, List.set_cons_zero, List.set_cons_succ]
  iterate 3
    first
      | (refine plan_pass _ rfl (by rfl) ?_)
      | (refine plan_take _ _ rfl (.inl ⟨by rfl, fun W hS => by clear hS; go_simp; try with_reducible rfl⟩) ?_)
    try simp only [Act.put, List.setIfInBounds_toArray, List.set_cons_zero, List.set_cons_succ]
  refine plan_take _ _ rfl (yields_bal_mid a.acc (by rfl) _ rfl p 2 rfl (fun _ h => acc_acc h)) ?_
  try simp only [Act.put, List.setIfInBounds_toArray, List.set_cons_zero, List.set_cons_succ]
  refine plan_take _ _ rfl (yields_build_bal0 (by rfl) rfl) ?_
  try simp only [Act.put, List.setIfInBounds_toArray, List.set_cons_zero, List.set_cons_succ]
  refine plan_take _ _ rfl (yields_bal_ne a.acc bal0 ha.acc bal0_ok (by rfl) _ _ _ rfl rfl rfl) ?_
  try simp only [Act.put, List.setIfInBounds_toArray, List.set_cons_zero, List.set_cons_succ]
  refine plan_store_has _ rfl (by rfl) 31 _ _ rfl w.heap.size rfl (balC a.acc) rfl 31 (balC bal0) (bal_size _) rfl (bal_one _) hR.drew hA2 ?_
  try simp only [Act.put, List.setIfInBounds_toArray, List.set_cons_zero, List.set_cons_succ]
  refine plan_store_has _ rfl (by rfl) 23 _ _ rfl (w.heap.size + 1) rfl (incC a.inc) rfl 23 (incC inc0) (inc_size _) rfl (inc_one _) hX2 hA3 ?_
  try simp only [Act.put, List.setIfInBounds_toArray, List.set_cons_zero, List.set_cons_succ]
  iterate 1
    first
      | (refine plan_pass _ rfl (by rfl) ?_)
      | (refine plan_take _ _ rfl (.inl ⟨by rfl, fun W hS => by clear hS; go_simp; try with_reducible rfl⟩) ?_)
    try simp only [Act.put, List.setIfInBounds_toArray, List.set_cons_zero, List.set_cons_succ]
  refine plan_done ?_
  go_wp2
  exact ret_has_21 rfl w.heap.size (w.heap.size + 1) rfl rfl 31 23 (balC a.acc) (incC a.inc) _ _ Try.underlying31 rfl (bal_size _) Try.underlying23 rfl (inc_size _) hR3 hX3 _ rfl rfl ⟨rfl, hb3⟩

set_option maxHeartbeats 2000000 in
theorem promise_any (p : Nat) (a : AccV) (b : BalV) (w : World) (h : Has w p 77 (accC a)) (ha : AccOk a) (hb : BalOk b) :
    Calls Try.prog 33 #[.pointer (some ⟨p, 0, none⟩), .agg (balC b)] w fun e w' => e = .returned (.int .i64 (errP a.pro b : Nat)) ∧ Has w' p 77 (accC (prepM a b)) ∧ But p w w' := by
  obtain ⟨w1, hw1, hB, hbw⟩ := one_var w 31 (balC b)
  have hlt := h.lt
  have hA := h.later hbw
  have hE : Hid _ := errP_cases a.pro b
  go_enter Try.func33, Try.ntmps33
  go_wp2_with (first
    | (refine load_bal b (by rfl) _ rfl w.heap.size rfl ?hg ?_; (case hg => exact hB)))
  refine (bis_any b _ hb).mono ?_
  rintro e w2 ⟨rfl, hq⟩
  replace hA := hA.later hq
  replace hB := hB.later hq
  replace hbw := hbw.trans (hq.mono hbw.size)
  clear hq
  rcases hE.out with ⟨h1, h2⟩ | ⟨h1, h2, h3⟩ | ⟨h1, h2, h3⟩
  · have hP : Hid (prepM a b = a) := by show _ = _; unfold prepM; rw [h1]; rfl
    have h1' : Hid _ := h1
    rw [h2]
    clear h1 h2 hE
    go_wp2
    go_ret
    exact ⟨by rw [h1'.out]; rfl, by rw [hP.out]; exact hA, But.of hbw⟩
  all_goals
    rw [h2]
    have h1' : Hid _ := h1
    clear h1 h2 hE
    go_wp2
    refine wp_region_plan (fun W => (Has W p 77 (accC a) ∧ Has W w.heap.size 31 (balC b)) ∧ Below w.heap.size w W) (Plan.of [(0, true), (1, true), (2, true), (3, true), (4, true), (5, false)] .done) (by kernel_rfl) (by kernel_rfl) (by kernel_rfl) (by kernel_rfl) ⟨⟨hA.drew, hB.drew⟩, hbw.drew⟩ ?_
    refine plan_take _ _ rfl (yields_bal b (by rfl) _ rfl w.heap.size rfl (fun _ h => h.1.2)) ?_
    try simp only [Act.put, List.setIfInBounds_toArray, List.set_cons_zero, List.set_cons_succ]
    iterate 3
      first
        | (refine plan_pass _ rfl (by rfl) ?_)
        | (refine plan_take _ _ rfl (.inl ⟨by rfl, fun W hS => by clear hS; go_simp; try with_reducible rfl⟩) ?_)
      try simp only [Act.put, List.setIfInBounds_toArray, List.set_cons_zero, List.set_cons_succ]
    refine plan_take _ _ rfl (yields_bal_mid a.pro (by rfl) _ rfl p 0 rfl (fun _ h => acc_pro h.1.1)) ?_
    try simp only [Act.put, List.setIfInBounds_toArray, List.set_cons_zero, List.set_cons_succ]
    refine plan_run _ rfl (fun K hK => ?_)
    go_simp
    refine (less_any b a.pro _ hb ha.pro).mono ?_
    rintro e w3 ⟨rfl, hq⟩
    have hA3 := hA.drew.later hq
    have hB3 := hB.drew.later hq
    have hb3 := hbw.drew.trans (hq.mono hbw.drew.size)
    refine hK.out _ _ ⟨⟨hA3, hB3⟩, hb3⟩ ?_
    clear hK K hq hA hB hbw
    refine plan_done ?_
    rw [h3]
    clear h3
  · have hP : Hid (prepM a b = a) := by show _ = _; unfold prepM; rw [h1'.out]; rfl
    go_wp2
    go_ret
    exact ⟨by rw [h1'.out]; rfl, by rw [hP.out]; exact hA3, But.of hb3⟩
  · have hP : Hid (prepM a b = { a with pro := b }) := by show _ = _; unfold prepM; rw [h1'.out]; rfl
    have ht : Hid (w3.there p 0 (balC b).size) := hA3.there 0 2 (by show 0 + 2 ≤ 7; omega)
    have hA4 := hA3.setPro b
    have hb4 := (But.of (p := p) hb3).trans (but_setCells (w := w3) (p := p) (balC b).toList 0)
    go_wp2_with (first
      | (refine load_bal b (by rfl) _ rfl w.heap.size rfl ?hg ?_; (case hg => exact hB3))
      | (refine wpList_store_mid' (by rfl) 31 _ _ rfl p 0 (balC b) rfl rfl ?hg (bal_size b) (bal_one b) ?_; (case hg => exact ht.out)))
    go_ret
    exact ⟨by rw [h1'.out]; rfl, by rw [hP.out]; exact hA4, hb4⟩
end Go.Proofs.Ythpmkhbkbpifkaa
