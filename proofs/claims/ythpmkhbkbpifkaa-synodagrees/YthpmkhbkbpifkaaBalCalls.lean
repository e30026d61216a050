/- The contracts of ballot's Prepare and Accept. -/
import Derived.Test.YthpmkhbkbpifkaaBalFace
namespace Go.Proofs.Ythpmkhbkbpifkaa
set_option linter.unusedSimpArgs false
set_option linter.unusedVariables false
set_option maxRecDepth 100000
open Go.RowKit

set_option maxHeartbeats 4000000 in
theorem prepare_any (p : Nat) (a : AccV) (b : BalV) (w : World) (h : Has w p 77 (accC a)) (ha : AccOk a) (hb : BalOk b) :
    Calls Try.prog 21 #[.pointer (some ⟨p, 0, none⟩), .agg (balC b)] w fun e w' => e = .returned (.tuple #[.agg (balC (tellB a b)), .agg (incC (tellX a b)), .bool (tellH a b), .int .i64 (errP a.pro b : Nat)]) ∧ Has w' p 77 (accC (prepM a b)) ∧ But p w w' := by
  obtain ⟨w1, hw1, hB, hR, hX, hbw⟩ := three_vars w 31 31 23 (balC b) (balC bal0) (incC inc0)
  have hlt := h.lt
  have hA := h.later hbw
  go_enter Try.func21, Try.ntmps21
  go_wp2_with (first
    | (refine alloc_bal (by rfl) rfl ?_)
    | (refine alloc_inc0 (by rfl) rfl ?_; rw [alloc_sz, hw1])
    | (refine load_bal b (by rfl) _ rfl w.heap.size rfl ?hg ?_; (case hg => exact hB)))
  refine (promise_any p a b _ hA ha hb).mono ?_
  rintro e w2 ⟨rfl, hA2, hq⟩
  replace hR := hq.has hR (by omega)
  replace hX := hq.has hX (by omega)
  replace hq := (But.of (p := p) hbw).trans hq
  have hsz : w.heap.size + 1 + 1 < w2.heap.size := hX.lt
  clear hA hB hbw hw1
  rcases errP_cases a.pro b with ⟨h1, _⟩ | ⟨h1, _⟩ | ⟨h1, _⟩
  · have hT : tellB a b = bal0 ∧ tellX a b = inc0 ∧ tellH a b = false := by unfold tellB tellX tellH; rw [h1]; exact ⟨rfl, rfl, rfl⟩
    replace hT : Hid _ := hT
    have hP : prepM a b = a := by unfold prepM; rw [h1]; rfl
    have hP' : Hid _ := hP
    rw [hP] at hA2
    have h1' : Hid _ := h1
    rw [h1]
    clear h1 hP
    have hR2 := (hR.row (balC bal0)).row_other (k := w.heap.size + 1 + 1) (by omega) (incC inc0)
    have hX1 := hX.row_other (k := w.heap.size + 1) (by omega) (balC bal0)
    have hX2 := hX1.row (incC inc0)
    have hA3 := (hA2.row_other (k := w.heap.size + 1) (by omega) (balC bal0)).row_other (k := w.heap.size + 1 + 1) (by omega) (incC inc0)
    have hbb := below_setRow (below_setRow (Below.refl w.heap.size w2) (show w.heap.size ≤ w.heap.size + 1 by omega) (balC bal0)) (show w.heap.size ≤ w.heap.size + 1 + 1 by omega) (incC inc0)
    have hq2 : But p w ((w2.setRow (w.heap.size + 1) (balC bal0)).setRow (w.heap.size + 1 + 1) (incC inc0)) := ⟨hbb.os.trans hq.os, hbb.tape.trans hq.tape, hbb.output.trans hq.output, Nat.le_trans hq.size hbb.size, fun k hk hn => (hbb.block k hk).trans (hq.block k hk hn)⟩
    go_wp2_with (first
      | (refine build_bal0 (by rfl) rfl ?_)
      | (refine build_inc0 (by rfl) rfl ?_)
      | (refine store_bal bal0 bal0 (by rfl) _ _ rfl (w.heap.size + 1) rfl rfl ?hg ?_; (case hg => exact hR))
      | (refine store_inc inc0 inc0 (by rfl) _ _ rfl (w.heap.size + 1 + 1) rfl rfl ?hg ?_; (case hg => exact hX1)))
    exact ret_has_22 rfl (w.heap.size + 1) (w.heap.size + 1 + 1) rfl rfl 31 23 (balC bal0) (incC inc0) _ _ Try.underlying31 rfl (bal_size _) Try.underlying23 rfl (inc_size _) hR2 hX2 _ _ rfl rfl rfl ⟨by rw [hT.out.1, hT.out.2.1, hT.out.2.2, h1'.out]; rfl, by rw [hP'.out]; exact hA3, hq2⟩
  · have hT : tellB a b = bal0 ∧ tellX a b = inc0 ∧ tellH a b = false := by unfold tellB tellX tellH; rw [h1]; exact ⟨rfl, rfl, rfl⟩
    replace hT : Hid _ := hT
    have hP : prepM a b = a := by unfold prepM; rw [h1]; rfl
    have hP' : Hid _ := hP
    rw [hP] at hA2
    have h1' : Hid _ := h1
    rw [h1]
    clear h1 hP
    have hR2 := (hR.row (balC bal0)).row_other (k := w.heap.size + 1 + 1) (by omega) (incC inc0)
    have hX1 := hX.row_other (k := w.heap.size + 1) (by omega) (balC bal0)
    have hX2 := hX1.row (incC inc0)
    have hA3 := (hA2.row_other (k := w.heap.size + 1) (by omega) (balC bal0)).row_other (k := w.heap.size + 1 + 1) (by omega) (incC inc0)
    have hbb := below_setRow (below_setRow (Below.refl w.heap.size w2) (show w.heap.size ≤ w.heap.size + 1 by omega) (balC bal0)) (show w.heap.size ≤ w.heap.size + 1 + 1 by omega) (incC inc0)
    have hq2 : But p w ((w2.setRow (w.heap.size + 1) (balC bal0)).setRow (w.heap.size + 1 + 1) (incC inc0)) := ⟨hbb.os.trans hq.os, hbb.tape.trans hq.tape, hbb.output.trans hq.output, Nat.le_trans hq.size hbb.size, fun k hk hn => (hbb.block k hk).trans (hq.block k hk hn)⟩
    go_wp2_with (first
      | (refine build_bal0 (by rfl) rfl ?_)
      | (refine build_inc0 (by rfl) rfl ?_)
      | (refine store_bal bal0 bal0 (by rfl) _ _ rfl (w.heap.size + 1) rfl rfl ?hg ?_; (case hg => exact hR))
      | (refine store_inc inc0 inc0 (by rfl) _ _ rfl (w.heap.size + 1 + 1) rfl rfl ?hg ?_; (case hg => exact hX1)))
    exact ret_has_22 rfl (w.heap.size + 1) (w.heap.size + 1 + 1) rfl rfl 31 23 (balC bal0) (incC inc0) _ _ Try.underlying31 rfl (bal_size _) Try.underlying23 rfl (inc_size _) hR2 hX2 _ _ rfl rfl rfl ⟨by rw [hT.out.1, hT.out.2.1, hT.out.2.2, h1'.out]; rfl, by rw [hP'.out]; exact hA3, hq2⟩
  · have hT : tellB a b = a.acc ∧ tellX a b = a.inc ∧ tellH a b = hasA a := by unfold tellB tellX tellH; rw [h1]; exact ⟨rfl, rfl, rfl⟩
    replace hT : Hid _ := hT
    have hP : prepM a b = { a with pro := b } := by unfold prepM; rw [h1]; rfl
    have hP' : Hid _ := hP
    have hok := prepM_ok (b := b) ha hb
    rw [hP] at hA2 hok
    have h1' : Hid _ := h1
    rw [h1]
    clear h1 hP
    go_wp2_with fail
    refine (accepted_any p _ _ hA2 hok).mono ?_
    rintro e w3 ⟨rfl, hq3⟩
    replace hR := hR.later hq3
    replace hX := hX.later hq3
    replace hA2 := hA2.later hq3
    replace hq := hq.later hq3
    have hsz3 := hX.lt
    clear hq3 hsz
    show _
    have hAa : hasA { a with pro := b } = hasA a := rfl
    rw [hAa]
    obtain ⟨w4, hw4, hL, hM, hb4⟩ := two_vars w3 31 23 (balC bal0) (incC inc0)
    have hL5 := (hL.row (balC a.acc)).row_other (k := w3.heap.size + 1) (by omega) (incC a.inc)
    have hM4 := hM.row_other (k := w3.heap.size) (by omega) (balC a.acc)
    have hM5 := hM4.row (incC a.inc)
    have hb5 := below_setRow (below_setRow hb4 (Nat.le_refl w3.heap.size) (balC a.acc)) (show w3.heap.size ≤ w3.heap.size + 1 by omega) (incC a.inc)
    obtain ⟨w5, hw5⟩ : ∃ W, (w4.setRow w3.heap.size (balC a.acc)).setRow (w3.heap.size + 1) (incC a.inc) = W := ⟨_, rfl⟩
    rw [hw5] at hL5 hM5 hb5
    go_wp2_with (first
      | (refine alloc_bal (by rfl) rfl ?_)
      | (refine alloc_inc0 (by rfl) rfl ?_; rw [alloc_sz, hw4])
      | (refine store_bal a.acc bal0 (by rfl) _ _ rfl w3.heap.size rfl rfl ?hg ?_; (case hg => exact hL))
      | (refine store_inc a.inc inc0 (by rfl) _ _ rfl (w3.heap.size + 1) rfl rfl ?hg ?_; (case hg => exact hM4); rw [hw5]))
    replace hR := hR.later hb5
    replace hX := hX.later hb5
    replace hA2 := hA2.later hb5
    replace hq := hq.later hb5
    clear hM4 hL hM hb4 hw4 hw5
    have hL6 := hL5.drew.row_other (k := w.heap.size + 1) (by omega) (balC a.acc)
    have hM6 := hM5.drew.row_other (k := w.heap.size + 1) (by omega) (balC a.acc)
    have hL7 := hL6.row_other (k := w.heap.size + 1 + 1) (by omega) (incC a.inc)
    have hM7 := hM6.row_other (k := w.heap.size + 1 + 1) (by omega) (incC a.inc)
    have hX6 := hX.drew.row_other (k := w.heap.size + 1) (by omega) (balC a.acc)
    have hX7 := hX6.row (incC a.inc)
    have hR7 := (hR.drew.row (balC a.acc)).row_other (k := w.heap.size + 1 + 1) (by omega) (incC a.inc)
    have hA7 := (hA2.drew.row_other (k := w.heap.size + 1) (by omega) (balC a.acc)).row_other (k := w.heap.size + 1 + 1) (by omega) (incC a.inc)
    have hbb := below_setRow (below_setRow ((Below.refl w.heap.size w5).drew) (show w.heap.size ≤ w.heap.size + 1 by omega) (balC a.acc)) (show w.heap.size ≤ w.heap.size + 1 + 1 by omega) (incC a.inc)
    have hq7 : But p w ((w5.drew.setRow (w.heap.size + 1) (balC a.acc)).setRow (w.heap.size + 1 + 1) (incC a.inc)) := ⟨hbb.os.trans hq.os, hbb.tape.trans hq.tape, hbb.output.trans hq.output, Nat.le_trans hq.size hbb.size, fun k hk hn => (hbb.block k hk).trans (hq.block k hk hn)⟩
    refine wp_region_plan (fun W => Has W w3.heap.size 31 (balC a.acc) ∧ Has W (w3.heap.size + 1) 23 (incC a.inc)) (Plan.of [(0, true), (1, true), (2, true), (3, false), (4, false), (5, true), (6, true)] .done) (by kernel_rfl) (by kernel_rfl) (by kernel_rfl) (by kernel_rfl) ⟨hL5.drew, hM5.drew⟩ ?_
    refine plan_take _ _ rfl (yields_bal a.acc (by rfl) _ rfl w3.heap.size rfl (fun _ h => h.1)) ?_
    try simp only [Act.put, List.setIfInBounds_toArray, List.set_cons_zero, List.set_cons_succ]
    refine plan_take _ _ rfl (yields_inc a.inc (by rfl) _ rfl (w3.heap.size + 1) rfl (fun _ h => h.2)) ?_
    try simp only [Act.put, List.setIfInBounds_toArray, List.set_cons_zero, List.set_cons_succ]
    iterate 1
      first
        | (refine plan_pass _ rfl (by rfl) ?_)
        | (refine plan_take _ _ rfl (.inl ⟨by rfl, fun W hS => by clear hS; go_simp; try with_reducible rfl⟩) ?_)
      try simp only [Act.put, List.setIfInBounds_toArray, List.set_cons_zero, List.set_cons_succ]
    refine plan_store_has _ rfl (by rfl) 31 _ _ rfl (w.heap.size + 1) rfl (balC a.acc) rfl 31 (balC bal0) (bal_size _) rfl (bal_one _) hR.drew ⟨hL6, hM6⟩ ?_
    try simp only [Act.put, List.setIfInBounds_toArray, List.set_cons_zero, List.set_cons_succ]
    refine plan_store_has _ rfl (by rfl) 23 _ _ rfl (w.heap.size + 1 + 1) rfl (incC a.inc) rfl 23 (incC inc0) (inc_size _) rfl (inc_one _) hX6 ⟨hL7, hM7⟩ ?_
    try simp only [Act.put, List.setIfInBounds_toArray, List.set_cons_zero, List.set_cons_succ]
    iterate 2
      first
        | (refine plan_pass _ rfl (by rfl) ?_)
        | (refine plan_take _ _ rfl (.inl ⟨by rfl, fun W hS => by clear hS; go_simp; try with_reducible rfl⟩) ?_)
      try simp only [Act.put, List.setIfInBounds_toArray, List.set_cons_zero, List.set_cons_succ]
    refine plan_done ?_
    go_wp2
    exact ret_has_22 rfl (w.heap.size + 1) (w.heap.size + 1 + 1) rfl rfl 31 23 (balC a.acc) (incC a.inc) _ _ Try.underlying31 rfl (bal_size _) Try.underlying23 rfl (inc_size _) hR7 hX7 _ _ rfl rfl rfl ⟨by rw [hT.out.1, hT.out.2.1, hT.out.2.2, h1'.out]; rfl, by rw [hP'.out]; exact hA7, hq7⟩

set_option maxHeartbeats 4000000 in
theorem accept_any (p : Nat) (a : AccV) (b : BalV) (x : IncV) (w : World) (h : Has w p 77 (accC a)) (ha : AccOk a) (hb : BalOk b) (hx : IncOk x) :
    Calls Try.prog 22 #[.pointer (some ⟨p, 0, none⟩), .agg (balC b), .agg (incC x)] w fun e w' => e = .returned (.int .i64 (errA a.pro b x : Nat)) ∧ Has w' p 77 (accC (accM a b x)) ∧ But p w w' := by
  obtain ⟨w1, hw1, hB, hX, hbw⟩ := two_vars w 31 23 (balC b) (incC x)
  have hlt := h.lt
  have hA := h.later hbw
  go_enter Try.func22, Try.ntmps22
  go_wp2_with (first
    | (refine load_inc x (by rfl) _ rfl (w.heap.size + 1) rfl ?hg ?_; (case hg => exact hX)))
  refine (isinc_any x _ hx).mono ?_
  rintro e w2 ⟨rfl, hq⟩
  replace hA := hA.later hq
  replace hB := hB.later hq
  replace hX := hX.later hq
  replace hbw := hbw.trans (hq.mono hbw.size)
  clear hq hw1
  cases hi : isInc x with
  | false =>
    have hE : errA a.pro b x = 10 := by unfold errA; rw [hi]; rfl
    have hM : accM a b x = a := by unfold accM; rw [hE]; rfl
    replace hE : Hid _ := hE
    replace hM : Hid _ := hM
    clear hi
    go_wp2
    go_ret
    exact ⟨by rw [hE.out]; rfl, by rw [hM.out]; exact hA, But.of hbw⟩
  | true =>
    have hE : errA a.pro b x = errP a.pro b := by unfold errA; rw [hi]; rfl
    have hM : accM a b x = if errP a.pro b = 0 then ⟨b, b, x⟩ else a := by unfold accM; rw [hE]
    replace hE : Hid _ := hE
    replace hM : Hid _ := hM
    clear hi
    go_wp2_with (first
      | (refine load_bal b (by rfl) _ rfl w.heap.size rfl ?hg ?_; (case hg => exact hB)))
    refine (promise_any p a b _ hA ha hb).mono ?_
    rintro e w3 ⟨rfl, hA3, hq⟩
    replace hB := hq.has hB (by omega)
    replace hX := hq.has hX (by omega)
    replace hq := (But.of (p := p) hbw).trans hq
    clear hA hbw
    rcases errP_cases a.pro b with ⟨h1, _⟩ | ⟨h1, _⟩ | ⟨h1, _⟩
    · have hP : prepM a b = a := by unfold prepM; rw [h1]; rfl
      rw [hP] at hA3
      have h1' : Hid _ := h1
      rw [h1]
      clear h1 hP
      go_wp2
      go_ret
      exact ⟨by rw [hE.out, h1'.out]; rfl, by rw [hM.out, h1'.out]; exact hA3, hq⟩
    · have hP : prepM a b = a := by unfold prepM; rw [h1]; rfl
      rw [hP] at hA3
      have h1' : Hid _ := h1
      rw [h1]
      clear h1 hP
      go_wp2
      go_ret
      exact ⟨by rw [hE.out, h1'.out]; rfl, by rw [hM.out, h1'.out]; exact hA3, hq⟩
    · have hP : prepM a b = { a with pro := b } := by unfold prepM; rw [h1]; rfl
      rw [hP] at hA3
      have h1' : Hid _ := h1
      rw [h1]
      clear h1 hP
      have hBd := hB.drew.cells_other (k := p) (by omega) (balC b).toList 2
      have hXd := hX.drew.cells_other (k := p) (by omega) (balC b).toList 2
      have hBe := hBd.cells_other (k := p) (by omega) (incC x).toList 4
      have hXe := hXd.cells_other (k := p) (by omega) (incC x).toList 4
      have hA4 := hA3.drew.setAcc b
      have hA5 := hA4.setInc x
      have hq5 := (hq.trans (But.of (p := p) ((Below.refl w3.heap.size w3).drew))).trans ((but_setCells (w := w3.drew) (p := p) (balC b).toList 2).trans (but_setCells (p := p) (incC x).toList 4))
      go_wp2
      refine wp_region_plan (fun W => Has W w.heap.size 31 (balC b) ∧ Has W (w.heap.size + 1) 23 (incC x)) (Plan.of [(0, true), (1, true), (2, true), (3, true), (4, true), (5, true), (6, false), (7, true), (8, true), (9, false)] .done) (by kernel_rfl) (by kernel_rfl) (by kernel_rfl) (by kernel_rfl) ⟨hB.drew, hX.drew⟩ ?_
      iterate 2
        first
          | (refine plan_pass _ rfl (by rfl) ?_)
          | (refine plan_take _ _ rfl (.inl ⟨by rfl, fun W hS => by clear hS; go_simp; try with_reducible rfl⟩) ?_)
        try simp only [Act.put, List.setIfInBounds_toArray, List.set_cons_zero, List.set_cons_succ]
      refine plan_take _ _ rfl (yields_bal b (by rfl) _ rfl w.heap.size rfl (fun _ h => h.1)) ?_
      try simp only [Act.put, List.setIfInBounds_toArray, List.set_cons_zero, List.set_cons_succ]
      refine plan_take _ _ rfl (yields_inc x (by rfl) _ rfl (w.heap.size + 1) rfl (fun _ h => h.2)) ?_
      try simp only [Act.put, List.setIfInBounds_toArray, List.set_cons_zero, List.set_cons_succ]
      iterate 2
        first
          | (refine plan_pass _ rfl (by rfl) ?_)
          | (refine plan_take _ _ rfl (.inl ⟨by rfl, fun W hS => by clear hS; go_simp; try with_reducible rfl⟩) ?_)
        try simp only [Act.put, List.setIfInBounds_toArray, List.set_cons_zero, List.set_cons_succ]
      refine plan_store_mid rfl (by rfl) 31 _ _ rfl p 2 (balC b) rfl rfl (hA3.drew.there 2 2 (by show 2 + 2 ≤ 7; omega)) (bal_size b) (bal_one b) ⟨hBd, hXd⟩ ?_
      try simp only [Act.put, List.setIfInBounds_toArray, List.set_cons_zero, List.set_cons_succ]
      iterate 2
        first
          | (refine plan_pass _ rfl (by rfl) ?_)
          | (refine plan_take _ _ rfl (.inl ⟨by rfl, fun W hS => by clear hS; go_simp; try with_reducible rfl⟩) ?_)
        try simp only [Act.put, List.setIfInBounds_toArray, List.set_cons_zero, List.set_cons_succ]
      refine plan_store_mid rfl (by rfl) 23 _ _ rfl p 4 (incC x) rfl rfl (hA4.there 4 3 (by show 4 + 3 ≤ 7; omega)) (inc_size x) (inc_one x) ⟨hBe, hXe⟩ ?_
      try simp only [Act.put, List.setIfInBounds_toArray, List.set_cons_zero, List.set_cons_succ]
      refine plan_done ?_
      go_wp2
      go_ret
      exact ⟨by rw [hE.out, h1'.out]; rfl, by rw [hM.out, h1'.out]; exact hA5, hq5⟩
end Go.Proofs.Ythpmkhbkbpifkaa
