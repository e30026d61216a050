/- paddocklaw10.BallotNone returns true, for whatever numbers and increment. -/
import Derived.Test.YtlcappkokdgpgaaBalKnown
import Derived.Test.YtlcappkokdgpgaaVal32
namespace Go.Proofs.Ytlcappkokdgpgaa
set_option linter.unusedSimpArgs false
set_option linter.unusedVariables false
set_option maxRecDepth 100000
open Go.RowKit

theorem none_err (b : BalV) : (isB b = true ∧ errP acc0.pro b = 0 ∧ prepM acc0 b = ⟨b, bal0, inc0⟩) ∨ (isB b = false ∧ errP acc0.pro b = 10 ∧ prepM acc0 b = acc0) := by
  have hl : lessB b acc0.pro = false := by
    show lessB b bal0 = false
    refine decide_eq_false ?_
    show ¬ (b.n < 0 ∨ (b.n = 0 ∧ b.who < 0))
    omega
  have hE : errP acc0.pro b = if isB b = true then 0 else 10 := by
    unfold errP
    rw [hl]
    rfl
  cases hb : isB b with
  | true =>
    have : errP acc0.pro b = 0 := by rw [hE, hb]; rfl
    exact .inl ⟨rfl, this, by unfold prepM; rw [if_pos this]; rfl⟩
  | false =>
    have : errP acc0.pro b = 10 := by rw [hE, hb]; rfl
    exact .inr ⟨rfl, this, by unfold prepM; rw [this]; rfl⟩
theorem none_tells (b : BalV) : tellB acc0 b = bal0 ∧ tellX acc0 b = inc0 ∧ tellH acc0 b = false := by
  unfold tellB tellX tellH
  refine ⟨?_, ?_, ?_⟩ <;> split <;> rfl
theorem no77 (o : Nat) (n : Int) : isInc ⟨77, o, n⟩ = false := by
  rw [isInc_of, decide_eq_false_iff_not]
  omega

set_option maxHeartbeats 8000000 in
theorem none_walk (k n : Nat) (x : IncV) (w : World) (hk : k < 256) (hn : n < 4294967296) (hx : IncOk x) :
    Calls Try.prog 7 #[.int .u8 (k : Int), .int .u32 (n : Int), .agg (incC x)] w fun e w' => e = .returned (.bool true) ∧ Below w.heap.size w w' := by
  obtain ⟨w1, hw1, hX, hbw⟩ := one_var w 31 (incC x)
  obtain ⟨m, hm⟩ : ∃ m, n % 3 = m := ⟨_, rfl⟩
  have hm3 : m < 3 := by omega
  replace hm : Hid _ := hm
  have hbo : BalOk ⟨m, k⟩ := ⟨by show m < _; omega, hk⟩
  go_enter Try.func7, Try.ntmps7
  go_wp2_with fail
  refine (bknown_any _).mono ?_
  rintro e w2 ⟨rfl, hq⟩
  replace hX := hX.later hq
  replace hbw := hbw.trans (hq.mono hbw.size)
  clear hq hw1
  have hXlt := hX.lt
  go_wp2_with fail
  refine (bnew_any _).mono ?_
  rintro e w3 ⟨p, rfl, hp, hA, hq⟩
  replace hX := hX.later hq
  have hpX : w.heap.size ≠ p := by omega
  replace hp : w.heap.size ≤ p := by omega
  replace hbw := hbw.trans (hq.mono hbw.size)
  have hplt := hA.lt
  clear hq hXlt
  obtain ⟨w4, hw4, hB, hq⟩ := new_var w3 29 (balC bal0) (balC ⟨m, k⟩)
  replace hX := hX.later hq
  replace hA := hA.later hq
  replace hbw := hbw.trans (hq.mono hbw.size)
  clear hq
  obtain ⟨c0, c1⟩ := bal_cells hB
  have hc := prepare_any p acc0 ⟨m, k⟩ w4 hA acc0_ok hbo
  obtain ⟨t1, t2, t3⟩ := none_tells ⟨m, k⟩
  rw [t1, t2, t3] at hc
  clear t1 t2 t3
  have hcase : (0 < m ∧ k < 3) ∨ m = 0 ∨ (0 < m ∧ 3 ≤ k) := by omega
  have hN : Hid _ := none_err ⟨m, k⟩
  obtain ⟨E, hE⟩ : ∃ E, errP acc0.pro ⟨m, k⟩ = E := ⟨_, rfl⟩
  obtain ⟨A2, hA2e⟩ : ∃ A, prepM acc0 ⟨m, k⟩ = A := ⟨_, rfl⟩
  rw [hE, hA2e] at hc
  replace hE : Hid _ := hE
  replace hA2e : Hid _ := hA2e
  obtain ⟨okv, hokv⟩ : ∃ b, isB ⟨m, k⟩ = b := ⟨_, rfl⟩
  replace hokv : Hid _ := hokv
  have hgo : ∀ (w5 : World) (b : Bool), Has w5 p 56 (accC A2) → True := fun _ _ _ => trivial
  clear hgo
  rcases hcase with ⟨h1, h2⟩ | h1 | ⟨h1, h2⟩
  · have hi : isB ⟨m, k⟩ = true := (isB_is _).2 ⟨h1, h2⟩
    have hEA : E = 0 ∧ A2 = ⟨⟨m, k⟩, bal0, inc0⟩ := by
      rcases hN.out with ⟨_, q1, q2⟩ | ⟨q0, _⟩
      · exact ⟨hE.out.symm.trans q1, hA2e.out.symm.trans q2⟩
      · rw [hi] at q0; cases q0
    obtain ⟨rfl, rfl⟩ := hEA
    have h1I : (0 : Int) < (m : Int) := by omega
    have h2I : (k : Int) < 3 := by omega
    have h1d : decide ((0 : Int) < (m : Int)) = true := decide_eq_true h1I
    have hs : Hid (sameBal ⟨m, k⟩ ⟨m, k⟩ = true) := (sameBal_is _ _).2 rfl
    have hok2 : AccOk ⟨⟨m, k⟩, bal0, inc0⟩ := ⟨hbo, bal0_ok, inc0_ok⟩
    clear hi hN hE hA2e hokv h1 h2
    go_wp2_with (first
      | (refine wpList_val (.int .u32 (_ : Int)) (by rfl) (run_rem_n32 _ _ _ _ rfl n 3 _ rfl rfl hn (by decide) hm.out) ?_)
      | (refine wpList_build_two (by rfl) 29 0 1 _ _ rfl _ _ rfl rfl _ (bal_built2 _ _) ?_)
      | (refine alloc_bal (by rfl) rfl ?_)
      | (refine store_bal _ bal0 (by rfl) _ _ rfl w3.heap.size rfl rfl ?hg ?_; (case hg => exact Has.new _ _ _); rw [hw4])
      | (refine load_bal _ (by rfl) _ rfl w3.heap.size rfl ?hg ?_; (case hg => exact hB)))
    refine hc.mono ?_
    rintro e w5 ⟨rfl, hA5, hq⟩
    replace hX := hq.has hX hpX
    replace hB := hq.has hB (by omega)
    replace hbw := hbw.trans (hq.below hp hbw.size)
    have hplt5 := hA5.lt
    have hsz5 := hB.lt
    clear hc hq c0 c1 hw4 hA
    obtain ⟨w6, hw6, hL, hM, w7, hw7, _, _, hq⟩ := two_filled w5 bal0 inc0
    replace hX := hX.later hq
    replace hB := hB.later hq
    replace hA5 := hA5.later hq
    replace hbw := hbw.trans (hq.mono hbw.size)
    clear hq
    obtain ⟨c0, c1⟩ := bal_cells hB
    go_wp2_with (first
      | (refine alloc_bal (by rfl) rfl ?_)
      | (refine alloc_inc0 (by rfl) rfl ?_; rw [alloc_sz, hw6])
      | (refine store_bal bal0 bal0 (by rfl) _ _ rfl w5.heap.size rfl rfl ?hg ?_; (case hg => exact hL))
      | (refine store_inc inc0 inc0 (by rfl) _ _ rfl (w5.heap.size + 1) rfl rfl ?hg ?_; (case hg => exact hM); rw [hw7]))
    clear hL hM hw6 hw7
    have hS : (Has w7.drew p 56 (accC ⟨⟨m, k⟩, bal0, inc0⟩) ∧ Has w7.drew w3.heap.size 29 (balC _) ∧ Has w7.drew w.heap.size 31 (incC x)) ∧ Below w.heap.size w w7.drew := ⟨⟨hA5.drew, hB.drew, hX.drew⟩, hbw.drew⟩
    refine wp_region_plan (fun W => (Has W p 56 (accC ⟨⟨m, k⟩, bal0, inc0⟩) ∧ Has W w3.heap.size 29 (balC _) ∧ Has W w.heap.size 31 (incC x)) ∧ Below w.heap.size w W) (Plan.of [(0, true), (1, true), (2, true), (3, true), (4, true), (5, true), (6, true), (7, true), (8, true), (9, true), (11, true), (10, false), (12, true), (13, true), (14, true), (15, true), (16, true), (17, true), (18, true), (19, true)] .done) (by kernel_rfl) (by kernel_rfl) (by kernel_rfl) (by kernel_rfl) hS ?_
    iterate 10
      first
        | (refine plan_pass _ rfl (by rfl) ?_)
        | (refine plan_take _ _ rfl (.inl ⟨by rfl, fun W hS => by clear hS; go_simp; try with_reducible rfl⟩) ?_)
      try simp only [Act.put, List.setIfInBounds_toArray, List.set_cons_zero, List.set_cons_succ]
    refine plan_take _ _ rfl (yields_bal _ (by rfl) _ rfl w3.heap.size rfl (fun _ h => h.1.2.1)) ?_
    try simp only [Act.put, List.setIfInBounds_toArray, List.set_cons_zero, List.set_cons_succ]
    refine plan_run _ rfl (fun K hK => ?_)
    go_simp
    refine (promised_any p _ _ hS.1.1).mono ?_
    rintro e w8 ⟨rfl, hq⟩
    replace hS : (Has w8 p 56 (accC ⟨⟨m, k⟩, bal0, inc0⟩) ∧ Has w8 w3.heap.size 29 (balC _) ∧ Has w8 w.heap.size 31 (incC x)) ∧ Below w.heap.size w w8 := ⟨⟨hS.1.1.later hq, hS.1.2.1.later hq, hS.1.2.2.later hq⟩, hS.2.trans (hq.mono hS.2.size)⟩
    refine hK.out _ _ hS ?_
    clear hK K hq hA5 hB hX hbw c0 c1
    refine plan_take _ _ rfl (yields_bal_eq (⟨m, k⟩) _ hok2.pro hbo (by rfl) _ _ _ rfl rfl rfl) ?_
    rw [hs.out]
    try simp only [Act.put, List.setIfInBounds_toArray, List.set_cons_zero, List.set_cons_succ]
    iterate 2
      first
        | (refine plan_pass _ rfl (by rfl) ?_)
        | (refine plan_take _ _ rfl (.inl ⟨by rfl, fun W hS => by clear hS; go_simp; try with_reducible rfl⟩) ?_)
      try simp only [Act.put, List.setIfInBounds_toArray, List.set_cons_zero, List.set_cons_succ]
    iterate 1
      first
        | (refine plan_pass _ rfl (by rfl) ?_)
        | (refine plan_take _ _ rfl (.inl ⟨by rfl, fun W hS => by obtain ⟨z0, z1⟩ := bal_cells hS.1.2.1; go_simp; try with_reducible rfl⟩) ?_)
      try simp only [Act.put, List.setIfInBounds_toArray, List.set_cons_zero, List.set_cons_succ]
    iterate 4
      first
        | (refine plan_pass _ rfl (by rfl) ?_)
        | (refine plan_take _ _ rfl (.inl ⟨by rfl, fun W hS => by clear hS; go_simp; try with_reducible rfl⟩) ?_)
      try simp only [Act.put, List.setIfInBounds_toArray, List.set_cons_zero, List.set_cons_succ]
    refine plan_done ?_
    obtain ⟨⟨hA8, hB8, hX8⟩, hb8⟩ := hS
    have x1 := (hX8.cell 1).trans (show _ = some (.int .u8 (x.osd : Int)) from rfl)
    have hc := accept_any p _ ⟨5, 0⟩ ⟨77, x.osd, 0⟩ w8 hA8 hok2 ⟨by decide, by decide⟩ ⟨by show 77 < 256; decide, hx.osd, by show (-9223372036854775808 : Int) ≤ 0; decide, by show (0 : Int) ≤ 9223372036854775807; decide⟩
    rw [show errA _ ⟨5, 0⟩ ⟨77, x.osd, 0⟩ = 10 by unfold errA; rw [no77]; rfl, show ∀ a : AccV, accM a ⟨5, 0⟩ ⟨77, x.osd, 0⟩ = a from fun a => by unfold accM errA; rw [no77]; rfl] at hc
    go_wp2_with (first
      | (refine wpList_build_one (by rfl) 29 0 _ rfl _ rfl (balC ⟨5, 0⟩) (bal_b1 5) ?_)
      | (refine wpList_build_two (by rfl) 31 0 1 _ _ rfl _ _ rfl rfl (incC ⟨77, x.osd, 0⟩) (inc_b2 77 x.osd) ?_))
    refine hc.mono ?_
    rintro e w9 ⟨rfl, hA9, hq⟩
    replace hb8 := hb8.trans (hq.below hp hb8.size)
    clear hc hq x1 hA8 hB8 hX8
    have hc := accepted_any p _ w9 hA9 hok2
    go_wp2_with fail
    refine hc.mono ?_
    rintro e w10 ⟨rfl, hq⟩
    replace hb8 := hb8.trans (hq.mono hb8.size)
    clear hc hq hA9
    obtain ⟨w11, hw11, hL, hM, w12, hw12, _, _, hq⟩ := two_filled w10 bal0 inc0
    replace hb8 := hb8.trans (hq.mono hb8.size)
    clear hq
    go_wp2_with (first
      | (refine alloc_bal (by rfl) rfl ?_)
      | (refine alloc_inc0 (by rfl) rfl ?_; rw [alloc_sz, hw11])
      | (refine store_bal bal0 bal0 (by rfl) _ _ rfl w10.heap.size rfl rfl ?hg ?_; (case hg => exact hL))
      | (refine store_inc inc0 inc0 (by rfl) _ _ rfl (w10.heap.size + 1) rfl rfl ?hg ?_; (case hg => exact hM); rw [hw12]))
    go_ret
    exact ⟨rfl, hb8⟩
  · subst h1
    have hi : isB ⟨0, k⟩ = false := by rw [← Bool.not_eq_true, isB_is]; show ¬ (0 < 0 ∧ _); omega
    have hEA : E = 10 ∧ A2 = acc0 := by
      rcases hN.out with ⟨q0, _⟩ | ⟨_, q1, q2⟩
      · rw [hi] at q0; cases q0
      · exact ⟨hE.out.symm.trans q1, hA2e.out.symm.trans q2⟩
    obtain ⟨rfl, rfl⟩ := hEA
    have hok2 : AccOk acc0 := acc0_ok
    clear hi hN hE hA2e hokv
    by_cases hk0 : k = 0
    · subst hk0
      have hs : Hid (sameBal bal0 ⟨0, 0⟩ = true) := (sameBal_is _ _).2 rfl
      go_wp2_with (first
        | (refine wpList_val (.int .u32 (_ : Int)) (by rfl) (run_rem_n32 _ _ _ _ rfl n 3 _ rfl rfl hn (by decide) hm.out) ?_)
        | (refine wpList_build_two (by rfl) 29 0 1 _ _ rfl _ _ rfl rfl _ (bal_built2 _ _) ?_)
        | (refine alloc_bal (by rfl) rfl ?_)
        | (refine store_bal _ bal0 (by rfl) _ _ rfl w3.heap.size rfl rfl ?hg ?_; (case hg => exact Has.new _ _ _); rw [hw4])
        | (refine load_bal _ (by rfl) _ rfl w3.heap.size rfl ?hg ?_; (case hg => exact hB)))
      refine hc.mono ?_
      rintro e w5 ⟨rfl, hA5, hq⟩
      replace hX := hq.has hX hpX
      replace hB := hq.has hB (by omega)
      replace hbw := hbw.trans (hq.below hp hbw.size)
      have hplt5 := hA5.lt
      have hsz5 := hB.lt
      clear hc hq c0 c1 hw4 hA
      obtain ⟨w6, hw6, hL, hM, w7, hw7, _, _, hq⟩ := two_filled w5 bal0 inc0
      replace hX := hX.later hq
      replace hB := hB.later hq
      replace hA5 := hA5.later hq
      replace hbw := hbw.trans (hq.mono hbw.size)
      clear hq
      obtain ⟨c0, c1⟩ := bal_cells hB
      go_wp2_with (first
        | (refine alloc_bal (by rfl) rfl ?_)
        | (refine alloc_inc0 (by rfl) rfl ?_; rw [alloc_sz, hw6])
        | (refine store_bal bal0 bal0 (by rfl) _ _ rfl w5.heap.size rfl rfl ?hg ?_; (case hg => exact hL))
        | (refine store_inc inc0 inc0 (by rfl) _ _ rfl (w5.heap.size + 1) rfl rfl ?hg ?_; (case hg => exact hM); rw [hw7]))
      clear hL hM hw6 hw7
      have hS : (Has w7.drew p 56 (accC acc0) ∧ Has w7.drew w3.heap.size 29 (balC _) ∧ Has w7.drew w.heap.size 31 (incC x)) ∧ Below w.heap.size w w7.drew := ⟨⟨hA5.drew, hB.drew, hX.drew⟩, hbw.drew⟩
      refine wp_region_plan (fun W => (Has W p 56 (accC acc0) ∧ Has W w3.heap.size 29 (balC _) ∧ Has W w.heap.size 31 (incC x)) ∧ Below w.heap.size w W) (Plan.of [(0, true), (1, true), (2, true), (3, true), (4, true), (5, true), (6, true), (7, true), (8, true), (9, true), (11, true), (10, false), (12, true), (13, true), (14, true), (15, true), (16, true), (17, true), (18, true), (19, true)] .done) (by kernel_rfl) (by kernel_rfl) (by kernel_rfl) (by kernel_rfl) hS ?_
      iterate 10
        first
          | (refine plan_pass _ rfl (by rfl) ?_)
          | (refine plan_take _ _ rfl (.inl ⟨by rfl, fun W hS => by clear hS; go_simp; try with_reducible rfl⟩) ?_)
        try simp only [Act.put, List.setIfInBounds_toArray, List.set_cons_zero, List.set_cons_succ]
      refine plan_take _ _ rfl (yields_bal _ (by rfl) _ rfl w3.heap.size rfl (fun _ h => h.1.2.1)) ?_
      try simp only [Act.put, List.setIfInBounds_toArray, List.set_cons_zero, List.set_cons_succ]
      refine plan_run _ rfl (fun K hK => ?_)
      go_simp
      refine (promised_any p _ _ hS.1.1).mono ?_
      rintro e w8 ⟨rfl, hq⟩
      replace hS : (Has w8 p 56 (accC acc0) ∧ Has w8 w3.heap.size 29 (balC _) ∧ Has w8 w.heap.size 31 (incC x)) ∧ Below w.heap.size w w8 := ⟨⟨hS.1.1.later hq, hS.1.2.1.later hq, hS.1.2.2.later hq⟩, hS.2.trans (hq.mono hS.2.size)⟩
      refine hK.out _ _ hS ?_
      clear hK K hq hA5 hB hX hbw c0 c1
      refine plan_take _ _ rfl (yields_bal_eq (bal0) _ hok2.pro hbo (by rfl) _ _ _ rfl rfl rfl) ?_
      rw [hs.out]
      try simp only [Act.put, List.setIfInBounds_toArray, List.set_cons_zero, List.set_cons_succ]
      iterate 2
        first
          | (refine plan_pass _ rfl (by rfl) ?_)
          | (refine plan_take _ _ rfl (.inl ⟨by rfl, fun W hS => by clear hS; go_simp; try with_reducible rfl⟩) ?_)
        try simp only [Act.put, List.setIfInBounds_toArray, List.set_cons_zero, List.set_cons_succ]
      iterate 1
        first
          | (refine plan_pass _ rfl (by rfl) ?_)
          | (refine plan_take _ _ rfl (.inl ⟨by rfl, fun W hS => by obtain ⟨z0, z1⟩ := bal_cells hS.1.2.1; go_simp; try with_reducible rfl⟩) ?_)
        try simp only [Act.put, List.setIfInBounds_toArray, List.set_cons_zero, List.set_cons_succ]
      iterate 4
        first
          | (refine plan_pass _ rfl (by rfl) ?_)
          | (refine plan_take _ _ rfl (.inl ⟨by rfl, fun W hS => by clear hS; go_simp; try with_reducible rfl⟩) ?_)
        try simp only [Act.put, List.setIfInBounds_toArray, List.set_cons_zero, List.set_cons_succ]
      refine plan_done ?_
      obtain ⟨⟨hA8, hB8, hX8⟩, hb8⟩ := hS
      have x1 := (hX8.cell 1).trans (show _ = some (.int .u8 (x.osd : Int)) from rfl)
      have hc := accept_any p _ ⟨5, 0⟩ ⟨77, x.osd, 0⟩ w8 hA8 hok2 ⟨by decide, by decide⟩ ⟨by show 77 < 256; decide, hx.osd, by show (-9223372036854775808 : Int) ≤ 0; decide, by show (0 : Int) ≤ 9223372036854775807; decide⟩
      rw [show errA _ ⟨5, 0⟩ ⟨77, x.osd, 0⟩ = 10 by unfold errA; rw [no77]; rfl, show ∀ a : AccV, accM a ⟨5, 0⟩ ⟨77, x.osd, 0⟩ = a from fun a => by unfold accM errA; rw [no77]; rfl] at hc
      go_wp2_with (first
        | (refine wpList_build_one (by rfl) 29 0 _ rfl _ rfl (balC ⟨5, 0⟩) (bal_b1 5) ?_)
        | (refine wpList_build_two (by rfl) 31 0 1 _ _ rfl _ _ rfl rfl (incC ⟨77, x.osd, 0⟩) (inc_b2 77 x.osd) ?_))
      refine hc.mono ?_
      rintro e w9 ⟨rfl, hA9, hq⟩
      replace hb8 := hb8.trans (hq.below hp hb8.size)
      clear hc hq x1 hA8 hB8 hX8
      have hc := accepted_any p _ w9 hA9 hok2
      go_wp2_with fail
      refine hc.mono ?_
      rintro e w10 ⟨rfl, hq⟩
      replace hb8 := hb8.trans (hq.mono hb8.size)
      clear hc hq hA9
      obtain ⟨w11, hw11, hL, hM, w12, hw12, _, _, hq⟩ := two_filled w10 bal0 inc0
      replace hb8 := hb8.trans (hq.mono hb8.size)
      clear hq
      go_wp2_with (first
        | (refine alloc_bal (by rfl) rfl ?_)
        | (refine alloc_inc0 (by rfl) rfl ?_; rw [alloc_sz, hw11])
        | (refine store_bal bal0 bal0 (by rfl) _ _ rfl w10.heap.size rfl rfl ?hg ?_; (case hg => exact hL))
        | (refine store_inc inc0 inc0 (by rfl) _ _ rfl (w10.heap.size + 1) rfl rfl ?hg ?_; (case hg => exact hM); rw [hw12]))
      go_ret
      exact ⟨rfl, hb8⟩
    · have hs : Hid (sameBal bal0 ⟨0, k⟩ = false) := by
        show _ = _
        rw [← Bool.not_eq_true, sameBal_is]
        intro e
        exact hk0 (congrArg BalV.who e).symm
      clear hk0
      go_wp2_with (first
        | (refine wpList_val (.int .u32 (_ : Int)) (by rfl) (run_rem_n32 _ _ _ _ rfl n 3 _ rfl rfl hn (by decide) hm.out) ?_)
        | (refine wpList_build_two (by rfl) 29 0 1 _ _ rfl _ _ rfl rfl _ (bal_built2 _ _) ?_)
        | (refine alloc_bal (by rfl) rfl ?_)
        | (refine store_bal _ bal0 (by rfl) _ _ rfl w3.heap.size rfl rfl ?hg ?_; (case hg => exact Has.new _ _ _); rw [hw4])
        | (refine load_bal _ (by rfl) _ rfl w3.heap.size rfl ?hg ?_; (case hg => exact hB)))
      refine hc.mono ?_
      rintro e w5 ⟨rfl, hA5, hq⟩
      replace hX := hq.has hX hpX
      replace hB := hq.has hB (by omega)
      replace hbw := hbw.trans (hq.below hp hbw.size)
      have hplt5 := hA5.lt
      have hsz5 := hB.lt
      clear hc hq c0 c1 hw4 hA
      obtain ⟨w6, hw6, hL, hM, w7, hw7, _, _, hq⟩ := two_filled w5 bal0 inc0
      replace hX := hX.later hq
      replace hB := hB.later hq
      replace hA5 := hA5.later hq
      replace hbw := hbw.trans (hq.mono hbw.size)
      clear hq
      obtain ⟨c0, c1⟩ := bal_cells hB
      go_wp2_with (first
        | (refine alloc_bal (by rfl) rfl ?_)
        | (refine alloc_inc0 (by rfl) rfl ?_; rw [alloc_sz, hw6])
        | (refine store_bal bal0 bal0 (by rfl) _ _ rfl w5.heap.size rfl rfl ?hg ?_; (case hg => exact hL))
        | (refine store_inc inc0 inc0 (by rfl) _ _ rfl (w5.heap.size + 1) rfl rfl ?hg ?_; (case hg => exact hM); rw [hw7]))
      clear hL hM hw6 hw7
      have hS : (Has w7.drew p 56 (accC acc0) ∧ Has w7.drew w3.heap.size 29 (balC _) ∧ Has w7.drew w.heap.size 31 (incC x)) ∧ Below w.heap.size w w7.drew := ⟨⟨hA5.drew, hB.drew, hX.drew⟩, hbw.drew⟩
      refine wp_region_plan (fun W => (Has W p 56 (accC acc0) ∧ Has W w3.heap.size 29 (balC _) ∧ Has W w.heap.size 31 (incC x)) ∧ Below w.heap.size w W) (Plan.of [(0, true), (1, true), (2, true), (3, true), (4, true), (5, true), (6, true), (7, true), (8, true), (9, true), (11, true), (10, false), (12, true), (13, true), (14, true), (15, true), (16, true), (17, true), (18, true), (19, true)] .done) (by kernel_rfl) (by kernel_rfl) (by kernel_rfl) (by kernel_rfl) hS ?_
      iterate 10
        first
          | (refine plan_pass _ rfl (by rfl) ?_)
          | (refine plan_take _ _ rfl (.inl ⟨by rfl, fun W hS => by clear hS; go_simp; try with_reducible rfl⟩) ?_)
        try simp only [Act.put, List.setIfInBounds_toArray, List.set_cons_zero, List.set_cons_succ]
      refine plan_take _ _ rfl (yields_bal _ (by rfl) _ rfl w3.heap.size rfl (fun _ h => h.1.2.1)) ?_
      try simp only [Act.put, List.setIfInBounds_toArray, List.set_cons_zero, List.set_cons_succ]
      refine plan_run _ rfl (fun K hK => ?_)
      go_simp
      refine (promised_any p _ _ hS.1.1).mono ?_
      rintro e w8 ⟨rfl, hq⟩
      replace hS : (Has w8 p 56 (accC acc0) ∧ Has w8 w3.heap.size 29 (balC _) ∧ Has w8 w.heap.size 31 (incC x)) ∧ Below w.heap.size w w8 := ⟨⟨hS.1.1.later hq, hS.1.2.1.later hq, hS.1.2.2.later hq⟩, hS.2.trans (hq.mono hS.2.size)⟩
      refine hK.out _ _ hS ?_
      clear hK K hq hA5 hB hX hbw c0 c1
      refine plan_take _ _ rfl (yields_bal_eq (bal0) _ hok2.pro hbo (by rfl) _ _ _ rfl rfl rfl) ?_
      rw [hs.out]
      try simp only [Act.put, List.setIfInBounds_toArray, List.set_cons_zero, List.set_cons_succ]
      iterate 2
        first
          | (refine plan_pass _ rfl (by rfl) ?_)
          | (refine plan_take _ _ rfl (.inl ⟨by rfl, fun W hS => by clear hS; go_simp; try with_reducible rfl⟩) ?_)
        try simp only [Act.put, List.setIfInBounds_toArray, List.set_cons_zero, List.set_cons_succ]
      iterate 1
        first
          | (refine plan_pass _ rfl (by rfl) ?_)
          | (refine plan_take _ _ rfl (.inl ⟨by rfl, fun W hS => by obtain ⟨z0, z1⟩ := bal_cells hS.1.2.1; go_simp; try with_reducible rfl⟩) ?_)
        try simp only [Act.put, List.setIfInBounds_toArray, List.set_cons_zero, List.set_cons_succ]
      iterate 4
        first
          | (refine plan_pass _ rfl (by rfl) ?_)
          | (refine plan_take _ _ rfl (.inl ⟨by rfl, fun W hS => by clear hS; go_simp; try with_reducible rfl⟩) ?_)
        try simp only [Act.put, List.setIfInBounds_toArray, List.set_cons_zero, List.set_cons_succ]
      refine plan_done ?_
      obtain ⟨⟨hA8, hB8, hX8⟩, hb8⟩ := hS
      have x1 := (hX8.cell 1).trans (show _ = some (.int .u8 (x.osd : Int)) from rfl)
      have hc := accept_any p _ ⟨5, 0⟩ ⟨77, x.osd, 0⟩ w8 hA8 hok2 ⟨by decide, by decide⟩ ⟨by show 77 < 256; decide, hx.osd, by show (-9223372036854775808 : Int) ≤ 0; decide, by show (0 : Int) ≤ 9223372036854775807; decide⟩
      rw [show errA _ ⟨5, 0⟩ ⟨77, x.osd, 0⟩ = 10 by unfold errA; rw [no77]; rfl, show ∀ a : AccV, accM a ⟨5, 0⟩ ⟨77, x.osd, 0⟩ = a from fun a => by unfold accM errA; rw [no77]; rfl] at hc
      go_wp2_with (first
        | (refine wpList_build_one (by rfl) 29 0 _ rfl _ rfl (balC ⟨5, 0⟩) (bal_b1 5) ?_)
        | (refine wpList_build_two (by rfl) 31 0 1 _ _ rfl _ _ rfl rfl (incC ⟨77, x.osd, 0⟩) (inc_b2 77 x.osd) ?_))
      refine hc.mono ?_
      rintro e w9 ⟨rfl, hA9, hq⟩
      replace hb8 := hb8.trans (hq.below hp hb8.size)
      clear hc hq x1 hA8 hB8 hX8
      have hc := accepted_any p _ w9 hA9 hok2
      go_wp2_with fail
      refine hc.mono ?_
      rintro e w10 ⟨rfl, hq⟩
      replace hb8 := hb8.trans (hq.mono hb8.size)
      clear hc hq hA9
      obtain ⟨w11, hw11, hL, hM, w12, hw12, _, _, hq⟩ := two_filled w10 bal0 inc0
      replace hb8 := hb8.trans (hq.mono hb8.size)
      clear hq
      go_wp2_with (first
        | (refine alloc_bal (by rfl) rfl ?_)
        | (refine alloc_inc0 (by rfl) rfl ?_; rw [alloc_sz, hw11])
        | (refine store_bal bal0 bal0 (by rfl) _ _ rfl w10.heap.size rfl rfl ?hg ?_; (case hg => exact hL))
        | (refine store_inc inc0 inc0 (by rfl) _ _ rfl (w10.heap.size + 1) rfl rfl ?hg ?_; (case hg => exact hM); rw [hw12]))
      go_ret
      exact ⟨rfl, hb8⟩
  · have hi : isB ⟨m, k⟩ = false := by rw [← Bool.not_eq_true, isB_is]; show ¬ (_ ∧ k < 3); omega
    have hEA : E = 10 ∧ A2 = acc0 := by
      rcases hN.out with ⟨q0, _⟩ | ⟨_, q1, q2⟩
      · rw [hi] at q0; cases q0
      · exact ⟨hE.out.symm.trans q1, hA2e.out.symm.trans q2⟩
    obtain ⟨rfl, rfl⟩ := hEA
    have h1I : (0 : Int) < (m : Int) := by omega
    have h2I : (3 : Int) ≤ (k : Int) := by omega
    have h2d : decide ((k : Int) < 3) = false := decide_eq_false (by omega)
    have h2n : decide (k < 3) = false := decide_eq_false (by omega)
    have hok2 : AccOk acc0 := acc0_ok
    have hs : Hid (sameBal bal0 ⟨m, k⟩ = false) := by
      show _ = _
      rw [← Bool.not_eq_true, sameBal_is]
      intro e
      have := congrArg BalV.n e
      simp [bal0] at this
      omega
    clear hi hN hE hA2e hokv h1 h2
    go_wp2_with (first
      | (refine wpList_val (.int .u32 (_ : Int)) (by rfl) (run_rem_n32 _ _ _ _ rfl n 3 _ rfl rfl hn (by decide) hm.out) ?_)
      | (refine wpList_build_two (by rfl) 29 0 1 _ _ rfl _ _ rfl rfl _ (bal_built2 _ _) ?_)
      | (refine alloc_bal (by rfl) rfl ?_)
      | (refine store_bal _ bal0 (by rfl) _ _ rfl w3.heap.size rfl rfl ?hg ?_; (case hg => exact Has.new _ _ _); rw [hw4])
      | (refine load_bal _ (by rfl) _ rfl w3.heap.size rfl ?hg ?_; (case hg => exact hB)))
    refine hc.mono ?_
    rintro e w5 ⟨rfl, hA5, hq⟩
    replace hX := hq.has hX hpX
    replace hB := hq.has hB (by omega)
    replace hbw := hbw.trans (hq.below hp hbw.size)
    have hplt5 := hA5.lt
    have hsz5 := hB.lt
    clear hc hq c0 c1 hw4 hA
    obtain ⟨w6, hw6, hL, hM, w7, hw7, _, _, hq⟩ := two_filled w5 bal0 inc0
    replace hX := hX.later hq
    replace hB := hB.later hq
    replace hA5 := hA5.later hq
    replace hbw := hbw.trans (hq.mono hbw.size)
    clear hq
    obtain ⟨c0, c1⟩ := bal_cells hB
    go_wp2_with (first
      | (refine alloc_bal (by rfl) rfl ?_)
      | (refine alloc_inc0 (by rfl) rfl ?_; rw [alloc_sz, hw6])
      | (refine store_bal bal0 bal0 (by rfl) _ _ rfl w5.heap.size rfl rfl ?hg ?_; (case hg => exact hL))
      | (refine store_inc inc0 inc0 (by rfl) _ _ rfl (w5.heap.size + 1) rfl rfl ?hg ?_; (case hg => exact hM); rw [hw7]))
    clear hL hM hw6 hw7
    have hS : (Has w7.drew p 56 (accC acc0) ∧ Has w7.drew w3.heap.size 29 (balC _) ∧ Has w7.drew w.heap.size 31 (incC x)) ∧ Below w.heap.size w w7.drew := ⟨⟨hA5.drew, hB.drew, hX.drew⟩, hbw.drew⟩
    refine wp_region_plan (fun W => (Has W p 56 (accC acc0) ∧ Has W w3.heap.size 29 (balC _) ∧ Has W w.heap.size 31 (incC x)) ∧ Below w.heap.size w W) (Plan.of [(0, true), (1, true), (2, true), (3, true), (4, true), (5, true), (6, true), (7, true), (8, true), (9, true), (11, true), (10, false), (12, true), (13, true), (14, true), (15, true), (16, true), (17, true), (18, true), (19, true)] .done) (by kernel_rfl) (by kernel_rfl) (by kernel_rfl) (by kernel_rfl) hS ?_
    iterate 10
      first
        | (refine plan_pass _ rfl (by rfl) ?_)
        | (refine plan_take _ _ rfl (.inl ⟨by rfl, fun W hS => by clear hS; go_simp; try with_reducible rfl⟩) ?_)
      try simp only [Act.put, List.setIfInBounds_toArray, List.set_cons_zero, List.set_cons_succ]
    refine plan_take _ _ rfl (yields_bal _ (by rfl) _ rfl w3.heap.size rfl (fun _ h => h.1.2.1)) ?_
    try simp only [Act.put, List.setIfInBounds_toArray, List.set_cons_zero, List.set_cons_succ]
    refine plan_run _ rfl (fun K hK => ?_)
    go_simp
    refine (promised_any p _ _ hS.1.1).mono ?_
    rintro e w8 ⟨rfl, hq⟩
    replace hS : (Has w8 p 56 (accC acc0) ∧ Has w8 w3.heap.size 29 (balC _) ∧ Has w8 w.heap.size 31 (incC x)) ∧ Below w.heap.size w w8 := ⟨⟨hS.1.1.later hq, hS.1.2.1.later hq, hS.1.2.2.later hq⟩, hS.2.trans (hq.mono hS.2.size)⟩
    refine hK.out _ _ hS ?_
    clear hK K hq hA5 hB hX hbw c0 c1
    refine plan_take _ _ rfl (yields_bal_eq (bal0) _ hok2.pro hbo (by rfl) _ _ _ rfl rfl rfl) ?_
    rw [hs.out]
    try simp only [Act.put, List.setIfInBounds_toArray, List.set_cons_zero, List.set_cons_succ]
    iterate 2
      first
        | (refine plan_pass _ rfl (by rfl) ?_)
        | (refine plan_take _ _ rfl (.inl ⟨by rfl, fun W hS => by clear hS; go_simp; try with_reducible rfl⟩) ?_)
      try simp only [Act.put, List.setIfInBounds_toArray, List.set_cons_zero, List.set_cons_succ]
    iterate 1
      first
        | (refine plan_pass _ rfl (by rfl) ?_)
        | (refine plan_take _ _ rfl (.inl ⟨by rfl, fun W hS => by obtain ⟨z0, z1⟩ := bal_cells hS.1.2.1; go_simp; try with_reducible rfl⟩) ?_)
      try simp only [Act.put, List.setIfInBounds_toArray, List.set_cons_zero, List.set_cons_succ]
    iterate 4
      first
        | (refine plan_pass _ rfl (by rfl) ?_)
        | (refine plan_take _ _ rfl (.inl ⟨by rfl, fun W hS => by clear hS; go_simp; try with_reducible rfl⟩) ?_)
      try simp only [Act.put, List.setIfInBounds_toArray, List.set_cons_zero, List.set_cons_succ]
    refine plan_done ?_
    obtain ⟨⟨hA8, hB8, hX8⟩, hb8⟩ := hS
    have x1 := (hX8.cell 1).trans (show _ = some (.int .u8 (x.osd : Int)) from rfl)
    have hc := accept_any p _ ⟨5, 0⟩ ⟨77, x.osd, 0⟩ w8 hA8 hok2 ⟨by decide, by decide⟩ ⟨by show 77 < 256; decide, hx.osd, by show (-9223372036854775808 : Int) ≤ 0; decide, by show (0 : Int) ≤ 9223372036854775807; decide⟩
    rw [show errA _ ⟨5, 0⟩ ⟨77, x.osd, 0⟩ = 10 by unfold errA; rw [no77]; rfl, show ∀ a : AccV, accM a ⟨5, 0⟩ ⟨77, x.osd, 0⟩ = a from fun a => by unfold accM errA; rw [no77]; rfl] at hc
    go_wp2_with (first
      | (refine wpList_build_one (by rfl) 29 0 _ rfl _ rfl (balC ⟨5, 0⟩) (bal_b1 5) ?_)
      | (refine wpList_build_two (by rfl) 31 0 1 _ _ rfl _ _ rfl rfl (incC ⟨77, x.osd, 0⟩) (inc_b2 77 x.osd) ?_))
    refine hc.mono ?_
    rintro e w9 ⟨rfl, hA9, hq⟩
    replace hb8 := hb8.trans (hq.below hp hb8.size)
    clear hc hq x1 hA8 hB8 hX8
    have hc := accepted_any p _ w9 hA9 hok2
    go_wp2_with fail
    refine hc.mono ?_
    rintro e w10 ⟨rfl, hq⟩
    replace hb8 := hb8.trans (hq.mono hb8.size)
    clear hc hq hA9
    obtain ⟨w11, hw11, hL, hM, w12, hw12, _, _, hq⟩ := two_filled w10 bal0 inc0
    replace hb8 := hb8.trans (hq.mono hb8.size)
    clear hq
    go_wp2_with (first
      | (refine alloc_bal (by rfl) rfl ?_)
      | (refine alloc_inc0 (by rfl) rfl ?_; rw [alloc_sz, hw11])
      | (refine store_bal bal0 bal0 (by rfl) _ _ rfl w10.heap.size rfl rfl ?hg ?_; (case hg => exact hL))
      | (refine store_inc inc0 inc0 (by rfl) _ _ rfl (w10.heap.size + 1) rfl rfl ?hg ?_; (case hg => exact hM); rw [hw12]))
    go_ret
    exact ⟨rfl, hb8⟩
end Go.Proofs.Ytlcappkokdgpgaa
