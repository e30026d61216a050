/- StoKeep, StoDo, joined. -/
import Derived.Test.YtpnpjblohijajabGreatGrp41
import Derived.Test.YtpnpjblohijajabGreatGrp42
import Derived.Test.YtpnpjblohijajabGreatGrp37
namespace Go.Proofs.YtpnpjblohijajabGreat
section
set_option linter.unusedSimpArgs false
set_option linter.unusedVariables false
set_option maxRecDepth 100000
open Go.RowKit Go.MapKept

/-- What keeping has told and left. -/
def Kept (w : World) (j p kb mb n left : Nat) (lo : Option Addr) (lc : Nat) (ts : List (List WrV)) (t : List WrV) (l : ConL) (N : Nat) (e : Ending) (w' : World) : Prop :=
  (e = .returned (.int .i64 0) ∧ ∃ lo' lc' left' ts', left' ≤ left ∧ JOk w' j p kb mb n left' lo' lc' (ts'.map recM) (N + 1) ∧ (ts' = ts ++ [t] ∨ ts' = [wrsOf l]) ∧ (∀ k, FJ j p kb mb lo' k → FJ j p kb mb lo k ∨ w.heap.size ≤ k) ∧ OffF (FJ j p kb mb lo) w w') ∨
  (e = .returned (.int .i64 131) ∧ left ≠ 0 ∧ (∃ ts', (ts' = ts ++ [t] ∨ ts' = [wrsOf l]) ∧ DCut w' p kb mb n (fun E => GoodL n E (ts.map recM) (N + 1) ∨ GoodL n E (ts'.map recM) (N + 1))) ∧ (∃ h, Has w' j 75 (jnlC p h lo (ts.map recM).length lc true)) ∧ OffF (FJ j p kb mb lo) w w')
theorem limit_wrs {n : Nat} {l : ConL} (hn : 32 ≤ n) (hn1 : n ≤ 1000) (hf : FitsL (16 * n) l) : (recM (wrsOf l)).length ≤ 20000 ∧ takenM [recM (wrsOf l)] ≤ limitM n := by
  have h1 := rec_wrs_le l
  have h2 := hf.size
  have h3 : takenM [recM (wrsOf l)] = (recM (wrsOf l)).length + 16 := rfl
  rw [h3]
  unfold limitM
  omega
set_option maxHeartbeats 4000000 in
theorem keep_yes (s j cb room p kb mb n left : Nat) (lo : Option Addr) (lc : Nat) (ts : List (List WrV)) (N : Nat) (to : Option Addr) (tc : Nat) (t : List WrV) (nb : Nat) (l : ConL) (w : World)
    (hX : Has w s 55 (stoC j cb room)) (H : JOk w j p kb mb n left lo lc (ts.map recM) N) (hN : N < 255) (hW : Wrs w to tc t) (ht : IsTx t) (hs : ¬ FJ j p kb mb lo s)
    (h1 : (recM t).length ≤ 20000) (h2 : takenM (ts.map recM) + ((recM t).length + 16) ≤ limitM n) :
    Calls Tryz.prog 21 #[.pointer (some ⟨s, 0, none⟩), .slice to t.length tc, .map (some nb)] w (Kept w j p kb mb n left lo lc ts t l N) := by
  have hS0 : OffF (FJ j p kb mb lo) w w.drew := OffF.of (Below.refl _ _).drew
  have c0 : ∀ W, OffF (FJ j p kb mb lo) w W → W.cell? ⟨s, 0, none⟩ = some (.pointer (some ⟨j, 0, none⟩)) := fun W hS => (hS.has hX hs).sto_j
  have hr := recordOf_any to tc t w.drew (hW.later (Below.refl _ _).drew) (by have := recM_le ht; omega) (fun x hx => by have := ht.each x hx; have := this.k2; have := (ht.each x hx).b; omega)
  have hH0 := H.drew
  obtain ⟨L, hL⟩ : ∃ L, t.length = L := ⟨_, rfl⟩
  rw [hL] at hr ⊢
  replace hr : Hid _ := hr
  replace c0 : Hid _ := c0
  replace h1 : Hid _ := h1
  replace h2 : Hid _ := h2
  clear hX hW hL ht
  go_enter Tryz.func21, Tryz.ntmps21
  go_wp2
  refine wp_region_plan (fun W => OffF (FJ j p kb mb lo) w W) (Plan.of [(0, true), (1, true), (2, true), (3, true), (4, true), (5, false), (6, false), (7, true)] .done) (by kernel_rfl) (by kernel_rfl) (by kernel_rfl) (by kernel_rfl) hS0 ?_
  iterate 3
    first
      | (refine plan_pass _ rfl (by rfl) ?_)
      | (refine plan_take _ _ rfl (.inl ⟨by rfl, fun W hS => by clear hS; go_simp; try with_reducible rfl⟩) ?_)
    try simp only [Act.put, List.setIfInBounds_toArray, List.set_cons_zero, List.set_cons_succ]
  iterate 1
    first
      | (refine plan_pass _ rfl (by rfl) ?_)
      | (refine plan_take _ _ rfl (.inl ⟨by rfl, fun W hS => by have z := c0.out W hS; go_simp; try with_reducible rfl⟩) ?_)
    try simp only [Act.put, List.setIfInBounds_toArray, List.set_cons_zero, List.set_cons_succ]
  iterate 1
    first
      | (refine plan_pass _ rfl (by rfl) ?_)
      | (refine plan_take _ _ rfl (.inl ⟨by rfl, fun W hS => by clear hS; go_simp; try with_reducible rfl⟩) ?_)
    try simp only [Act.put, List.setIfInBounds_toArray, List.set_cons_zero, List.set_cons_succ]
  refine plan_run _ rfl (fun K hK => ?_)
  go_simp
  refine Calls.mono hr.out ?_
  rintro e w3 ⟨rfl, hq3⟩
  have hS3 : OffF (FJ j p kb mb lo) w w3 := hS0.trans (OffF.of hq3)
  have hH3 := hH0.later hq3
  refine hK.out _ _ hS3 ?_
  clear hK K hr hH0
  refine plan_run _ rfl (fun K hK => ?_)
  go_simp
  refine (append_face j p kb mb n left lo lc (ts.map recM) N (recM t) w3 hH3 hN h1.out h2.out).mono ?_
  have hts : Hid (ts.map recM ++ [recM t] = (ts ++ [t]).map recM) := by show _ = _; rw [List.map_append]; rfl
  rintro e w4 (⟨rfl, lo', lc', left', hl, H', hF, ho⟩ | ⟨rfl, hne, hc, hh, ho⟩)
  · have hS4 := hS3.trans ho
    refine hK.out _ _ hS4 ?_
    clear hK K hH3 ho
    rw [hts.out] at H'
    have hF' : Hid (∀ k, FJ j p kb mb lo' k → FJ j p kb mb lo k ∨ w.heap.size ≤ k) := fun k hk => (hF k hk).imp id (fun z => Nat.le_trans hS3.size z)
    replace H' : Hid _ := H'
    clear hF hS3 hq3
    iterate 1
      first
        | (refine plan_pass _ rfl (by rfl) ?_)
        | (refine plan_take _ _ rfl (.inl ⟨by rfl, fun W hS => by clear hS; go_simp; try with_reducible rfl⟩) ?_)
      try simp only [Act.put, List.setIfInBounds_toArray, List.set_cons_zero, List.set_cons_succ]
    refine plan_done ?_
    go_wp2
    go_ret
    exact .inl ⟨rfl, lo', lc', left', _, hl, H'.out, .inl rfl, hF'.out, hS4⟩
  · have hS4 := hS3.trans ho
    refine hK.out _ _ hS4 ?_
    clear hK K hH3 ho
    rw [hts.out] at hc
    replace hc : Hid _ := hc
    replace hh : Hid _ := hh
    have hne' : Hid _ := hne
    clear hS3 hq3 hne
    iterate 1
      first
        | (refine plan_pass _ rfl (by rfl) ?_)
        | (refine plan_take _ _ rfl (.inl ⟨by rfl, fun W hS => by clear hS; go_simp; try with_reducible rfl⟩) ?_)
      try simp only [Act.put, List.setIfInBounds_toArray, List.set_cons_zero, List.set_cons_succ]
    refine plan_done ?_
    go_wp2
    go_ret
    exact .inr ⟨rfl, hne'.out, ⟨_, .inl rfl, hc.out⟩, hh.out, hS4⟩
set_option maxHeartbeats 4000000 in
theorem keep_no (s j cb room p kb mb n left : Nat) (lo : Option Addr) (lc : Nat) (ts : List (List WrV)) (N : Nat) (to : Option Addr) (tc : Nat) (t : List WrV) (nb : Nat) (l : ConL) (w : World)
    (hX : Has w s 55 (stoC j cb room)) (H : JOk w j p kb mb n left lo lc (ts.map recM) N) (hN : N < 255) (hW : Wrs w to tc t) (ht : IsTx t) (hs : ¬ FJ j p kb mb lo s)
    (hC : ContAt w nb l) (hO : OkL l) (hf : FitsL (16 * n) l) (hn : 32 ≤ n) (hnb : ¬ FJ j p kb mb lo nb)
    (hno : 20000 < (recM t).length ∨ ¬ takenM (ts.map recM) + ((recM t).length + 16) ≤ limitM n) :
    Calls Tryz.prog 21 #[.pointer (some ⟨s, 0, none⟩), .slice to t.length tc, .map (some nb)] w (Kept w j p kb mb n left lo lc ts t l N) := by
  obtain ⟨_, hn1, _, _, _⟩ := H.facts
  obtain ⟨hl1, hl2⟩ := limit_wrs hn hn1 hf
  have hS0 : OffF (FJ j p kb mb lo) w w.drew := OffF.of (Below.refl _ _).drew
  have c0 : ∀ W, OffF (FJ j p kb mb lo) w W → W.cell? ⟨s, 0, none⟩ = some (.pointer (some ⟨j, 0, none⟩)) := fun W hS => (hS.has hX hs).sto_j
  have hr := recordOf_any to tc t w.drew (hW.later (Below.refl _ _).drew) (by have := recM_le ht; omega) (fun x hx => by have := ht.each x hx; have := this.k2; have := (ht.each x hx).b; omega)
  have hH0 := H.drew
  have hC0 : ∀ W, OffF (FJ j p kb mb lo) w W → ContAt W nb l := fun W hS => ContAt.off hC hS hnb
  obtain ⟨L, hL⟩ : ∃ L, t.length = L := ⟨_, rfl⟩
  rw [hL] at hr ⊢
  replace hr : Hid _ := hr
  replace c0 : Hid _ := c0
  replace hno : Hid _ := hno
  replace hC0 : Hid _ := hC0
  replace hl1 : Hid _ := hl1
  replace hl2 : Hid _ := hl2
  have hlen := hf.few
  clear hX hW hL ht hC hf
  go_enter Tryz.func21, Tryz.ntmps21
  go_wp2
  refine wp_region_plan (fun W => OffF (FJ j p kb mb lo) w W) (Plan.of [(0, true), (1, true), (2, true), (3, true), (4, true), (5, false), (6, false), (7, true)] .done) (by kernel_rfl) (by kernel_rfl) (by kernel_rfl) (by kernel_rfl) hS0 ?_
  iterate 3
    first
      | (refine plan_pass _ rfl (by rfl) ?_)
      | (refine plan_take _ _ rfl (.inl ⟨by rfl, fun W hS => by clear hS; go_simp; try with_reducible rfl⟩) ?_)
    try simp only [Act.put, List.setIfInBounds_toArray, List.set_cons_zero, List.set_cons_succ]
  iterate 1
    first
      | (refine plan_pass _ rfl (by rfl) ?_)
      | (refine plan_take _ _ rfl (.inl ⟨by rfl, fun W hS => by have z := c0.out W hS; go_simp; try with_reducible rfl⟩) ?_)
    try simp only [Act.put, List.setIfInBounds_toArray, List.set_cons_zero, List.set_cons_succ]
  iterate 1
    first
      | (refine plan_pass _ rfl (by rfl) ?_)
      | (refine plan_take _ _ rfl (.inl ⟨by rfl, fun W hS => by clear hS; go_simp; try with_reducible rfl⟩) ?_)
    try simp only [Act.put, List.setIfInBounds_toArray, List.set_cons_zero, List.set_cons_succ]
  refine plan_run _ rfl (fun K hK => ?_)
  go_simp
  refine Calls.mono hr.out ?_
  rintro e w3 ⟨rfl, hq3⟩
  have hS3 : OffF (FJ j p kb mb lo) w w3 := hS0.trans (OffF.of hq3)
  have hH3 := hH0.later hq3
  refine hK.out _ _ hS3 ?_
  clear hK K hr hH0
  refine plan_run _ rfl (fun K hK => ?_)
  go_simp
  refine (append_no j p kb mb n left lo lc (ts.map recM) N (recM t) w3 hH3 hno.out).mono ?_
  rintro e w4 ⟨rfl, hH4, hb4⟩
  have hS4 : OffF (FJ j p kb mb lo) w w4 := hS3.trans ((OffF.but hb4).more (fun k hk => .inl hk))
  refine hK.out _ _ hS4 ?_
  obtain ⟨er, her⟩ : ∃ er : Int, (if 20000 < (recM t).length then 10 else 140) = er := ⟨_, rfl⟩
  have her2 : er = 10 ∨ er = 140 := by rw [← her]; split <;> simp
  rw [her]
  clear hK K hH3 hb4 her hno hq3
  iterate 1
    first
      | (refine plan_pass _ rfl (by rfl) ?_)
      | (refine plan_take _ _ rfl (.inl ⟨by rfl, fun W hS => by clear hS; go_simp; try with_reducible rfl⟩) ?_)
    try simp only [Act.put, List.setIfInBounds_toArray, List.set_cons_zero, List.set_cons_succ]
  refine plan_done ?_
  have hS5 : OffF (FJ j p kb mb lo) w w4.drew := hS4.trans (OffF.of (Below.refl _ _).drew)
  have hH5 := hH4.drew
  clear hH4
  have hw5 := writes_any nb l w4.drew (hC0.out _ hS5) (by omega) (fun q hq => by have := (hO.each q hq).2.1; omega)
  have hlw : (wrsOf l).length = l.length := by unfold wrsOf; rw [List.length_map]
  rw [← hlw] at hw5
  obtain ⟨M, hM⟩ : ∃ M, (wrsOf l).length = M := ⟨_, rfl⟩
  rw [hM] at hw5
  have hM' : Hid ((wrsOf l).length = M) := hM
  replace hw5 : Hid _ := hw5
  have hsz4 := hS4.size
  have hwi := wrs_is hO
  replace hwi : Hid _ := hwi
  clear hlw hM hlen
  rcases her2 with rfl | rfl
  all_goals
    go_wp2
    refine wp_region_plan (fun W => OffF (FJ j p kb mb lo) w W) (Plan.of [(0, true), (1, true), (2, true), (3, true), (4, true), (5, false), (6, false), (7, false), (8, false), (9, true)] .done) (by kernel_rfl) (by kernel_rfl) (by kernel_rfl) (by kernel_rfl) hS5 ?_
    iterate 3
      first
        | (refine plan_pass _ rfl (by rfl) ?_)
        | (refine plan_take _ _ rfl (.inl ⟨by rfl, fun W hS => by clear hS; go_simp; try with_reducible rfl⟩) ?_)
      try simp only [Act.put, List.setIfInBounds_toArray, List.set_cons_zero, List.set_cons_succ]
    iterate 1
      first
        | (refine plan_pass _ rfl (by rfl) ?_)
        | (refine plan_take _ _ rfl (.inl ⟨by rfl, fun W hS => by have z := c0.out W hS; go_simp; try with_reducible rfl⟩) ?_)
      try simp only [Act.put, List.setIfInBounds_toArray, List.set_cons_zero, List.set_cons_succ]
    iterate 1
      first
        | (refine plan_pass _ rfl (by rfl) ?_)
        | (refine plan_take _ _ rfl (.inl ⟨by rfl, fun W hS => by clear hS; go_simp; try with_reducible rfl⟩) ?_)
      try simp only [Act.put, List.setIfInBounds_toArray, List.set_cons_zero, List.set_cons_succ]
    refine plan_run _ rfl (fun K hK => ?_)
    go_simp
    refine Calls.mono hw5.out ?_
    rintro e w6 ⟨ao, ac, rfl, hW6, hlt6, hq6⟩
    have hS6 := hS5.trans (OffF.of hq6)
    have hH6 := hH5.later hq6
    refine hK.out _ _ hS6 ?_
    clear hK K hw5 hH5 hq6
    have hr7 := recordOf_any ao ac (wrsOf l) w6 hW6 (by have := hl1.out; omega) (fun x hx => by have := (hwi.out x hx).k2; have := (hwi.out x hx).b; omega)
    rw [hM'.out] at hr7
    replace hr7 : Hid _ := hr7
    refine plan_run _ rfl (fun K hK => ?_)
    go_simp
    refine Calls.mono hr7.out ?_
    rintro e w7 ⟨rfl, hq7⟩
    have hS7 := hS6.trans (OffF.of hq7)
    have hH7 := hH6.later hq7
    refine hK.out _ _ hS7 ?_
    clear hK K hr7 hH6 hq7 hW6 hlt6
    have hS8 : OffF (FJ j p kb mb lo) w (w7.alloc (.cells #[strV (recM (wrsOf l))] 9)) := hS7.trans (OffF.of ((Below.refl _ _).alloc (Nat.le_refl _) _))
    refine plan_sliceS _ rfl (by rfl) _ rfl (recM (wrsOf l)) rfl hS8 ?_
    have hH8 : JOk (w7.alloc (.cells #[strV (recM (wrsOf l))] 9)) j p kb mb n left lo lc (ts.map recM) N := hH7.later ((Below.refl _ _).alloc (Nat.le_refl _) _)
    have hSt : Strs (w7.alloc (.cells #[strV (recM (wrsOf l))] 9)) (some ⟨w7.heap.size, 0, none⟩) 1 [recM (wrsOf l)] := Strs.new w7 _ (0, 0)
    have hs8 : w7.heap.size < (w7.alloc (.cells #[strV (recM (wrsOf l))] 9)).heap.size := by simp
    have hfr : ¬ FJ j p kb mb lo w7.heap.size := fun z => by have := hH7.lt _ z; omega
    obtain ⟨g, hg⟩ : ∃ g, w7.heap.size = g := ⟨_, rfl⟩
    rw [hg] at hSt hs8 hfr ⊢
    generalize w7.alloc (.cells #[strV (recM (wrsOf l))] 9) = w8 at *
    clear hH7 hg hS7
    try simp only [Act.put, List.setIfInBounds_toArray, List.set_cons_zero, List.set_cons_succ]
    have hrep := replace_face j p kb mb n left lo lc (ts.map recM) N (some ⟨g, 0, none⟩) 1 [recM (wrsOf l)] w8 hH8 hN hSt (fun ad had => by cases had; exact ⟨hs8, hfr⟩) (fun r hr => by rw [List.mem_singleton.1 hr]; exact hl1.out) hl2.out
    replace hrep : Hid _ := hrep
    clear hSt hs8 hfr hH8
    refine plan_run _ rfl (fun K hK => ?_)
    go_simp
    refine Calls.mono hrep.out ?_
    clear hrep
    rintro e w9 (⟨rfl, lo', lc', left', hl, H', hF, ho⟩ | ⟨rfl, hne, hc, hh, ho⟩)
    · have hS9 := hS8.trans ho
      refine hK.out _ _ hS9 ?_
      have hF' : Hid (∀ k, FJ j p kb mb lo' k → FJ j p kb mb lo k ∨ w.heap.size ≤ k) := fun k hk => (hF k hk).imp id (fun z => Nat.le_trans hS8.size z)
      replace H' : Hid (JOk w9 j p kb mb n left' lo' lc' (([wrsOf l] : List (List WrV)).map recM) (N + 1)) := H'
      clear hK K hF hS8 ho
      iterate 1
        first
          | (refine plan_pass _ rfl (by rfl) ?_)
          | (refine plan_take _ _ rfl (.inl ⟨by rfl, fun W hS => by clear hS; go_simp; try with_reducible rfl⟩) ?_)
        try simp only [Act.put, List.setIfInBounds_toArray, List.set_cons_zero, List.set_cons_succ]
      refine plan_done ?_
      go_wp2
      go_ret
      exact .inl ⟨rfl, lo', lc', left', _, hl, H'.out, .inr rfl, hF'.out, hS9⟩
    · have hS9 := hS8.trans ho
      refine hK.out _ _ hS9 ?_
      replace hc : Hid (DCut w9 p kb mb n (fun E => GoodL n E (ts.map recM) (N + 1) ∨ GoodL n E (([wrsOf l] : List (List WrV)).map recM) (N + 1))) := hc
      replace hh : Hid _ := hh
      have hne' : Hid _ := hne
      clear hK K hS8 ho hne
      iterate 1
        first
          | (refine plan_pass _ rfl (by rfl) ?_)
          | (refine plan_take _ _ rfl (.inl ⟨by rfl, fun W hS => by clear hS; go_simp; try with_reducible rfl⟩) ?_)
        try simp only [Act.put, List.setIfInBounds_toArray, List.set_cons_zero, List.set_cons_succ]
      refine plan_done ?_
      go_wp2
      go_ret
      exact .inr ⟨rfl, hne'.out, ⟨_, .inr rfl, hc.out⟩, hh.out, hS9⟩
theorem skeep_any (s j cb room p kb mb n left : Nat) (lo : Option Addr) (lc : Nat) (ts : List (List WrV)) (N : Nat) (to : Option Addr) (tc : Nat) (t : List WrV) (nb : Nat) (l : ConL) (w : World)
    (hX : Has w s 55 (stoC j cb room)) (H : JOk w j p kb mb n left lo lc (ts.map recM) N) (hN : N < 255) (hW : Wrs w to tc t) (ht : IsTx t) (hs : ¬ FJ j p kb mb lo s)
    (hC : ContAt w nb l) (hO : OkL l) (hf : FitsL (16 * n) l) (hn : 32 ≤ n) (hnb : ¬ FJ j p kb mb lo nb) :
    Calls Tryz.prog 21 #[.pointer (some ⟨s, 0, none⟩), .slice to t.length tc, .map (some nb)] w (Kept w j p kb mb n left lo lc ts t l N) := by
  by_cases h1 : (recM t).length ≤ 20000
  · by_cases h2 : takenM (ts.map recM) + ((recM t).length + 16) ≤ limitM n
    · exact keep_yes s j cb room p kb mb n left lo lc ts N to tc t nb l w hX H hN hW ht hs h1 h2
    · exact keep_no s j cb room p kb mb n left lo lc ts N to tc t nb l w hX H hN hW ht hs hC hO hf hn hnb (.inr h2)
  · exact keep_no s j cb room p kb mb n left lo lc ts N to tc t nb l w hX H hN hW ht hs hC hO hf hn hnb (.inl (by omega))
end

section
set_option linter.unusedSimpArgs false
set_option linter.unusedVariables false
set_option maxRecDepth 100000
open Go.RowKit Go.MapKept

/-- A store at rest: F is its blocks. -/
structure StAt (w : World) (s p kb mb n left : Nat) (F : Nat → Prop) (l : ConL) (N : Nat) : Prop where
  ok : ∃ j cb lo lc ts, Has w s 55 (stoC j cb (16 * n)) ∧ JOk w j p kb mb n left lo lc (ts.map recM) N ∧ ContAt w cb l ∧ Runs (16 * n) [] ts ∧ endL [] ts = l ∧ (s ≠ cb ∧ ¬ FJ j p kb mb lo s ∧ ¬ FJ j p kb mb lo cb) ∧ (∀ k, k = s ∨ k = cb ∨ FJ j p kb mb lo k → F k)
  fits : FitsL (16 * n) l
  n32 : 32 ≤ n
  lt : ∀ k, F k → k < w.heap.size
/-- A store of which the power went in a Do. -/
structure StBr (w : World) (s p kb mb n : Nat) (F : Nat → Prop) (l m : ConL) (N : Nat) : Prop where
  ok : ∃ j cb lo k lc h, Has w s 55 (stoC j cb (16 * n)) ∧ Has w j 75 (jnlC p h lo k lc true) ∧ ContAt w cb l ∧ F s ∧ F j ∧ F cb
  cut : DCut w p kb mb n (fun E => ∃ ts, Runs (16 * n) [] ts ∧ (endL [] ts = l ∨ endL [] ts = m) ∧ GoodL n E (ts.map recM) N)
  disk : ∀ k, DF p kb mb k → F k
  n32 : 32 ≤ n
  lt : ∀ k, F k → k < w.heap.size
theorem StAt.okL {w : World} {s p kb mb n left : Nat} {F : Nat → Prop} {l : ConL} {N : Nat} (H : StAt w s p kb mb n left F l N) : OkL l := by
  obtain ⟨j, cb, lo, lc, ts, _, _, _, hr, he, _⟩ := H.ok
  rw [← he]
  exact hr.ok OkL.nil
theorem StAt.n1 {w : World} {s p kb mb n left : Nat} {F : Nat → Prop} {l : ConL} {N : Nat} (H : StAt w s p kb mb n left F l N) : n ≤ 1000 := by
  obtain ⟨j, cb, lo, lc, ts, _, hJ, _⟩ := H.ok
  exact hJ.facts.2.1
theorem StAt.off {G : Nat → Prop} {w w' : World} {s p kb mb n left : Nat} {F : Nat → Prop} {l : ConL} {N : Nat} (H : StAt w s p kb mb n left F l N) (hq : OffF G w w') (hG : ∀ k, F k → ¬ G k) : StAt w' s p kb mb n left F l N := by
  obtain ⟨⟨j, cb, lo, lc, ts, hX, hJ, hC, hr, he, ha, hF⟩, h2, h3, h4⟩ := H
  exact ⟨⟨j, cb, lo, lc, ts, hq.has hX (hG _ (hF _ (.inl rfl))), hJ.off hq (fun k hk => hG _ (hF _ (.inr (.inr hk)))), hC.off hq (hG _ (hF _ (.inr (.inl rfl)))), hr, he, ha, hF⟩, h2, h3, fun k hk => Nat.lt_of_lt_of_le (h4 k hk) hq.size⟩
theorem StAt.later {w w' : World} {s p kb mb n left : Nat} {F : Nat → Prop} {l : ConL} {N : Nat} (H : StAt w s p kb mb n left F l N) (hb : Below w.heap.size w w') : StAt w' s p kb mb n left F l N :=
  H.off (G := fun _ => False) (OffF.of hb) (fun _ _ hf => hf)
theorem DCut.mono {w : World} {p kb mb n : Nat} {Q R : List UInt8 → Prop} (h : DCut w p kb mb n Q) (hQ : ∀ E, Q E → R E) : DCut w p kb mb n R := by
  obtain ⟨d, h1, h2, h3⟩ := h
  exact ⟨d, h1, h2, fun E hE => hQ E (h3 E hE)⟩
theorem DCut.off {G : Nat → Prop} {w w' : World} {p kb mb n : Nat} {Q : List UInt8 → Prop} (h : DCut w p kb mb n Q) (hq : OffF G w w') (hG : ∀ k, DF p kb mb k → ¬ G k) : DCut w' p kb mb n Q := by
  obtain ⟨d, h1, h2, h3⟩ := h
  exact ⟨d, h1.offs hq (hG _ (.inl rfl)) (hG _ (.inr (.inl rfl))) (hG _ (.inr (.inr rfl))), h2, h3⟩
theorem StAt.cut {w : World} {s p kb mb n left : Nat} {F : Nat → Prop} {l : ConL} {N : Nat} (H : StAt w s p kb mb n left F l N) : DCut w p kb mb n (fun E => ∃ ts, Runs (16 * n) [] ts ∧ endL [] ts = l ∧ GoodL n E (ts.map recM) N) := by
  obtain ⟨j, cb, lo, lc, ts, hX, hJ, hC, hr, he, _⟩ := H.ok
  exact hJ.cut.mono fun E hE => ⟨ts, hr, he, hE⟩
theorem StAt.disk {w : World} {s p kb mb n left : Nat} {F : Nat → Prop} {l : ConL} {N : Nat} (H : StAt w s p kb mb n left F l N) : ∀ k, DF p kb mb k → F k := by
  obtain ⟨j, cb, lo, lc, ts, _, _, _, _, _, _, hF⟩ := H.ok
  exact fun k hk => hF k (.inr (.inr (.inr (.inl hk))))
theorem StBr.off {G : Nat → Prop} {w w' : World} {s p kb mb n : Nat} {F : Nat → Prop} {l m : ConL} {N : Nat} (H : StBr w s p kb mb n F l m N) (hq : OffF G w w') (hG : ∀ k, F k → ¬ G k) : StBr w' s p kb mb n F l m N := by
  obtain ⟨⟨j, cb, lo, k, lc, h, hX, hJ, hC, f1, f2, f3⟩, h2, h3, h4, h5⟩ := H
  exact ⟨⟨j, cb, lo, k, lc, h, hq.has hX (hG _ f1), hq.has hJ (hG _ f2), hC.off hq (hG _ f3), f1, f2, f3⟩, h2.off hq (fun k hk => hG _ (h3 k hk)), h3, h4, fun k hk => Nat.lt_of_lt_of_le (h5 k hk) hq.size⟩
theorem StBr.later {w w' : World} {s p kb mb n : Nat} {F : Nat → Prop} {l m : ConL} {N : Nat} (H : StBr w s p kb mb n F l m N) (hb : Below w.heap.size w w') : StBr w' s p kb mb n F l m N :=
  H.off (G := fun _ => False) (OffF.of hb) (fun _ _ hf => hf)
theorem jptr_ne (ad : Addr) (w : World) : (binOp .eql 40 (.pointer (some ad)) (.pointer none)).run Tryz.prog w = .ok (.bool false) w := by kernel_rfl
theorem sbroken_has (s j cb room p k lc : Nat) (h : HdV) (lo : Option Addr) (br : Bool) (w : World) (hX : Has w s 55 (stoC j cb room)) (hJ : Has w j 75 (jnlC p h lo k lc br)) :
    Calls Tryz.prog 13 #[.pointer (some ⟨s, 0, none⟩)] w fun e w' => e = .returned (.bool br) ∧ w' = w := by
  have hq : ∀ (ad : Addr) (w : World), (binOp .eql 40 (.pointer (some ad)) (.pointer none)).run Tryz.prog w = .ok (.bool false) w := jptr_ne
  have c0 := hX.sto_j
  have hb := jbroken_any j p h lo k lc br w hJ
  replace hb : Hid _ := hb
  clear hX hJ
  go_enter Tryz.func13, Tryz.ntmps13
  go_wp2_with fail
  refine Calls.mono hb.out ?_
  rintro e w3 ⟨rfl, rfl⟩
  go_wp2
  go_ret
  exact ⟨rfl, rfl⟩
theorem sbroken_no (s p kb mb n left : Nat) (F : Nat → Prop) (l : ConL) (N : Nat) (w : World) (H : StAt w s p kb mb n left F l N) :
    Calls Tryz.prog 13 #[.pointer (some ⟨s, 0, none⟩)] w fun e w' => e = .returned (.bool false) ∧ w' = w := by
  obtain ⟨j, cb, lo, lc, ts, hX, hJ, _⟩ := H.ok
  obtain ⟨D, h, H1, _⟩ := hJ.ok
  exact sbroken_has s j cb (16 * n) p _ lc h lo false w hX H1.jnl
theorem sbroken_yes (s p kb mb n : Nat) (F : Nat → Prop) (l m : ConL) (N : Nat) (w : World) (H : StBr w s p kb mb n F l m N) :
    Calls Tryz.prog 13 #[.pointer (some ⟨s, 0, none⟩)] w fun e w' => e = .returned (.bool true) ∧ w' = w := by
  obtain ⟨j, cb, lo, k, lc, h, hX, hJ, _⟩ := H.ok
  exact sbroken_has s j cb (16 * n) p k lc h lo true w hX hJ
theorem sdo_broken (s p kb mb n : Nat) (F : Nat → Prop) (l m : ConL) (N : Nat) (v : Value) (w : World) (H : StBr w s p kb mb n F l m N) :
    Calls Tryz.prog 7 #[.pointer (some ⟨s, 0, none⟩), v] w fun e w' => e = .returned (.int .i64 131) ∧ w' = w := by
  have hb := sbroken_yes s p kb mb n F l m N w H
  replace hb : Hid _ := hb
  clear H
  go_enter Tryz.func7, Tryz.ntmps7
  go_wp2_with fail
  refine Calls.mono hb.out ?_
  rintro e w3 ⟨rfl, rfl⟩
  go_wp2
  go_ret
  exact ⟨rfl, rfl⟩
open Classical in
theorem sdo_form (s p kb mb n left : Nat) (F : Nat → Prop) (l : ConL) (N : Nat) (to : Option Addr) (tc : Nat) (t : List WrV) (w : World) (H : StAt w s p kb mb n left F l N) (hW : Wrs w to tc t) (he : ∀ x ∈ t, x.key.length ≤ 140737488355328 ∧ x.bs.length ≤ 140737488355328) (hno : ¬ IsTx t) :
    Calls Tryz.prog 7 #[.pointer (some ⟨s, 0, none⟩), .slice to t.length tc] w fun e w' => e = .returned (.int .i64 10) ∧ Below w.heap.size w w' := by
  have hb := sbroken_no s p kb mb n left F l N w H
  have ht := isTx_any to tc t w hW he
  rw [decide_eq_false hno] at ht
  obtain ⟨L, hL⟩ : ∃ L, t.length = L := ⟨_, rfl⟩
  rw [hL] at ht ⊢
  replace hb : Hid _ := hb
  replace ht : Hid _ := ht
  clear H hW he hno hL
  go_enter Tryz.func7, Tryz.ntmps7
  go_wp2_with fail
  refine Calls.mono hb.out ?_
  rintro e w3 ⟨rfl, h3⟩
  have h3' := h3.symm
  subst h3'
  go_wp2_with fail
  refine Calls.mono ht.out ?_
  rintro e w4 ⟨rfl, hq⟩
  go_wp2
  go_ret
  exact ⟨rfl, hq⟩
open Classical in
set_option maxHeartbeats 2000000 in
theorem sdo_room (s p kb mb n left : Nat) (F : Nat → Prop) (l : ConL) (N : Nat) (to : Option Addr) (tc : Nat) (t : List WrV) (w : World) (H : StAt w s p kb mb n left F l N) (hW : Wrs w to tc t) (hto : ∀ ad, to = some ad → ad.block < w.heap.size) (ht : IsTx t) (hno : ¬ FitsL (16 * n) (doL l t)) :
    Calls Tryz.prog 7 #[.pointer (some ⟨s, 0, none⟩), .slice to t.length tc] w fun e w' => e = .returned (.int .i64 140) ∧ Below w.heap.size w w' := by
  have hb := sbroken_no s p kb mb n left F l N w H
  have hti := isTx_any to tc t w hW (fun x hx => by have := (ht.each x hx).k2; have := (ht.each x hx).b; omega)
  rw [decide_eq_true ht] at hti
  have hO := (H.okL.doL ht.each).size_le
  have hdl := doL_length t l
  have hlf := H.fits.few
  have htn := ht.n2
  obtain ⟨j, cb, lo, lc, ts, hX, hJ, hC, _⟩ := H.ok
  have hsz : sizeL (doL l t) ≤ 1000000000 := by omega
  have hel : ∀ x ∈ t, x.key.length ≤ 1000000 ∧ x.bs.length ≤ 1000000 := fun x hx => by have := (ht.each x hx).k2; have := (ht.each x hx).b; omega
  have hll : l.length + t.length ≤ 100000 := by omega
  have hdo := fun b W => cdo_any b l to tc t W
  obtain ⟨L, hL⟩ : ∃ L, t.length = L := ⟨_, rfl⟩
  rw [hL] at hti hdo hll ⊢
  replace hb : Hid _ := hb
  replace hti : Hid _ := hti
  replace hdo : Hid _ := hdo
  replace hel : Hid _ := hel
  replace hno : Hid _ := hno
  clear H hL hO hdl hlf htn ht
  go_enter Tryz.func7, Tryz.ntmps7
  go_wp2_with fail
  refine Calls.mono hb.out ?_
  rintro e w3 ⟨rfl, h3⟩
  have h3' := h3.symm
  subst h3'
  go_wp2_with fail
  refine Calls.mono hti.out ?_
  rintro e w4 ⟨rfl, hq4⟩
  have hX4 := hX.later hq4
  have hC4 := hC.later hq4
  have c1 := hX4.sto_has
  have hcl := mclone_any cb l w4 hC4
  replace hcl : Hid _ := hcl
  clear hti hb hC
  go_wp2_with fail
  refine Calls.mono hcl.out ?_
  rintro e w5 ⟨rfl, hN5, hC5, hq5⟩
  have hX5 := hX4.later hq5
  have hb5 := hq4.trans (hq5.mono hq4.size)
  have hW5 := hW.later hb5
  have hd6 := hdo.out w4.heap.size w5 hN5 hW5 (fun ad had => by have := hto ad had; have := hq4.size; have := hq5.size; omega) hel.out hll
  have hfr : w4.heap.size ≠ s := by have := hX4.lt; omega
  have hs4 : w.heap.size ≤ w4.heap.size := hq4.size
  have hs5 : w.heap.size ≤ w5.heap.size := hb5.size
  obtain ⟨nb, hnb⟩ : ∃ n, w4.heap.size = n := ⟨_, rfl⟩
  rw [hnb] at hN5 hd6 hfr hs4 ⊢
  replace hd6 : Hid _ := hd6
  clear hcl hC4 hX4 c1 hC5 hq5 hq4 hnb hdo hN5
  go_wp2_with fail
  refine Calls.mono hd6.out ?_
  rintro e w6 ⟨rfl, hC6, hb6⟩
  have hX6 := hb6.has hX5 hfr.symm
  have hB6 : Below w.heap.size w w6 := hb5.trans (hb6.below hs4 hs5)
  have hf7 := fits_any s j cb (16 * n) nb (doL l t) w6 hX6 hC6 hsz
  rw [decide_eq_false hno.out] at hf7
  replace hf7 : Hid _ := hf7
  clear hd6 hX5 hb6 hC6 hb5
  go_wp2_with fail
  refine Calls.mono hf7.out ?_
  rintro e w7 ⟨rfl, hq7⟩
  have hB7 := hB6.trans (hq7.mono hB6.size)
  clear hf7 hq7 hB6 hX6
  go_wp2
  go_ret
  exact ⟨rfl, hB7⟩
/-- What a Do that fits has told and left. -/
def DidR (w : World) (s p kb mb n left : Nat) (F : Nat → Prop) (l m : ConL) (N : Nat) (e : Ending) (w' : World) : Prop :=
  (e = .returned (.int .i64 0) ∧ ∃ F' left', left' ≤ left ∧ StAt w' s p kb mb n left' F' m (N + 1) ∧ (∀ k, F' k → F k ∨ w.heap.size ≤ k) ∧ OffF F w w') ∨
  (e = .returned (.int .i64 131) ∧ left ≠ 0 ∧ StBr w' s p kb mb n F l m (N + 1) ∧ OffF F w w')
open Classical in
set_option maxHeartbeats 2000000 in
theorem sdo_fits (s p kb mb n left : Nat) (F : Nat → Prop) (l : ConL) (N : Nat) (to : Option Addr) (tc : Nat) (t : List WrV) (w : World) (H : StAt w s p kb mb n left F l N) (hN : N < 255) (hW : Wrs w to tc t) (hto : ∀ ad, to = some ad → ad.block < w.heap.size) (ht : IsTx t) (hyes : FitsL (16 * n) (doL l t)) :
    Calls Tryz.prog 7 #[.pointer (some ⟨s, 0, none⟩), .slice to t.length tc] w (DidR w s p kb mb n left F l (doL l t) N) := by
  have hb := sbroken_no s p kb mb n left F l N w H
  have hti := isTx_any to tc t w hW (fun x hx => by have := (ht.each x hx).k2; have := (ht.each x hx).b; omega)
  rw [decide_eq_true ht] at hti
  have hOk := H.okL.doL ht.each
  have hO := hOk.size_le
  have hdl := doL_length t l
  have hlf := H.fits.few
  have htn := ht.n2
  have hn32 := H.n32
  have hFl := H.lt
  obtain ⟨j, cb, lo, lc, ts, hX, hJ, hC, hru, hen, hap, hF⟩ := H.ok
  have hsz : sizeL (doL l t) ≤ 1000000000 := by omega
  have hel : ∀ x ∈ t, x.key.length ≤ 1000000 ∧ x.bs.length ≤ 1000000 := fun x hx => by have := (ht.each x hx).k2; have := (ht.each x hx).b; omega
  have hll : l.length + t.length ≤ 100000 := by omega
  have hdo := fun b W => cdo_any b l to tc t W
  have hkp := fun nb W hX H hW hC hnb => skeep_any s j cb (16 * n) p kb mb n left lo lc ts N to tc t nb (doL l t) W hX H hN hW ht hap.2.1 hC hOk hyes hn32 hnb
  obtain ⟨L, hL⟩ : ∃ L, t.length = L := ⟨_, rfl⟩
  rw [hL] at hti hdo hll hkp ⊢
  have htx : Hid (∀ x ∈ t, IsWr x) := ht.each
  replace hb : Hid _ := hb
  replace hti : Hid _ := hti
  replace hdo : Hid _ := hdo
  replace hel : Hid _ := hel
  replace hkp : Hid _ := hkp
  have hyes' : Hid _ := hyes
  replace hru : Hid _ := hru
  replace hen : Hid _ := hen
  replace hF : Hid _ := hF
  replace hFl : Hid _ := hFl
  replace hOk : Hid _ := hOk
  clear H hL hO hdl hlf htn ht hyes
  go_enter Tryz.func7, Tryz.ntmps7
  go_wp2_with fail
  refine Calls.mono hb.out ?_
  rintro e w3 ⟨rfl, h3⟩
  have h3' := h3.symm
  subst h3'
  go_wp2_with fail
  refine Calls.mono hti.out ?_
  rintro e w4 ⟨rfl, hq4⟩
  have hX4 := hX.later hq4
  have hC4 := hC.later hq4
  have c1 := hX4.sto_has
  have hcl := mclone_any cb l w4 hC4
  replace hcl : Hid _ := hcl
  clear hti hb hC
  go_wp2_with fail
  refine Calls.mono hcl.out ?_
  rintro e w5 ⟨rfl, hN5, hC5, hq5⟩
  have hX5 := hX4.later hq5
  have hb5 := hq4.trans (hq5.mono hq4.size)
  have hW5 := hW.later hb5
  have hd6 := hdo.out w4.heap.size w5 hN5 hW5 (fun ad had => by have := hto ad had; have := hq4.size; have := hq5.size; omega) hel.out hll
  have hfr : w4.heap.size ≠ s := by have := hX4.lt; omega
  have hs4 : w.heap.size ≤ w4.heap.size := hq4.size
  have hs5 : w.heap.size ≤ w5.heap.size := hb5.size
  have hcb4 : cb ≠ w4.heap.size := by have := hC4.lt; omega
  obtain ⟨nb, hnb⟩ : ∃ n, w4.heap.size = n := ⟨_, rfl⟩
  rw [hnb] at hN5 hd6 hfr hs4 hcb4 ⊢
  replace hd6 : Hid _ := hd6
  clear hcl hC4 hX4 c1 hq5 hq4 hnb hdo hN5 hW5
  go_wp2_with fail
  refine Calls.mono hd6.out ?_
  rintro e w6 ⟨rfl, hC6, hb6⟩
  have hX6 := hb6.has hX5 hfr.symm
  have hCo6 := hC5.but hb6 hcb4
  have hB6 : Below w.heap.size w w6 := hb5.trans (hb6.below hs4 hs5)
  have hf7 := fits_any s j cb (16 * n) nb (doL l t) w6 hX6 hC6 hsz
  rw [decide_eq_true hyes'.out] at hf7
  replace hf7 : Hid _ := hf7
  clear hd6 hX5 hb6 hb5 hC5
  go_wp2_with fail
  refine Calls.mono hf7.out ?_
  rintro e w7 ⟨rfl, hq7⟩
  have hB7 := hB6.trans (hq7.mono hB6.size)
  have hX7 := hX6.later hq7
  have hC7 := hC6.later hq7
  have hCo7 := hCo6.later hq7
  have hJ7 := hJ.later hB7
  have hW7 := hW.later hB7
  have hnF : ¬ FJ j p kb mb lo nb := fun z => by have := hJ.lt _ z; omega
  have hk8 := hkp.out nb w7 hX7 hJ7 hW7 hC7 hnF
  have hs7 := hB7.size
  replace hk8 : Hid _ := hk8
  clear hf7 hq7 hB6 hX6 hC6 hCo6 hJ hW hJ7 hW7 hkp
  go_wp2_with fail
  refine Calls.mono hk8.out ?_
  clear hk8
  have hO7 : ∀ {G : Nat → Prop}, OffF G w w7 := OffF.of hB7
  rintro e w8 (⟨rfl, lo', lc', left', ts', hl, hJ8, hts, hFJ, ho⟩ | ⟨rfl, hne, ⟨ts', hts, hcut⟩, ⟨h8, hJ8⟩, ho⟩)
  · have hX8 := ho.has hX7 hap.2.1
    have hC8 := hC7.off ho hnF
    have hX9 := hX8.set 1 (.map (some nb))
    have hJ9 : JOk (w8.setCell ⟨s, 1, none⟩ (.map (some nb))) j p kb mb n left' lo' lc' (ts'.map recM) (N + 1) := by
      refine hJ8.off (G := fun k => k = s) (OffF.but ⟨?_, ?_, ?_, ?_, ?_⟩) ?_
      · exact ((Below.refl 0 w8).setCell (show 0 ≤ (⟨s, 1, none⟩ : Addr).block from Nat.zero_le _) _).os
      · exact ((Below.refl 0 w8).setCell (show 0 ≤ (⟨s, 1, none⟩ : Addr).block from Nat.zero_le _) _).tape
      · exact ((Below.refl 0 w8).setCell (show 0 ≤ (⟨s, 1, none⟩ : Addr).block from Nat.zero_le _) _).output
      · exact ((Below.refl 0 w8).setCell (show 0 ≤ (⟨s, 1, none⟩ : Addr).block from Nat.zero_le _) _).size
      · exact fun k _ hk => Below.heap_setCell w8 ⟨s, 1, none⟩ _ k hk
      · rintro k hk rfl
        rcases hFJ k hk with z | z
        · exact hap.2.1 z
        · have := hX7.lt; omega
    have hC9 : ContAt (w8.setCell ⟨s, 1, none⟩ (.map (some nb))) nb (doL l t) := hC8.block (Below.heap_setCell w8 ⟨s, 1, none⟩ _ nb hfr)
    have hO9 : OffF F w (w8.setCell ⟨s, 1, none⟩ (.map (some nb))) := by
      have h1 : OffF F w w8 := hO7.trans (ho.more (fun k hk => hF.out k (.inr (.inr hk))))
      have h2 := (Below.refl 0 w8).setCell (show 0 ≤ (⟨s, 1, none⟩ : Addr).block from Nat.zero_le _) (.map (some nb))
      exact h1.trans ⟨h2.os, h2.tape, h2.output, h2.size, fun k _ hk => Below.heap_setCell w8 ⟨s, 1, none⟩ _ k (fun e => hk (hF.out k (.inl e)))⟩
    have hsz9 : (w8.setCell ⟨s, 1, none⟩ (.map (some nb))).heap.size = w8.heap.size := by simp [World.setCell]
    have hs8 := ho.size
    have hnbl : nb < w8.heap.size := hC8.lt
    have hsl : s < w8.heap.size := hX8.lt
    have hX9' : Has (w8.setCell ⟨s, 1, none⟩ (.map (some nb))) s 55 (stoC j nb (16 * n)) := hX9
    have c8 : w8.cell? ⟨s, 1, none⟩ = some (.map (some cb)) := hX8.sto_has
    have z8 := hX8.free 1
    have hFJ' : ∀ k, FJ j p kb mb lo' k → F k ∨ w.heap.size ≤ k := fun k hk => (hFJ k hk).imp (fun z => hF.out k (.inr (.inr z))) (fun z => Nat.le_trans hs7 z)
    have hfin : Hid (DidR w s p kb mb n left F l (doL l t) N (.returned (.int .i64 0)) (w8.setCell ⟨s, 1, none⟩ (.map (some nb)))) := by
      refine .inl ⟨rfl, fun k => k = s ∨ k = nb ∨ FJ j p kb mb lo' k, left', hl, ⟨⟨j, nb, lo', lc', ts', hX9', hJ9, hC9, ?_, ?_, ⟨hfr.symm, ?_, ?_⟩, fun k hk => hk⟩, hyes'.out, hn32, ?_⟩, ?_, hO9⟩
      · rcases hts with rfl | rfl
        · exact hru.out.snoc htx.out (by rw [hen.out]; exact hyes'.out)
        · exact (Runs.one hOk.out hyes'.out).1
      · rcases hts with rfl | rfl
        · rw [endL_snoc, hen.out]
        · exact (Runs.one hOk.out hyes'.out).2
      · intro z
        rcases hFJ s z with z | z
        · exact hap.2.1 z
        · have := hX7.lt; omega
      · intro z
        rcases hFJ nb z with z | z
        · exact hnF z
        · have := hC7.lt; omega
      · rintro k (rfl | rfl | hk)
        · rw [hsz9]; exact hsl
        · rw [hsz9]; exact hnbl
        · exact hJ9.lt k hk
      · rintro k (rfl | rfl | hk)
        · exact .inl (hF.out _ (.inl rfl))
        · exact .inr hs4
        · exact hFJ' k hk
    clear hX8 hC8 hX9 hJ9 hC9 hO9 hX9' hFJ' hsz9 hX7 hC7 hCo7 hJ8 hFJ ho hB7 hO7 hts
    go_wp2
    go_ret
    exact hfin.out
  · have hX8 := ho.has hX7 hap.2.1
    have hCo8 := hCo7.off ho hap.2.2
    have hO8 : OffF F w w8 := hO7.trans (ho.more (fun k hk => hF.out k (.inr (.inr hk))))
    have hfin : Hid (DidR w s p kb mb n left F l (doL l t) N (.returned (.int .i64 131)) w8) := by
      refine .inr ⟨rfl, hne, ⟨⟨j, cb, lo, _, lc, h8, hX8, hJ8, hCo8, hF.out _ (.inl rfl), hF.out _ (.inr (.inr (.inl rfl))), hF.out _ (.inr (.inl rfl))⟩, hcut.mono ?_, fun k hk => hF.out k (.inr (.inr (.inr (.inl hk)))), hn32, fun k hk => Nat.lt_of_lt_of_le (hFl.out k hk) hO8.size⟩, hO8⟩
      rintro E (hE | hE)
      · exact ⟨ts, hru.out, .inl hen.out, hE⟩
      · refine ⟨ts', ?_, .inr ?_, hE⟩
        · rcases hts with rfl | rfl
          · exact hru.out.snoc htx.out (by rw [hen.out]; exact hyes'.out)
          · exact (Runs.one hOk.out hyes'.out).1
        · rcases hts with rfl | rfl
          · rw [endL_snoc, hen.out]
          · exact (Runs.one hOk.out hyes'.out).2
    clear hX8 hCo8 hO8 hX7 hC7 hCo7 hJ8 ho hB7 hO7 hts hcut hne
    go_wp2
    go_ret
    exact hfin.out
end
end Go.Proofs.YtpnpjblohijajabGreat
