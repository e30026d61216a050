/- JnlApp1, JnlForm1, joined. -/
import Derived.Test.YtpnpjblohijajabGreatGrp27
namespace Go.Proofs.YtpnpjblohijajabGreat
section
set_option linter.unusedSimpArgs false
set_option linter.unusedVariables false
set_option maxRecDepth 100000
open Go.RowKit Go.MapKept

/-- What a call that was cut off leaves. -/
def CutJ (w : World) (j p kb mb n : Nat) (d : DskV) (h f : HdV) (ls : List (List UInt8)) (lo : Option Addr) (lc : Nat) (l : List (List UInt8)) (W : World) : Prop :=
  d.left ≠ 0 ∧ ∃ d', CutAt n d h f ls d' ∧ JAt W j p kb mb n d' h lo lc l false ∧ OffF (FJ j p kb mb lo) w W
theorem CutX.cutJ {w v W : World} {j p kb mb n : Nat} {d : DskV} {h f : HdV} {ls l : List (List UInt8)} {lo : Option Addr} {lc : Nat} (H : JAt v j p kb mb n d h lo lc l false) (hq : OffF (FJ j p kb mb lo) w v) (hx : CutX v j p kb mb n d h f ls lo l.length lc false W) : CutJ w j p kb mb n d h f ls lo lc l W := by
  obtain ⟨hne, d', hc, hD, hJ, ho⟩ := hx
  exact ⟨hne, d', hc, H.turn ho hD hJ, hq.trans (ho.more (fun k hk => hk.elim .inl (fun z => .inr (.inl z))))⟩
set_option maxHeartbeats 8000000 in
theorem append1_any (j p kb mb n : Nat) (d : DskV) (h : HdV) (lo : Option Addr) (lc : Nat) (l : List (List UInt8)) (s : List UInt8) (bs bj : Nat) (w : World)
    (hs : Has w bs 9 #[strV s]) (hj : Has w bj 40 #[.pointer (some ⟨j, 0, none⟩)]) (H : JAt w j p kb mb n d h lo lc l false) (ho : d.off = false) (hp : d.pend = []) (hn : 8 ≤ n) (hh : h.half ≤ 1) (hnum : h.num < 255) (hsum : h.sum < 18446744073709551616)
    (hs20 : s.length ≤ 20000) (hroom : takenM l + (s.length + 16) ≤ limitM n) (hfit : 64 * firstM n h.half + h.len + (s.length + 2) + 64 ≤ 64 * n) (hbs : ¬ FJ j p kb mb lo bs) (hbj : ¬ FJ j p kb mb lo bj) :
    Calls Tryz.prog 66 #[.pointer (some ⟨bs, 0, none⟩), .pointer (some ⟨bj, 0, none⟩)] w fun e w' =>
      (e = .returned (.tuple #[]) ∧ ∃ d' lo' lc', KeptAt n d h h [s] d' ∧ JAt w' j p kb mb n d' (nextM h h [s]) lo' lc' (l ++ [s]) false ∧ (∀ k, FJ j p kb mb lo' k → FJ j p kb mb lo k ∨ w.heap.size ≤ k) ∧ OffF (FJ j p kb mb lo) w w') ∨
      (e = thrownJ 131 ∧ CutJ w j p kb mb n d h h [s] lo lc l w') := by
  have hn1 := H.disk.n1
  have cs : ∀ W, Below w.heap.size w W → W.cell? ⟨bs, 0, none⟩ = some (strV s) := fun W hS => (hs.later hS).cell 0
  have cj : ∀ W, Below w.heap.size w W → W.cell? ⟨bj, 0, none⟩ = some (.pointer (some ⟨j, 0, none⟩)) := fun W hS => (hj.later hS).cell 0
  have cr : ∀ W, Below w.heap.size w W → W.cell? ⟨j, 5, none⟩ = some (.slice lo l.length lc) := fun W hS => ((H.jnl.later hS).cell 5).trans rfl
  have cd : ∀ W, Below w.heap.size w W → W.cell? ⟨j, 0, none⟩ = some (.pointer (some ⟨p, 0, none⟩)) := fun W hS => ((H.jnl.later hS).cell 0).trans rfl
  have hir := fun W => isRecord_any s W
  rw [show decide (s.length ≤ 20000) = true from decide_eq_true hs20] at hir
  have hlim : limitM n ≤ 1000000 := by unfold limitM; omega
  have ht1 : ∀ W, Below w.heap.size w W → Calls Tryz.prog 68 #[.slice lo l.length lc] W fun e w' => e = .returned (.int .i64 (takenM l : Nat)) ∧ w' = W := fun W hS => taken_any lo lc l W (H.strs.1.later hS) (by omega)
  have ht2 : ∀ W, Below w.heap.size w W → Calls Tryz.prog 68 #[.slice (some ⟨W.heap.size, 0, none⟩) 1 1] (W.alloc (.cells #[strV s] 9)) fun e w' => e = .returned (.int .i64 (s.length + 16 : Nat)) ∧ w' = W.alloc (.cells #[strV s] 9) := fun W hS => by
    have := taken_any (some ⟨W.heap.size, 0, none⟩) 1 [s] (W.alloc (.cells #[strV s] 9)) (Strs.new W s (0, 0)) (by show (s.length + 16) + 0 ≤ _; omega)
    exact this
  have ht3 : ∀ W, Below w.heap.size w W → Calls Tryz.prog 69 #[.pointer (some ⟨p, 0, none⟩)] W fun e w' => e = .returned (.int .i64 (limitM n : Nat)) ∧ w' = W := fun W hS => limit_any p kb mb n d W (H.disk.later hS) hn
  have hroom0 : Hid (takenM l ≤ 1000000) := by show _ ≤ _; omega
  obtain ⟨L, hL⟩ : ∃ L, l.length = L := ⟨_, rfl⟩
  obtain ⟨T, hT⟩ : ∃ T, takenM l = T := ⟨_, rfl⟩
  obtain ⟨U, hU⟩ : ∃ U, s.length + 16 = U := ⟨_, rfl⟩
  obtain ⟨M, hM⟩ : ∃ M, limitM n = M := ⟨_, rfl⟩
  rw [hL] at cr ht1
  rw [hT] at ht1 hroom
  rw [hU] at ht2 hroom
  rw [hM] at ht3 hroom hlim
  have e1 : IntKind.i64.wrap ((T : Int) + (U : Int)) = (T : Int) + (U : Int) := by rw [IntKind.wrap_i64]; omega
  have e2 : decide ((T : Int) + (U : Int) ≤ (M : Int)) = true := decide_eq_true (by omega)
  have e3 : (T : Int) + (U : Int) ≤ (M : Int) := by omega
  unfold strV at cs ht2 hir
  replace cs : Hid _ := cs
  replace cj : Hid _ := cj
  replace cr : Hid _ := cr
  replace cd : Hid _ := cd
  replace hir : Hid _ := hir
  replace ht1 : Hid _ := ht1
  replace ht2 : Hid _ := ht2
  replace ht3 : Hid _ := ht3
  replace hL : Hid _ := hL
  clear hT hU hM
  have c0 := cs.out w (Below.refl _ _)
  go_enter Tryz.func66, Tryz.ntmps66
  go_wp2_with fail
  refine Calls.mono (hir.out _) ?_
  rintro e w9 ⟨rfl, h9⟩
  have h9' := h9.symm
  clear h9 hir
  subst h9'
  go_wp2_with (first
    | (go_at_call 33; refine (must_yes 10 _).mono ?_; rintro e w9 ⟨rfl, h9⟩; have h9' := h9.symm; clear h9; subst h9')
    | fail)
  let F1 : Act → Act → World → Prop := fun a a' w' => a' = ((((((((((((((((a.put (some 5) (.pointer (some ⟨j, 0, none⟩))).put (some 6) (.pointer (some ⟨j, 0, none⟩))).put (some 7) (.pointer (some ⟨j, 5, none⟩))).put (some 8) (.slice lo L lc)).put (some 9) (.int .i64 (T : Int))).put (some 10) (.string (mkS s))).put (some 11) (.slice (some ⟨w.heap.size, 0, none⟩) 1 1)).put (some 12) (.int .i64 (U : Int))).put (some 13) (.int .i64 ((T : Int) + (U : Int)))).put (some 14) (.pointer (some ⟨j, 0, none⟩))).put (some 15) (.pointer (some ⟨j, 0, none⟩))).put (some 16) (.pointer (some ⟨j, 0, none⟩))).put (some 17) (.pointer (some ⟨p, 0, none⟩))).put (some 18) (.int .i64 (M : Int))).put (some 19) (.bool true)).put (some 20) (.tuple #[])) ∧ w' = w.drew.alloc (.cells #[.string (mkS s)] 9)
  refine wp_region_plan_mid (fun W => Below w.heap.size w W) (Plan.of [(0, true), (1, true), (2, true), (3, true), (5, true), (9, true), (10, true), (11, true), (12, true)] (.either 4 (Plan.of [(6, false), (7, false), (8, true), (13, false), (14, true), (15, false)] .done) 6 (Plan.of [(4, false), (7, false), (8, true), (13, false), (14, true), (15, false)] .done))) F1 (by kernel_rfl) (by kernel_rfl) (by kernel_rfl) (by kernel_rfl) (Below.refl _ _).drew ?_ ?_
  · have hb1 : Below w.heap.size w w.drew := (Below.refl _ _).drew
    have hbA : Below w.heap.size w (w.drew.alloc (.cells #[.string (mkS s)] 9)) := hb1.alloc (Nat.le_refl _) _
    iterate 1
      first
        | (refine plan_pass _ rfl (by rfl) ?_)
        | (refine plan_take _ _ rfl (.inl ⟨by rfl, fun W hS => by have z := cj.out W hS; go_simp; try with_reducible rfl⟩) ?_)
      try simp only [Act.put, List.setIfInBounds_toArray, List.set_cons_zero, List.set_cons_succ]
    iterate 2
      first
        | (refine plan_pass _ rfl (by rfl) ?_)
        | (refine plan_take _ _ rfl (.inl ⟨by rfl, fun W hS => by clear hS; go_simp; try with_reducible rfl⟩) ?_)
      try simp only [Act.put, List.setIfInBounds_toArray, List.set_cons_zero, List.set_cons_succ]
    iterate 1
      first
        | (refine plan_pass _ rfl (by rfl) ?_)
        | (refine plan_take _ _ rfl (.inl ⟨by rfl, fun W hS => by have z := cr.out W hS; go_simp; try with_reducible rfl⟩) ?_)
      try simp only [Act.put, List.setIfInBounds_toArray, List.set_cons_zero, List.set_cons_succ]
    iterate 1
      first
        | (refine plan_pass _ rfl (by rfl) ?_)
        | (refine plan_take _ _ rfl (.inl ⟨by rfl, fun W hS => by have z := cs.out W hS; go_simp; try with_reducible rfl⟩) ?_)
      try simp only [Act.put, List.setIfInBounds_toArray, List.set_cons_zero, List.set_cons_succ]
    iterate 1
      first
        | (refine plan_pass _ rfl (by rfl) ?_)
        | (refine plan_take _ _ rfl (.inl ⟨by rfl, fun W hS => by have z := cj.out W hS; go_simp; try with_reducible rfl⟩) ?_)
      try simp only [Act.put, List.setIfInBounds_toArray, List.set_cons_zero, List.set_cons_succ]
    iterate 2
      first
        | (refine plan_pass _ rfl (by rfl) ?_)
        | (refine plan_take _ _ rfl (.inl ⟨by rfl, fun W hS => by clear hS; go_simp; try with_reducible rfl⟩) ?_)
      try simp only [Act.put, List.setIfInBounds_toArray, List.set_cons_zero, List.set_cons_succ]
    iterate 1
      first
        | (refine plan_pass _ rfl (by rfl) ?_)
        | (refine plan_take _ _ rfl (.inl ⟨by rfl, fun W hS => by have z := cd.out W hS; go_simp; try with_reducible rfl⟩) ?_)
      try simp only [Act.put, List.setIfInBounds_toArray, List.set_cons_zero, List.set_cons_succ]
    refine plan_either ?_ ?_
    · skip
      refine plan_run _ rfl (fun K' hK' => ?_)
      go_simp
      refine Calls.mono (ht1.out _ hb1) ?_
      rintro e w9 ⟨rfl, h9⟩
      have h9' := h9.symm
      clear h9
      subst h9'
      refine hK'.out _ _ hb1 ?_
      clear hK' K'
      try simp only [Act.put, List.setIfInBounds_toArray, List.set_cons_zero, List.set_cons_succ]
      refine plan_run _ rfl (fun K' hK' => ?_)
      go_simp
      refine hK'.out _ _ hbA ?_
      clear hK' K'
      try simp only [Act.put, List.setIfInBounds_toArray, List.set_cons_zero, List.set_cons_succ]
      refine plan_run _ rfl (fun K' hK' => ?_)
      go_simp
      refine Calls.mono (ht2.out _ hb1) ?_
      rintro e w9 ⟨rfl, h9⟩
      rw [h9]
      refine hK'.out _ _ hbA ?_
      clear hK' K' h9
      try simp only [Act.put, List.setIfInBounds_toArray, List.set_cons_zero, List.set_cons_succ]
      refine plan_take _ (.int .i64 ((T : Int) + (U : Int))) rfl (.inl ⟨by rfl, fun W hS => by clear hS; go_simp⟩) ?_
      try simp only [Act.put, List.setIfInBounds_toArray, List.set_cons_zero, List.set_cons_succ]
      refine plan_run _ rfl (fun K' hK' => ?_)
      go_simp
      refine Calls.mono (ht3.out _ hbA) ?_
      rintro e w9 ⟨rfl, h9⟩
      rw [h9]
      refine hK'.out _ _ hbA ?_
      clear hK' K' h9
      try simp only [Act.put, List.setIfInBounds_toArray, List.set_cons_zero, List.set_cons_succ]
      refine plan_take _ (.bool true) rfl (.inl ⟨by rfl, fun W hS => by clear hS; go_simp; try with_reducible rfl⟩) ?_
      try simp only [Act.put, List.setIfInBounds_toArray, List.set_cons_zero, List.set_cons_succ]
      refine plan_run _ rfl (fun K' hK' => ?_)
      go_simp
      refine (must_yes 140 _).mono ?_
      rintro e w9 ⟨rfl, h9⟩
      rw [h9]
      refine hK'.out _ _ hbA ?_
      clear hK' K' h9
      try simp only [Act.put, List.setIfInBounds_toArray, List.set_cons_zero, List.set_cons_succ]
      refine plan_done (mid_done ?_)
      exact ⟨(by simp only [Act.put, List.setIfInBounds_toArray, List.set_cons_zero, List.set_cons_succ]), rfl⟩
    · skip
      refine plan_run _ rfl (fun K' hK' => ?_)
      go_simp
      refine hK'.out _ _ hbA ?_
      clear hK' K'
      try simp only [Act.put, List.setIfInBounds_toArray, List.set_cons_zero, List.set_cons_succ]
      refine plan_run _ rfl (fun K' hK' => ?_)
      go_simp
      refine Calls.mono (ht1.out _ hbA) ?_
      rintro e w9 ⟨rfl, h9⟩
      have h9' := h9.symm
      clear h9
      subst h9'
      refine hK'.out _ _ hbA ?_
      clear hK' K'
      try simp only [Act.put, List.setIfInBounds_toArray, List.set_cons_zero, List.set_cons_succ]
      refine plan_run _ rfl (fun K' hK' => ?_)
      go_simp
      refine Calls.mono (ht2.out _ hb1) ?_
      rintro e w9 ⟨rfl, h9⟩
      rw [h9]
      refine hK'.out _ _ hbA ?_
      clear hK' K' h9
      try simp only [Act.put, List.setIfInBounds_toArray, List.set_cons_zero, List.set_cons_succ]
      refine plan_take _ (.int .i64 ((T : Int) + (U : Int))) rfl (.inl ⟨by rfl, fun W hS => by clear hS; go_simp⟩) ?_
      try simp only [Act.put, List.setIfInBounds_toArray, List.set_cons_zero, List.set_cons_succ]
      refine plan_run _ rfl (fun K' hK' => ?_)
      go_simp
      refine Calls.mono (ht3.out _ hbA) ?_
      rintro e w9 ⟨rfl, h9⟩
      rw [h9]
      refine hK'.out _ _ hbA ?_
      clear hK' K' h9
      try simp only [Act.put, List.setIfInBounds_toArray, List.set_cons_zero, List.set_cons_succ]
      refine plan_take _ (.bool true) rfl (.inl ⟨by rfl, fun W hS => by clear hS; go_simp; try with_reducible rfl⟩) ?_
      try simp only [Act.put, List.setIfInBounds_toArray, List.set_cons_zero, List.set_cons_succ]
      refine plan_run _ rfl (fun K' hK' => ?_)
      go_simp
      refine (must_yes 140 _).mono ?_
      rintro e w9 ⟨rfl, h9⟩
      rw [h9]
      refine hK'.out _ _ hbA ?_
      clear hK' K' h9
      try simp only [Act.put, List.setIfInBounds_toArray, List.set_cons_zero, List.set_cons_succ]
      refine plan_done (mid_done ?_)
      exact ⟨(by simp only [Act.put, List.setIfInBounds_toArray, List.set_cons_zero, List.set_cons_succ]), rfl⟩
  · rintro a' w2 ⟨rfl, hw2⟩
    try simp only [Act.put, List.setIfInBounds_toArray, List.set_cons_zero, List.set_cons_succ]
    have hb2 : Below w.heap.size w w2 := by rw [hw2]; exact (Below.refl _ _).drew.alloc (Nat.le_refl _) _
    have H3 := (H.later hb2).drew
    have hb3 : Below w.heap.size w w2.drew := hb2.drew
    clear F1 hw2 ht1 ht2 ht3 e1 e2 e3
    go_wp2_with fail
    let F2 : Act → Act → World → Prop := fun a a' w' => ∃ (g : Nat) (d' : DskV), a' = ((((((((a.put (some 21) (.pointer (some ⟨j, 0, none⟩))).put (some 22) (.pointer (some ⟨j, 0, none⟩))).put (some 23) (.pointer (some ⟨j, 0, none⟩))).put (some 24) (.pointer (some ⟨j, 1, none⟩))).put (some 25) (.agg (hdC h))).put (some 26) (.string (mkS s))).put (some 27) (.slice (some ⟨g, 0, none⟩) 1 1)).put (some 28) (.tuple #[])) ∧ KeptAt n d h h [s] d' ∧ JAt w' j p kb mb n d' (nextM h h [s]) lo lc l false ∧ OffF (FJ j p kb mb lo) w w'
    refine wp_region_plan_pm (fun W => OffF (FJ j p kb mb lo) w2.drew W) (Plan.of [(0, true), (1, true), (2, true), (3, true), (5, true)] (.either 4 (Plan.of [(6, false), (7, false)] .done) 6 (Plan.of [(4, false), (7, false)] .done))) (fun ch W => ch = [{ v := .iface 25 (.int .i64 131), recovered := false }] ∧ CutJ w j p kb mb n d h h [s] lo lc l W) F2 (by kernel_rfl) (by kernel_rfl) (by kernel_rfl) (by kernel_rfl) (OffF.of (Below.refl _ _)) ?_ ?_ ?_
    · rintro ch a' w' ⟨rfl, hx⟩ hd
      exact ⟨hd, .inr ⟨rfl, hx⟩⟩
    · generalize w2.drew = w3 at *
      have hs3 := hs.later hb3
      have hj3 := hj.later hb3
      obtain ⟨w4, hw4, hA4, hq34'⟩ := one_var w3 9 #[.string (mkS s)]
      have hq34 : OffF (FJ j p kb mb lo) w3 w4 := OffF.of hq34'
      have H4 := H3.later hq34'
      have hq4 : OffF (FJ j p kb mb lo) w w4 := OffF.of (hb3.trans (hq34'.mono hb3.size))
      have hSA : OffF (FJ j p kb mb lo) w3 (w3.alloc (.cells #[strV s] 9)) := by unfold strV; rw [hw4]; exact hq34
      have hsh : (sheetB [s]).length = s.length + 2 := by rw [sheetB_cons, sheetB_nil, List.append_nil, recB_length]
      have hw3 : w.heap.size ≤ w3.heap.size := hb3.size
      have hke := keep_any j p kb mb n d h h lo l.length lc false (some ⟨w3.heap.size, 0, none⟩) 1 [s] w4 H4.jnl H4.disk ho hp hn hh hnum hsum (by rw [← hw4]; exact Strs.new w3 s (0, 0))
        (fun ad had => by
          cases had
          refine ⟨hA4.lt, fun z => ?_, fun z => ?_⟩
          · have := H.lt _ (.inl rfl)
            have z : w3.heap.size = j := z
            omega
          · have := H.lt _ (.inr (.inl z))
            have this : w3.heap.size < w.heap.size := this
            omega) H.jF (fun r hr => by rw [List.mem_singleton] at hr; rw [hr]; exact hs20) (by rw [hsh]; omega)
      rw [hL.out] at hke
      replace hke : Hid _ := hke
      iterate 2
        first
          | (refine plan_pass _ rfl (by rfl) ?_)
          | (refine plan_take _ _ rfl (.inl ⟨by rfl, fun W hS => by have z : W.cell? ⟨bj, 0, none⟩ = some (.pointer (some ⟨j, 0, none⟩)) := (hS.has hj3 hbj).cell 0; go_simp; try with_reducible rfl⟩) ?_)
        try simp only [Act.put, List.setIfInBounds_toArray, List.set_cons_zero, List.set_cons_succ]
      iterate 2
        first
          | (refine plan_pass _ rfl (by rfl) ?_)
          | (refine plan_take _ _ rfl (.inl ⟨by rfl, fun W hS => by clear hS; go_simp; try with_reducible rfl⟩) ?_)
        try simp only [Act.put, List.setIfInBounds_toArray, List.set_cons_zero, List.set_cons_succ]
      iterate 1
        first
          | (refine plan_pass _ rfl (by rfl) ?_)
          | (refine plan_take _ _ rfl (.inl ⟨by rfl, fun W hS => by have z : W.cell? ⟨bs, 0, none⟩ = some (strV s) := (hS.has hs3 hbs).cell 0; go_simp; try with_reducible rfl⟩) ?_)
        try simp only [Act.put, List.setIfInBounds_toArray, List.set_cons_zero, List.set_cons_succ]
      refine plan_either ?_ ?_
      · skip
        refine plan_nowJ _ (.agg (hdC h)) rfl (by rfl) (yields_load_part (by rfl) 73 _ rfl j 1 rfl (hdC h).toList _ Tryz.underlying73 rfl (hd_size' h) (fun W hW => by rw [hW]; exact hd_range (H3).jnl)) (OffF.of (Below.refl _ _)) ?_
        try simp only [Act.put, List.setIfInBounds_toArray, List.set_cons_zero, List.set_cons_succ]
        refine plan_sliceS _ rfl (by rfl) _ rfl s rfl hSA ?_
        unfold strV
        rw [hw4]
        try simp only [Act.put, List.setIfInBounds_toArray, List.set_cons_zero, List.set_cons_succ]
        refine plan_run _ rfl (fun K' hK' => ?_)
        go_simp
        refine Calls.mono hke.out ?_
        rintro e w5 hh
        replace hh := hh.symm
        rcases hh with ⟨rfl, hx⟩ | ⟨rfl, d', hk', hD', hJ', ho'⟩
        · unfold thrownJ
          exact pan_here ⟨rfl, CutX.cutJ H4 hq4 (by rw [hL.out]; exact hx)⟩ rfl
        have ho5 : OffF (FJ j p kb mb lo) w4 w5 := ho'.more (fun k hk => hk.elim .inl (fun z => .inr (.inl z)))
        refine hK'.out _ _ (hq34.trans ho5) ?_
        clear hK' K'
        try simp only [Act.put, List.setIfInBounds_toArray, List.set_cons_zero, List.set_cons_succ]
        refine plan_done_p (mid_done ?_)
        exact ⟨w3.heap.size, d', (by simp only [Act.put, List.setIfInBounds_toArray, List.set_cons_zero, List.set_cons_succ]), hk', H4.turn ho' hD' (by rw [hL.out]; exact hJ'), hq4.trans ho5⟩
      · skip
        refine plan_sliceS _ rfl (by rfl) _ rfl s rfl hSA ?_
        unfold strV
        rw [hw4]
        try simp only [Act.put, List.setIfInBounds_toArray, List.set_cons_zero, List.set_cons_succ]
        refine plan_nowJ _ (.agg (hdC h)) rfl (by rfl) (yields_load_part (by rfl) 73 _ rfl j 1 rfl (hdC h).toList _ Tryz.underlying73 rfl (hd_size' h) (fun W hW => by rw [hW]; exact hd_range (H4).jnl)) hq34 ?_
        try simp only [Act.put, List.setIfInBounds_toArray, List.set_cons_zero, List.set_cons_succ]
        refine plan_run _ rfl (fun K' hK' => ?_)
        go_simp
        refine Calls.mono hke.out ?_
        rintro e w5 hh
        replace hh := hh.symm
        rcases hh with ⟨rfl, hx⟩ | ⟨rfl, d', hk', hD', hJ', ho'⟩
        · unfold thrownJ
          exact pan_here ⟨rfl, CutX.cutJ H4 hq4 (by rw [hL.out]; exact hx)⟩ rfl
        have ho5 : OffF (FJ j p kb mb lo) w4 w5 := ho'.more (fun k hk => hk.elim .inl (fun z => .inr (.inl z)))
        refine hK'.out _ _ (hq34.trans ho5) ?_
        clear hK' K'
        try simp only [Act.put, List.setIfInBounds_toArray, List.set_cons_zero, List.set_cons_succ]
        refine plan_done_p (mid_done ?_)
        exact ⟨w3.heap.size, d', (by simp only [Act.put, List.setIfInBounds_toArray, List.set_cons_zero, List.set_cons_succ]), hk', H4.turn ho' hD' (by rw [hL.out]; exact hJ'), hq4.trans ho5⟩
    · rintro a' w6 ⟨g, d', rfl, hk', H6, hq6⟩
      try simp only [Act.put, List.setIfInBounds_toArray, List.set_cons_zero, List.set_cons_succ]
      have H7 := H6.drew
      have hq67 : OffF (FJ j p kb mb lo) w w6.drew := hq6.trans (OffF.of (Below.refl _ _).drew)
      have hs7 := (hq6.has hs hbs).drew
      have hj7 := (hq6.has hj hbj).drew
      have hLb : L ≤ 1000000 := by
        have := sheet_taken l
        rw [← hL.out]
        have q := hroom0.out
        omega
      have hscl := fun W => sclone_any s W (by omega)
      unfold strV at hscl
      replace hscl : Hid _ := hscl
      clear F2
      go_wp2_with fail
      refine wp_region_plan (fun W => OffF (FJ j p kb mb lo) w6.drew W) (Plan.of [(0, true), (1, true), (2, true), (3, true), (5, true)] (.either 4 (Plan.of [(6, false), (7, false), (8, false), (9, true), (10, true), (11, false)] .done) 6 (.either 4 (Plan.of [(7, false), (8, false), (9, true), (10, true), (11, false)] .done) 7 (Plan.of [(4, false), (8, false), (9, true), (10, true), (11, false)] .done)))) (by kernel_rfl) (by kernel_rfl) (by kernel_rfl) (by kernel_rfl) (OffF.of (Below.refl _ _)) ?_
      generalize w6.drew = w7 at *
      iterate 2
        first
          | (refine plan_pass _ rfl (by rfl) ?_)
          | (refine plan_take _ _ rfl (.inl ⟨by rfl, fun W hS => by have z : W.cell? ⟨bj, 0, none⟩ = some (.pointer (some ⟨j, 0, none⟩)) := (hS.has hj7 hbj).cell 0; go_simp; try with_reducible rfl⟩) ?_)
        try simp only [Act.put, List.setIfInBounds_toArray, List.set_cons_zero, List.set_cons_succ]
      iterate 2
        first
          | (refine plan_pass _ rfl (by rfl) ?_)
          | (refine plan_take _ _ rfl (.inl ⟨by rfl, fun W hS => by clear hS; go_simp; try with_reducible rfl⟩) ?_)
        try simp only [Act.put, List.setIfInBounds_toArray, List.set_cons_zero, List.set_cons_succ]
      iterate 1
        first
          | (refine plan_pass _ rfl (by rfl) ?_)
          | (refine plan_take _ _ rfl (.inl ⟨by rfl, fun W hS => by have z : W.cell? ⟨bs, 0, none⟩ = some (strV s) := (hS.has hs7 hbs).cell 0; go_simp; try with_reducible rfl⟩) ?_)
        try simp only [Act.put, List.setIfInBounds_toArray, List.set_cons_zero, List.set_cons_succ]
      refine plan_either ?_ ?_
      · skip
        refine plan_nowJ _ (.slice lo L lc) rfl (by rfl) (.inl ⟨by rfl, fun W hW => by subst hW; have z : W.cell? ⟨j, 5, none⟩ = some (.slice lo L lc) := by {rw [← hL.out]; exact (H7.jnl.cell 5).trans rfl}; go_simp; try with_reducible rfl⟩) (OffF.of (Below.refl _ _)) ?_
        try simp only [Act.put, List.setIfInBounds_toArray, List.set_cons_zero, List.set_cons_succ]
        refine plan_run _ rfl (fun K' hK' => ?_)
        go_simp
        refine (hscl.out w7).mono ?_
        rintro e w8 ⟨rfl, hq8⟩
        have H8 := H7.later hq8
        have w8S : OffF (FJ j p kb mb lo) w7 w8 := (OffF.of (Below.refl _ _)).trans (OffF.of hq8)
        refine hK'.out _ _ w8S ?_
        clear hK' K'
        try simp only [Act.put, List.setIfInBounds_toArray, List.set_cons_zero, List.set_cons_succ]
        refine plan_sliceS _ rfl (by rfl) _ rfl s rfl (w8S.trans (OffF.of ((Below.refl _ _).alloc (Nat.le_refl _) _))) ?_
        obtain ⟨w9, hw9, hw9A, hw9q⟩ := one_var w8 9 #[strV s]
        have hN := Strs.new w8 s (0, 0)
        rw [hw9] at hN ⊢
        have H9 := H8.later hw9q
        have w9S : OffF (FJ j p kb mb lo) w7 w9 := w8S.trans (OffF.of hw9q)
        obtain ⟨g9, hg9⟩ : ∃ g, w8.heap.size = g := ⟨_, rfl⟩
        rw [hg9] at hN hw9A ⊢
        try simp only [Act.put, List.setIfInBounds_toArray, List.set_cons_zero, List.set_cons_succ]
        have hsz9 : w.heap.size ≤ w9.heap.size := Nat.le_trans hq67.size w9S.size
        refine plan_appS2 _ rfl (by rfl) _ _ rfl 0 (.slice lo L lc) L l rfl ⟨g9, 0, none⟩ 1 1 [s] rfl (by rw [← hL.out]; exact H9.row) hN rfl (by omega) (Nat.zero_le _) ?_
        intro lo' c' w10 hown hgr hbl
        have hf10 : OffF (fun k => ∃ ad, lo = some ad ∧ ad.block = k) w9 w10 := ⟨hgr.os, hgr.tape, hgr.output, hgr.size, fun k hk hn => hgr.block k hk (fun z => hn (own_block z.symm))⟩
        have hf10' : OffF (FJ j p kb mb lo) w9 w10 := hf10.more (fun k hk => .inr (.inr hk))
        refine ⟨w9S.trans hf10', ?_⟩
        try simp only [Act.put, List.setIfInBounds_toArray, List.set_cons_zero, List.set_cons_succ]
        iterate 2
          first
            | (refine plan_pass _ rfl (by rfl) ?_)
            | (refine plan_take _ _ rfl (.inl ⟨by rfl, fun W hS => by clear hS; go_simp; try with_reducible rfl⟩) ?_)
          try simp only [Act.put, List.setIfInBounds_toArray, List.set_cons_zero, List.set_cons_succ]
        have hJ10 := hf10.has H9.jnl (fun ⟨ad, had, e⟩ => (H.rowF ad had).1 e)
        have hD10 := H9.disk.offs hf10 (fun ⟨ad, had, e⟩ => (H.rowF ad had).2 (.inl e)) (fun ⟨ad, had, e⟩ => (H.rowF ad had).2 (.inr (.inl e))) (fun ⟨ad, had, e⟩ => (H.rowF ad had).2 (.inr (.inr e)))
        have c10 : w10.cell? ⟨j, 5, none⟩ = some (.slice lo l.length lc) := (hJ10.cell 5).trans rfl
        have z10 := hJ10.free 5
        have hJ11 := hJ10.set 5 (.slice lo' (L + 1) c')
        rw [put_rows] at hJ11
        have hbt := but_cell w10 5 (.slice lo' (L + 1) c') (g := j)
        have hlb : ∀ ad, lo' = some ad → (∃ ad0, lo = some ad0 ∧ ad0.block = ad.block) ∨ ad.block = w9.heap.size := fun ad had => by
          subst had
          rcases hbl with z | z
          · exact .inl (own_block z.symm)
          · exact .inr (by injection z)
        have hjlt : j < w.heap.size := H.jnl.lt
        have hD11 := hD10.offs (OffF.but hbt) (fun z => H.jF (.inl z.symm)) (fun z => H.jF (.inr (.inl z.symm))) (fun z => H.jF (.inr (.inr z.symm)))
        have hlj : ∀ ad, lo' = some ad → ad.block ≠ j ∧ ¬ DF p kb mb ad.block := fun ad had => by
          rcases hlb ad had with ⟨ad0, h0, e⟩ | e
          · rw [← e]; exact H.rowF ad0 h0
          · rw [e]
            refine ⟨by omega, fun z => ?_⟩
            have := H.lt _ (.inr (.inl z))
            omega
        have hown11 : (w10.setCell ⟨j, 5, none⟩ (.slice lo' (L + 1) c')).ownsRow 0 9 1 (.slice lo' (L + 1) c') (L + 1) (SsV (l ++ [s])) := own_off hown (OffF.but hbt) (fun g hg z => by
          obtain ⟨ad, had, e⟩ := own_block hg
          exact (hlj ad had).1 (e.trans z))
        refine plan_run _ rfl (fun K' hK' => ?_)
        go_simp
        have ho11 : OffF (FJ j p kb mb lo) w10 (w10.setCell ⟨j, 5, none⟩ (.slice lo' (L + 1) c')) := (OffF.but hbt).more (fun k hk => .inl hk)
        refine hK'.out _ _ ((w9S.trans hf10').trans ho11) ?_
        clear hK' K'
        try simp only [Act.put, List.setIfInBounds_toArray, List.set_cons_zero, List.set_cons_succ]
        refine plan_done ?_
        have hfin : Hid (JAt (w10.setCell ⟨j, 5, none⟩ (.slice lo' (L + 1) c')) j p kb mb n d' (nextM h h [s]) lo' c' (l ++ [s]) false ∧ (∀ k, FJ j p kb mb lo' k → FJ j p kb mb lo k ∨ w.heap.size ≤ k) ∧ OffF (FJ j p kb mb lo) w (w10.setCell ⟨j, 5, none⟩ (.slice lo' (L + 1) c'))) := by
          have e : (l ++ [s]).length = L + 1 := by rw [List.length_append, hL.out]; rfl
          refine ⟨⟨hD11, by rw [e]; exact hJ11, by rw [e]; exact hown11, hlj, H.jF⟩, fun k hk => ?_, hq67.trans ((w9S.trans hf10').trans ho11)⟩
          rcases hk with z | z | ⟨ad, had, z⟩
          · exact .inl (.inl z)
          · exact .inl (.inr (.inl z))
          · rcases hlb ad had with ⟨ad0, h0, e⟩ | e
            · exact .inl (.inr (.inr ⟨ad0, h0, e.trans z⟩))
            · exact .inr (by rw [← z, e]; exact hsz9)
        clear hJ11 hbt hD11 hlj hown11 ho11 hown hgr hbl hf10 hf10' hJ10 hD10 c10 z10 hlb H9 w9S
        go_wp2
        go_end0
        exact .inl ⟨rfl, d', lo', c', hk', hfin.out.1, hfin.out.2.1, hfin.out.2.2⟩
      · skip
        refine plan_run _ rfl (fun K' hK' => ?_)
        go_simp
        refine (hscl.out w7).mono ?_
        rintro e w8 ⟨rfl, hq8⟩
        have H8 := H7.later hq8
        have w8S : OffF (FJ j p kb mb lo) w7 w8 := (OffF.of (Below.refl _ _)).trans (OffF.of hq8)
        refine hK'.out _ _ w8S ?_
        clear hK' K'
        try simp only [Act.put, List.setIfInBounds_toArray, List.set_cons_zero, List.set_cons_succ]
        refine plan_either ?_ ?_
        · skip
          refine plan_nowJ _ (.slice lo L lc) rfl (by rfl) (.inl ⟨by rfl, fun W hW => by subst hW; have z : W.cell? ⟨j, 5, none⟩ = some (.slice lo L lc) := by {rw [← hL.out]; exact (H8.jnl.cell 5).trans rfl}; go_simp; try with_reducible rfl⟩) w8S ?_
          try simp only [Act.put, List.setIfInBounds_toArray, List.set_cons_zero, List.set_cons_succ]
          refine plan_sliceS _ rfl (by rfl) _ rfl s rfl (w8S.trans (OffF.of ((Below.refl _ _).alloc (Nat.le_refl _) _))) ?_
          obtain ⟨w9, hw9, hw9A, hw9q⟩ := one_var w8 9 #[strV s]
          have hN := Strs.new w8 s (0, 0)
          rw [hw9] at hN ⊢
          have H9 := H8.later hw9q
          have w9S : OffF (FJ j p kb mb lo) w7 w9 := w8S.trans (OffF.of hw9q)
          obtain ⟨g9, hg9⟩ : ∃ g, w8.heap.size = g := ⟨_, rfl⟩
          rw [hg9] at hN hw9A ⊢
          try simp only [Act.put, List.setIfInBounds_toArray, List.set_cons_zero, List.set_cons_succ]
          have hsz9 : w.heap.size ≤ w9.heap.size := Nat.le_trans hq67.size w9S.size
          refine plan_appS2 _ rfl (by rfl) _ _ rfl 0 (.slice lo L lc) L l rfl ⟨g9, 0, none⟩ 1 1 [s] rfl (by rw [← hL.out]; exact H9.row) hN rfl (by omega) (Nat.zero_le _) ?_
          intro lo' c' w10 hown hgr hbl
          have hf10 : OffF (fun k => ∃ ad, lo = some ad ∧ ad.block = k) w9 w10 := ⟨hgr.os, hgr.tape, hgr.output, hgr.size, fun k hk hn => hgr.block k hk (fun z => hn (own_block z.symm))⟩
          have hf10' : OffF (FJ j p kb mb lo) w9 w10 := hf10.more (fun k hk => .inr (.inr hk))
          refine ⟨w9S.trans hf10', ?_⟩
          try simp only [Act.put, List.setIfInBounds_toArray, List.set_cons_zero, List.set_cons_succ]
          iterate 2
            first
              | (refine plan_pass _ rfl (by rfl) ?_)
              | (refine plan_take _ _ rfl (.inl ⟨by rfl, fun W hS => by clear hS; go_simp; try with_reducible rfl⟩) ?_)
            try simp only [Act.put, List.setIfInBounds_toArray, List.set_cons_zero, List.set_cons_succ]
          have hJ10 := hf10.has H9.jnl (fun ⟨ad, had, e⟩ => (H.rowF ad had).1 e)
          have hD10 := H9.disk.offs hf10 (fun ⟨ad, had, e⟩ => (H.rowF ad had).2 (.inl e)) (fun ⟨ad, had, e⟩ => (H.rowF ad had).2 (.inr (.inl e))) (fun ⟨ad, had, e⟩ => (H.rowF ad had).2 (.inr (.inr e)))
          have c10 : w10.cell? ⟨j, 5, none⟩ = some (.slice lo l.length lc) := (hJ10.cell 5).trans rfl
          have z10 := hJ10.free 5
          have hJ11 := hJ10.set 5 (.slice lo' (L + 1) c')
          rw [put_rows] at hJ11
          have hbt := but_cell w10 5 (.slice lo' (L + 1) c') (g := j)
          have hlb : ∀ ad, lo' = some ad → (∃ ad0, lo = some ad0 ∧ ad0.block = ad.block) ∨ ad.block = w9.heap.size := fun ad had => by
            subst had
            rcases hbl with z | z
            · exact .inl (own_block z.symm)
            · exact .inr (by injection z)
          have hjlt : j < w.heap.size := H.jnl.lt
          have hD11 := hD10.offs (OffF.but hbt) (fun z => H.jF (.inl z.symm)) (fun z => H.jF (.inr (.inl z.symm))) (fun z => H.jF (.inr (.inr z.symm)))
          have hlj : ∀ ad, lo' = some ad → ad.block ≠ j ∧ ¬ DF p kb mb ad.block := fun ad had => by
            rcases hlb ad had with ⟨ad0, h0, e⟩ | e
            · rw [← e]; exact H.rowF ad0 h0
            · rw [e]
              refine ⟨by omega, fun z => ?_⟩
              have := H.lt _ (.inr (.inl z))
              omega
          have hown11 : (w10.setCell ⟨j, 5, none⟩ (.slice lo' (L + 1) c')).ownsRow 0 9 1 (.slice lo' (L + 1) c') (L + 1) (SsV (l ++ [s])) := own_off hown (OffF.but hbt) (fun g hg z => by
            obtain ⟨ad, had, e⟩ := own_block hg
            exact (hlj ad had).1 (e.trans z))
          refine plan_run _ rfl (fun K' hK' => ?_)
          go_simp
          have ho11 : OffF (FJ j p kb mb lo) w10 (w10.setCell ⟨j, 5, none⟩ (.slice lo' (L + 1) c')) := (OffF.but hbt).more (fun k hk => .inl hk)
          refine hK'.out _ _ ((w9S.trans hf10').trans ho11) ?_
          clear hK' K'
          try simp only [Act.put, List.setIfInBounds_toArray, List.set_cons_zero, List.set_cons_succ]
          refine plan_done ?_
          have hfin : Hid (JAt (w10.setCell ⟨j, 5, none⟩ (.slice lo' (L + 1) c')) j p kb mb n d' (nextM h h [s]) lo' c' (l ++ [s]) false ∧ (∀ k, FJ j p kb mb lo' k → FJ j p kb mb lo k ∨ w.heap.size ≤ k) ∧ OffF (FJ j p kb mb lo) w (w10.setCell ⟨j, 5, none⟩ (.slice lo' (L + 1) c'))) := by
            have e : (l ++ [s]).length = L + 1 := by rw [List.length_append, hL.out]; rfl
            refine ⟨⟨hD11, by rw [e]; exact hJ11, by rw [e]; exact hown11, hlj, H.jF⟩, fun k hk => ?_, hq67.trans ((w9S.trans hf10').trans ho11)⟩
            rcases hk with z | z | ⟨ad, had, z⟩
            · exact .inl (.inl z)
            · exact .inl (.inr (.inl z))
            · rcases hlb ad had with ⟨ad0, h0, e⟩ | e
              · exact .inl (.inr (.inr ⟨ad0, h0, e.trans z⟩))
              · exact .inr (by rw [← z, e]; exact hsz9)
          clear hJ11 hbt hD11 hlj hown11 ho11 hown hgr hbl hf10 hf10' hJ10 hD10 c10 z10 hlb H9 w9S
          go_wp2
          go_end0
          exact .inl ⟨rfl, d', lo', c', hk', hfin.out.1, hfin.out.2.1, hfin.out.2.2⟩
        · skip
          refine plan_sliceS _ rfl (by rfl) _ rfl s rfl (w8S.trans (OffF.of ((Below.refl _ _).alloc (Nat.le_refl _) _))) ?_
          obtain ⟨w9, hw9, hw9A, hw9q⟩ := one_var w8 9 #[strV s]
          have hN := Strs.new w8 s (0, 0)
          rw [hw9] at hN ⊢
          have H9 := H8.later hw9q
          have w9S : OffF (FJ j p kb mb lo) w7 w9 := w8S.trans (OffF.of hw9q)
          obtain ⟨g9, hg9⟩ : ∃ g, w8.heap.size = g := ⟨_, rfl⟩
          rw [hg9] at hN hw9A ⊢
          try simp only [Act.put, List.setIfInBounds_toArray, List.set_cons_zero, List.set_cons_succ]
          refine plan_nowJ _ (.slice lo L lc) rfl (by rfl) (.inl ⟨by rfl, fun W hW => by subst hW; have z : W.cell? ⟨j, 5, none⟩ = some (.slice lo L lc) := by {rw [← hL.out]; exact (H9.jnl.cell 5).trans rfl}; go_simp; try with_reducible rfl⟩) w9S ?_
          try simp only [Act.put, List.setIfInBounds_toArray, List.set_cons_zero, List.set_cons_succ]
          have hsz9 : w.heap.size ≤ w9.heap.size := Nat.le_trans hq67.size w9S.size
          refine plan_appS2 _ rfl (by rfl) _ _ rfl 0 (.slice lo L lc) L l rfl ⟨g9, 0, none⟩ 1 1 [s] rfl (by rw [← hL.out]; exact H9.row) hN rfl (by omega) (Nat.zero_le _) ?_
          intro lo' c' w10 hown hgr hbl
          have hf10 : OffF (fun k => ∃ ad, lo = some ad ∧ ad.block = k) w9 w10 := ⟨hgr.os, hgr.tape, hgr.output, hgr.size, fun k hk hn => hgr.block k hk (fun z => hn (own_block z.symm))⟩
          have hf10' : OffF (FJ j p kb mb lo) w9 w10 := hf10.more (fun k hk => .inr (.inr hk))
          refine ⟨w9S.trans hf10', ?_⟩
          try simp only [Act.put, List.setIfInBounds_toArray, List.set_cons_zero, List.set_cons_succ]
          iterate 2
            first
              | (refine plan_pass _ rfl (by rfl) ?_)
              | (refine plan_take _ _ rfl (.inl ⟨by rfl, fun W hS => by clear hS; go_simp; try with_reducible rfl⟩) ?_)
            try simp only [Act.put, List.setIfInBounds_toArray, List.set_cons_zero, List.set_cons_succ]
          have hJ10 := hf10.has H9.jnl (fun ⟨ad, had, e⟩ => (H.rowF ad had).1 e)
          have hD10 := H9.disk.offs hf10 (fun ⟨ad, had, e⟩ => (H.rowF ad had).2 (.inl e)) (fun ⟨ad, had, e⟩ => (H.rowF ad had).2 (.inr (.inl e))) (fun ⟨ad, had, e⟩ => (H.rowF ad had).2 (.inr (.inr e)))
          have c10 : w10.cell? ⟨j, 5, none⟩ = some (.slice lo l.length lc) := (hJ10.cell 5).trans rfl
          have z10 := hJ10.free 5
          have hJ11 := hJ10.set 5 (.slice lo' (L + 1) c')
          rw [put_rows] at hJ11
          have hbt := but_cell w10 5 (.slice lo' (L + 1) c') (g := j)
          have hlb : ∀ ad, lo' = some ad → (∃ ad0, lo = some ad0 ∧ ad0.block = ad.block) ∨ ad.block = w9.heap.size := fun ad had => by
            subst had
            rcases hbl with z | z
            · exact .inl (own_block z.symm)
            · exact .inr (by injection z)
          have hjlt : j < w.heap.size := H.jnl.lt
          have hD11 := hD10.offs (OffF.but hbt) (fun z => H.jF (.inl z.symm)) (fun z => H.jF (.inr (.inl z.symm))) (fun z => H.jF (.inr (.inr z.symm)))
          have hlj : ∀ ad, lo' = some ad → ad.block ≠ j ∧ ¬ DF p kb mb ad.block := fun ad had => by
            rcases hlb ad had with ⟨ad0, h0, e⟩ | e
            · rw [← e]; exact H.rowF ad0 h0
            · rw [e]
              refine ⟨by omega, fun z => ?_⟩
              have := H.lt _ (.inr (.inl z))
              omega
          have hown11 : (w10.setCell ⟨j, 5, none⟩ (.slice lo' (L + 1) c')).ownsRow 0 9 1 (.slice lo' (L + 1) c') (L + 1) (SsV (l ++ [s])) := own_off hown (OffF.but hbt) (fun g hg z => by
            obtain ⟨ad, had, e⟩ := own_block hg
            exact (hlj ad had).1 (e.trans z))
          refine plan_run _ rfl (fun K' hK' => ?_)
          go_simp
          have ho11 : OffF (FJ j p kb mb lo) w10 (w10.setCell ⟨j, 5, none⟩ (.slice lo' (L + 1) c')) := (OffF.but hbt).more (fun k hk => .inl hk)
          refine hK'.out _ _ ((w9S.trans hf10').trans ho11) ?_
          clear hK' K'
          try simp only [Act.put, List.setIfInBounds_toArray, List.set_cons_zero, List.set_cons_succ]
          refine plan_done ?_
          have hfin : Hid (JAt (w10.setCell ⟨j, 5, none⟩ (.slice lo' (L + 1) c')) j p kb mb n d' (nextM h h [s]) lo' c' (l ++ [s]) false ∧ (∀ k, FJ j p kb mb lo' k → FJ j p kb mb lo k ∨ w.heap.size ≤ k) ∧ OffF (FJ j p kb mb lo) w (w10.setCell ⟨j, 5, none⟩ (.slice lo' (L + 1) c'))) := by
            have e : (l ++ [s]).length = L + 1 := by rw [List.length_append, hL.out]; rfl
            refine ⟨⟨hD11, by rw [e]; exact hJ11, by rw [e]; exact hown11, hlj, H.jF⟩, fun k hk => ?_, hq67.trans ((w9S.trans hf10').trans ho11)⟩
            rcases hk with z | z | ⟨ad, had, z⟩
            · exact .inl (.inl z)
            · exact .inl (.inr (.inl z))
            · rcases hlb ad had with ⟨ad0, h0, e⟩ | e
              · exact .inl (.inr (.inr ⟨ad0, h0, e.trans z⟩))
              · exact .inr (by rw [← z, e]; exact hsz9)
          clear hJ11 hbt hD11 hlj hown11 ho11 hown hgr hbl hf10 hf10' hJ10 hD10 c10 z10 hlb H9 w9S
          go_wp2
          go_end0
          exact .inl ⟨rfl, d', lo', c', hk', hfin.out.1, hfin.out.2.1, hfin.out.2.2⟩
end

section
set_option linter.unusedSimpArgs false
set_option linter.unusedVariables false
set_option maxRecDepth 100000
open Go.RowKit Go.MapKept

set_option maxHeartbeats 8000000 in
theorem format1_any (j p kb mb n : Nat) (d : DskV) (h : HdV) (fo : Bool) (bd bj : Nat) (w : World)
    (hd : Has w bd 28 #[.pointer (some ⟨p, 0, none⟩)]) (hj : Has w bj 40 #[.pointer (some ⟨j, 0, none⟩)]) (H : JAt w j p kb mb n d hd0 none 0 [] false) (ho : d.off = false) (hp : d.pend = []) (hn : 8 ≤ n)
    (hN : ∀ k, k < 2 → isHd (writtenM d k) = true → (rdHd (writtenM d k)).num < 256) (hnew : newestTo (writtenM d) 2 = (h, fo)) (hnum : h.num < 255) (hbd : ¬ FJ j p kb mb none bd) (hbj : ¬ FJ j p kb mb none bj) :
    Calls Tryz.prog 32 #[.pointer (some ⟨bd, 0, none⟩), .pointer (some ⟨bj, 0, none⟩)] w fun e w' =>
      (e = .returned (.tuple #[]) ∧ ∃ d', KeptAt n d h hd0 [] d' ∧ JAt w' j p kb mb n d' (nextM h hd0 []) none 0 [] false ∧ OffF (FJ j p kb mb none) w w') ∨
      (e = thrownJ 131 ∧ CutJ w j p kb mb n d h hd0 [] none 0 [] w') := by
  have hn1 := H.disk.n1
  have hle := dlen_any p kb mb n d w H.disk
  have d1 : w.cell? ⟨bd, 0, none⟩ = some (.pointer (some ⟨p, 0, none⟩)) := hd.cell 0
  have hnI : (8 : Int) ≤ (n : Int) := by omega
  have H1 := H.drew
  have hnw := newest_any p kb mb n d w.drew H1.disk ho (by omega) hN
  rw [hnew] at hnw
  replace hle : Hid _ := hle
  replace hnw : Hid _ := hnw
  clear hN hnew
  go_enter Tryz.func32, Tryz.ntmps32
  go_wp2_with fail
  refine Calls.mono hle.out ?_
  rintro e w0 ⟨rfl, h9⟩
  have h9' := h9.symm
  clear h9 hle
  subst h9'
  go_wp2_with (first
    | (go_at_call 33; refine (must_yes 140 _).mono ?_; rintro e w9 ⟨rfl, h9⟩; have h9' := h9.symm; clear h9; subst h9')
    | fail)
  have hd1 := hd.drew
  have hj1 := hj.drew
  have hJ1 := H1.jnl
  refine wp_region_plan (fun W => OffF (FJ j p kb mb none) w.drew W) (Plan.of [(0, true), (1, true), (2, false), (3, true), (4, true), (5, true), (6, true), (7, true), (8, false)] .done) (by kernel_rfl) (by kernel_rfl) (by kernel_rfl) (by kernel_rfl) (OffF.of (Below.refl _ _)) ?_
  have o1 : OffF (FJ j p kb mb none) w w.drew := OffF.of (Below.refl _ _).drew
  generalize w.drew = w1 at *
  iterate 1
    first
      | (refine plan_pass _ rfl (by rfl) ?_)
      | (refine plan_take _ _ rfl (.inl ⟨by rfl, fun W hS => by have z : W.cell? ⟨bj, 0, none⟩ = some (.pointer (some ⟨j, 0, none⟩)) := (hS.has hj1 hbj).cell 0; go_simp; try with_reducible rfl⟩) ?_)
    try simp only [Act.put, List.setIfInBounds_toArray, List.set_cons_zero, List.set_cons_succ]
  iterate 1
    first
      | (refine plan_pass _ rfl (by rfl) ?_)
      | (refine plan_take _ _ rfl (.inl ⟨by rfl, fun W hS => by have z : W.cell? ⟨bd, 0, none⟩ = some (.pointer (some ⟨p, 0, none⟩)) := (hS.has hd1 hbd).cell 0; go_simp; try with_reducible rfl⟩) ?_)
    try simp only [Act.put, List.setIfInBounds_toArray, List.set_cons_zero, List.set_cons_succ]
  refine plan_run _ rfl (fun K' hK' => ?_)
  go_simp
  refine Calls.mono hnw.out ?_
  rintro e w2 ⟨rfl, hq⟩
  refine hK'.out _ _ (OffF.of hq) ?_
  clear hK' K' hnw
  try simp only [Act.put, List.setIfInBounds_toArray, List.set_cons_zero, List.set_cons_succ]
  iterate 5
    first
      | (refine plan_pass _ rfl (by rfl) ?_)
      | (refine plan_take _ _ rfl (.inl ⟨by rfl, fun W hS => by clear hS; go_simp; try with_reducible rfl⟩) ?_)
    try simp only [Act.put, List.setIfInBounds_toArray, List.set_cons_zero, List.set_cons_succ]
  have H2 := H1.later hq
  have hth := H2.jnl.there 1 4 (show 1 + 4 ≤ 7 by decide)
  have hJ3 : Has (w2.setCells j 1 (hdC h).toList) j 75 (jnlC p h none 0 0 false) := Has.putL (l := (jnlC p hd0 none 0 0 false).toList) H2.jnl (hdC h).toList 1 (show 1 + 4 ≤ 7 by decide)
  have hbt : But j w2 (w2.setCells j 1 (hdC h).toList) := but_cells _ _ _
  have hD3 := H2.disk.offs (OffF.but hbt) (fun z => H.jF (.inl z.symm)) (fun z => H.jF (.inr (.inl z.symm))) (fun z => H.jF (.inr (.inr z.symm)))
  have H3 : JAt (w2.setCells j 1 (hdC h).toList) j p kb mb n d h none 0 [] false := H2.turn ((OffF.but hbt).more (fun k hk => .inl hk)) hD3 hJ3
  have o3 : OffF (FJ j p kb mb none) w1 (w2.setCells j 1 (hdC h).toList) := (OffF.of hq).trans ((OffF.but hbt).more (fun k hk => .inl hk))
  refine plan_store_midJ rfl (by rfl) 73 _ _ rfl j 1 (hdC h) rfl rfl hth (hd_size _) (hd_one _) o3 ?_
  try simp only [Act.put, List.setIfInBounds_toArray, List.set_cons_zero, List.set_cons_succ]
  refine plan_done ?_
  obtain ⟨w3, hw3⟩ : ∃ W, w2.setCells j 1 (hdC h).toList = W := ⟨_, rfl⟩
  rw [hw3] at H3 o3 ⊢
  have hj3 := o3.has hj1 hbj
  have c3 : w3.cell? ⟨bj, 0, none⟩ = some (.pointer (some ⟨j, 0, none⟩)) := hj3.cell 0
  have hfi := first_in (half := 0) (k := 0) hn (by decide) (Nat.zero_le _)
  have hke := keep_any j p kb mb n d h hd0 none 0 0 false none 0 [] w3 H3.jnl H3.disk ho hp hn (by decide) hnum (by decide) (Strs.nothing _) (fun ad had => by cases had) H.jF (fun r hr => by cases hr) (by show 64 * firstM n 0 + 0 + 0 + 64 ≤ _; omega)
  replace hke : Hid _ := hke
  have oo3 := o1.trans o3
  clear hw3 hbt hD3 hJ3 hth H2 hq hj1 hd1 hJ1 H1 d1 hj3
  go_wp2_with (first
    | (refine wpList_build_has (by rfl) 73 #[] rfl (hdC hd0) (by simpa using hd_built0) ?_)
    | fail)
  refine Calls.mono hke.out ?_
  rintro e w5 hh5
  replace hh5 := hh5.symm
  rcases hh5 with ⟨rfl, hx⟩ | ⟨rfl, d', hk', hD', hJ', ho'⟩
  · unfold thrownJ
    exact ⟨rfl, .inr ⟨rfl, CutX.cutJ H3 oo3 hx⟩⟩
  have H5 : Hid _ := H3.turn ho' hD' hJ'
  have o5 : Hid (OffF (FJ j p kb mb none) w w5) := oo3.trans (ho'.more (fun k hk => hk.elim .inl (fun z => .inr (.inl z))))
  clear hke ho' hD' hJ' H3 o3 oo3 c3
  go_wp2
  go_end0
  exact .inl ⟨rfl, d', hk', H5.out, o5.out⟩
end
end Go.Proofs.YtpnpjblohijajabGreat
