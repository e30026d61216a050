/- JnlRepl, JnlRoomNo, JnlGood, joined. -/
import Derived.Test.YtpnpjblohijajabGreatGrp32
import Derived.Test.YtpnpjblohijajabGreatGrp31
import Derived.Test.YtpnpjblohijajabGreatGrp27
namespace Go.Proofs.YtpnpjblohijajabGreat
section
set_option linter.unusedSimpArgs false
set_option linter.unusedVariables false
set_option maxRecDepth 100000
open Go.RowKit Go.MapKept

set_option maxHeartbeats 8000000 in
theorem replace_any (j p kb mb n : Nat) (d : DskV) (h : HdV) (lo : Option Addr) (lc : Nat) (l : List (List UInt8)) (so : Option Addr) (sc : Nat) (m : List (List UInt8)) (w : World)
    (H : JAt w j p kb mb n d h lo lc l false) (ho : d.off = false) (hp : d.pend = []) (hn : 8 ≤ n) (hh : h.half ≤ 1) (hnum : h.num < 255) 
    (hS : Strs w so sc m) (hso : ∀ ad, so = some ad → ad.block < w.heap.size ∧ ¬ FJ j p kb mb lo ad.block) (hm : ∀ r ∈ m, r.length ≤ 20000) (hroom : takenM m ≤ limitM n) :
    Calls Tryz.prog 42 #[.pointer (some ⟨j, 0, none⟩), .slice so m.length sc] w fun e w' =>
      (e = .returned (.int .i64 0) ∧ ∃ d' lo' lc', KeptAt n d h ⟨0, 1 - h.half, 0, 0⟩ m d' ∧ JAt w' j p kb mb n d' (nextM h ⟨0, 1 - h.half, 0, 0⟩ m) lo' lc' m false ∧ (∀ k, FJ j p kb mb lo' k → FJ j p kb mb lo k ∨ w.heap.size ≤ k) ∧ OffF (FJ j p kb mb lo) w w') ∨
      (e = .returned (.int .i64 ((131 : Nat) : Int)) ∧ d.left ≠ 0 ∧ ∃ d', CutAt n d h ⟨0, 1 - h.half, 0, 0⟩ m d' ∧ JAt w' j p kb mb n d' h lo lc l true ∧ OffF (FJ j p kb mb lo) w w') := by
  obtain ⟨w1, hw1, hA, hB, hb1⟩ := two_vars w 40 22 #[.pointer (some ⟨j, 0, none⟩)] #[.slice so m.length sc]
  have s1 : w1.heap.size = w.heap.size + 2 := by rw [← hw1]; simp
  have hjl := H.jnl.lt
  have H1 := H.later hb1
  have hbt := try_below w1 j 73 #[.pointer (some ⟨w.heap.size + 1, 0, none⟩), .pointer (some ⟨w.heap.size, 0, none⟩)]
  obtain ⟨t0, t1, t2⟩ := try_has w1 j 73 #[.pointer (some ⟨w.heap.size + 1, 0, none⟩), .pointer (some ⟨w.heap.size, 0, none⟩)]
  have ts := try_size w1 j 73 #[.pointer (some ⟨w.heap.size + 1, 0, none⟩), .pointer (some ⟨w.heap.size, 0, none⟩)]
  have hfl := H.lt
  have hnF : ∀ k, w.heap.size ≤ k → ¬ FJ j p kb mb lo k := fun k hk hf => by have := hfl k hf; omega
  obtain ⟨T, hT⟩ : ∃ T, tryW w1 j 73 #[.pointer (some ⟨w.heap.size + 1, 0, none⟩), .pointer (some ⟨w.heap.size, 0, none⟩)] = T := ⟨_, rfl⟩
  rw [hT] at hbt t0 t1 t2 ts
  have hwT := hb1.trans (hbt.mono hb1.size)
  have ho1 := replace1_any j p kb mb n d h lo lc l so sc m (w.heap.size + 1) w.heap.size T (hB.later hbt) (hA.later hbt) (H1.later hbt) ho hp hn hh hnum (hS.later hwT) (fun ad had => ⟨Nat.lt_of_lt_of_le (hso ad had).1 hwT.size, (hso ad had).2⟩) hm hroom (hnF _ (by omega)) (hnF _ (by omega))
  rw [← hT] at ho1
  have hat := attempt_any 73 #[.pointer (some ⟨w.heap.size + 1, 0, none⟩), .pointer (some ⟨w.heap.size, 0, none⟩)] (enters_replace1 _) j w1 _ _ (by omega) ((H1.jnl.cell 6).trans rfl) ho1
    (fun v hv => by
      obtain ⟨d', lo', lc', _, Hv, _, hq⟩ := hv
      rw [hT] at hq
      exact ⟨hq.has t0 (hnF _ (by omega)), hq.has t2 (hnF _ (by omega)), ⟨_, (Hv.jnl.cell 6).trans rfl⟩, Hv.jnl.free 6⟩)
    (fun v hv => by
      obtain ⟨_, d', _, Hv, hq⟩ := hv
      rw [hT] at hq
      exact ⟨hq.has t0 (hnF _ (by omega)), hq.has t2 (hnF _ (by omega)), ⟨_, (Hv.jnl.cell 6).trans rfl⟩, Hv.jnl.free 6⟩)
  replace hat : Hid _ := hat
  have hz : Hid (Below w.heap.size w T ∧ T.heap.size = w1.heap.size + 3 ∧ w1.heap.size = w.heap.size + 2 ∧ (∀ k, FJ j p kb mb lo k → k < w.heap.size)) := ⟨hwT, ts, s1, hfl⟩
  have hT' : Hid _ := hT
  have hmf : ∀ (fn : Fn) (first cap : Array Value) (w : World), (Instr.makeFunc fn first cap).run Tryz.prog w = .ok (.func fn first cap) w := fun _ _ _ _ => rfl
  have c1 : w1.cell? ⟨w.heap.size, 0, none⟩ = some (.pointer (some ⟨j, 0, none⟩)) := hA.cell 0
  replace hS : Hid _ := hS
  obtain ⟨ML, hML⟩ : ∃ x, m.length = x := ⟨_, rfl⟩
  rw [hML] at hw1 ⊢
  replace hML : Hid _ := hML
  clear hA hB hb1 s1 hjl H H1 hbt ho1 t0 t1 t2 ts hfl hnF hwT hT
  go_enter Tryz.func42, Tryz.ntmps42
  go_wp2_with fail
  refine Calls.mono hat.out ?_
  rintro e w2 (⟨rfl, v, hv, rfl⟩ | ⟨rfl, v, hv, rfl⟩)
  · obtain ⟨d', lo', lc', hK, Hv, hg, hq⟩ := hv
    obtain ⟨hwT, ts, s1, hfl⟩ := hz.out
    rw [hT'.out] at hg hq
    obtain ⟨f1, f2, f3⟩ := call_end hwT (w1.heap.size + 2) (by omega) (by omega) hfl Hv hg hq (.int .i64 0) false
    replace f1 : Hid _ := f1
    replace f3 : Hid _ := f3
    clear hat hz hwT ts s1 hfl c1 hmf hw1 Hv hg hq
    go_wp2
    go_ret
    exact .inl ⟨rfl, d', lo', lc', hK, f1.out, f2, f3.out⟩
  · obtain ⟨hne, d', hK, Hv, hq⟩ := hv
    obtain ⟨hwT, ts, s1, hfl⟩ := hz.out
    rw [hT'.out] at hq
    obtain ⟨f1, f2, f3⟩ := call_end hwT (w1.heap.size + 2) (by omega) (by omega) hfl Hv (fun k hk => .inl hk) hq (.int .i64 ((131 : Nat) : Int)) true
    replace f1 : Hid _ := f1
    replace f3 : Hid _ := f3
    clear hat hz hwT ts s1 hfl c1 hmf hw1 Hv hq
    go_wp2
    go_ret
    exact .inr ⟨rfl, hne, d', hK, f1.out, f3.out⟩
end

section
set_option linter.unusedSimpArgs false
set_option linter.unusedVariables false
set_option maxRecDepth 100000
open Go.RowKit Go.MapKept

set_option maxHeartbeats 8000000 in
theorem append1_room (j p kb mb n : Nat) (d : DskV) (h : HdV) (lo : Option Addr) (lc : Nat) (l : List (List UInt8)) (s : List UInt8) (bs bj : Nat) (w : World)
    (hs : Has w bs 9 #[strV s]) (hj : Has w bj 40 #[.pointer (some ⟨j, 0, none⟩)]) (H : JAt w j p kb mb n d h lo lc l false) (hn : 8 ≤ n) (hs20 : s.length ≤ 20000) (htl : takenM l ≤ 1000000) (hroom : ¬ takenM l + (s.length + 16) ≤ limitM n) :
    Calls Tryz.prog 66 #[.pointer (some ⟨bs, 0, none⟩), .pointer (some ⟨bj, 0, none⟩)] w fun e w' => e = thrownJ 140 ∧ Below w.heap.size w w' := by
  have hn1 := H.disk.n1
  have cs : ∀ W, Below w.heap.size w W → W.cell? ⟨bs, 0, none⟩ = some (strV s) := fun W hS => (hs.later hS).cell 0
  have cj : ∀ W, Below w.heap.size w W → W.cell? ⟨bj, 0, none⟩ = some (.pointer (some ⟨j, 0, none⟩)) := fun W hS => (hj.later hS).cell 0
  have cr : ∀ W, Below w.heap.size w W → W.cell? ⟨j, 5, none⟩ = some (.slice lo l.length lc) := fun W hS => ((H.jnl.later hS).cell 5).trans rfl
  have cd : ∀ W, Below w.heap.size w W → W.cell? ⟨j, 0, none⟩ = some (.pointer (some ⟨p, 0, none⟩)) := fun W hS => ((H.jnl.later hS).cell 0).trans rfl
  have hir := fun W => isRecord_any s W
  rw [show decide (s.length ≤ 20000) = true from decide_eq_true hs20] at hir
  have hlim : limitM n ≤ 1000000 := by unfold limitM; omega
  have ht1 : ∀ W, Below w.heap.size w W → Calls Tryz.prog 68 #[.slice lo l.length lc] W fun e w' => e = .returned (.int .i64 (takenM l : Nat)) ∧ w' = W := fun W hS => taken_any lo lc l W (H.strs.1.later hS) (by omega)
  have ht2 : ∀ W, Below w.heap.size w W → Calls Tryz.prog 68 #[.slice (some ⟨W.heap.size, 0, none⟩) 1 1] (W.alloc (.cells #[strV s] 9)) fun e w' => e = .returned (.int .i64 (s.length + 16 : Nat)) ∧ w' = W.alloc (.cells #[strV s] 9) := fun W hS => by
    have := taken_any (some ⟨W.heap.size, 0, none⟩) 1 [s] (W.alloc (.cells #[strV s] 9)) (Strs.new W s (0, 0)) (by show (s.length + 16) + 0 ≤ _; omega)
    exact this
  have ht3 : ∀ W, Below w.heap.size w W → Calls Tryz.prog 69 #[.pointer (some ⟨p, 0, none⟩)] W fun e w' => e = .returned (.int .i64 (limitM n : Nat)) ∧ w' = W := fun W hS => limit_any p kb mb n d W (H.disk.later hS) hn
  obtain ⟨L, hL⟩ : ∃ L, l.length = L := ⟨_, rfl⟩
  obtain ⟨T, hT⟩ : ∃ T, takenM l = T := ⟨_, rfl⟩
  obtain ⟨U, hU⟩ : ∃ U, s.length + 16 = U := ⟨_, rfl⟩
  obtain ⟨M, hM⟩ : ∃ M, limitM n = M := ⟨_, rfl⟩
  rw [hL] at cr ht1
  rw [hT] at ht1 hroom htl
  rw [hU] at ht2 hroom
  rw [hM] at ht3 hroom hlim
  have e1 : IntKind.i64.wrap ((T : Int) + (U : Int)) = (T : Int) + (U : Int) := by rw [IntKind.wrap_i64]; omega
  have e2 : decide ((T : Int) + (U : Int) ≤ (M : Int)) = false := decide_eq_false (by omega)
  have e3 : ¬ (T : Int) + (U : Int) ≤ (M : Int) := by omega
  unfold strV at cs ht2 hir
  replace cs : Hid _ := cs
  replace cj : Hid _ := cj
  replace cr : Hid _ := cr
  replace cd : Hid _ := cd
  replace hir : Hid _ := hir
  replace ht1 : Hid _ := ht1
  replace ht2 : Hid _ := ht2
  replace ht3 : Hid _ := ht3
  replace hL : Hid _ := hL
  clear hT hU hM
  have c0 := cs.out w (Below.refl _ _)
  go_enter Tryz.func66, Tryz.ntmps66
  go_wp2_with fail
  refine Calls.mono (hir.out _) ?_
  rintro e w9 ⟨rfl, h9⟩
  have h9' := h9.symm
  clear h9 hir
  subst h9'
  go_wp2_with (first
    | (go_at_call 33; refine (must_yes 10 _).mono ?_; rintro e w9 ⟨rfl, h9⟩; have h9' := h9.symm; clear h9; subst h9')
    | fail)
  refine wp_region_plan_p (fun W => Below w.heap.size w W) (Plan.of [(0, true), (1, true), (2, true), (3, true), (5, true), (9, true), (10, true), (11, true), (12, true)] (.either 4 (Plan.of [(6, false), (7, false), (8, true), (13, false), (14, true), (15, false)] .done) 6 (Plan.of [(4, false), (7, false), (8, true), (13, false), (14, true), (15, false)] .done))) (fun ch W => ch = [{ v := .iface 25 (.int .i64 140), recovered := false }] ∧ Below w.heap.size w W) (by kernel_rfl) (by kernel_rfl) (by kernel_rfl) (by kernel_rfl) (Below.refl _ _).drew ?_ ?_
  · rintro ch a' w' ⟨rfl, hx⟩ hd
    exact ⟨hd, rfl, hx⟩
  · have hb1 : Below w.heap.size w w.drew := (Below.refl _ _).drew
    have hbA : Below w.heap.size w (w.drew.alloc (.cells #[.string (mkS s)] 9)) := hb1.alloc (Nat.le_refl _) _
    iterate 1
      first
        | (refine plan_pass _ rfl (by rfl) ?_)
        | (refine plan_take _ _ rfl (.inl ⟨by rfl, fun W hS => by have z := cj.out W hS; go_simp; try with_reducible rfl⟩) ?_)
      try simp only [Act.put, List.setIfInBounds_toArray, List.set_cons_zero, List.set_cons_succ]
    iterate 2
      first
        | (refine plan_pass _ rfl (by rfl) ?_)
        | (refine plan_take _ _ rfl (.inl ⟨by rfl, fun W hS => by clear hS; go_simp; try with_reducible rfl⟩) ?_)
      try simp only [Act.put, List.setIfInBounds_toArray, List.set_cons_zero, List.set_cons_succ]
    iterate 1
      first
        | (refine plan_pass _ rfl (by rfl) ?_)
        | (refine plan_take _ _ rfl (.inl ⟨by rfl, fun W hS => by have z := cr.out W hS; go_simp; try with_reducible rfl⟩) ?_)
      try simp only [Act.put, List.setIfInBounds_toArray, List.set_cons_zero, List.set_cons_succ]
    iterate 1
      first
        | (refine plan_pass _ rfl (by rfl) ?_)
        | (refine plan_take _ _ rfl (.inl ⟨by rfl, fun W hS => by have z := cs.out W hS; go_simp; try with_reducible rfl⟩) ?_)
      try simp only [Act.put, List.setIfInBounds_toArray, List.set_cons_zero, List.set_cons_succ]
    iterate 1
      first
        | (refine plan_pass _ rfl (by rfl) ?_)
        | (refine plan_take _ _ rfl (.inl ⟨by rfl, fun W hS => by have z := cj.out W hS; go_simp; try with_reducible rfl⟩) ?_)
      try simp only [Act.put, List.setIfInBounds_toArray, List.set_cons_zero, List.set_cons_succ]
    iterate 2
      first
        | (refine plan_pass _ rfl (by rfl) ?_)
        | (refine plan_take _ _ rfl (.inl ⟨by rfl, fun W hS => by clear hS; go_simp; try with_reducible rfl⟩) ?_)
      try simp only [Act.put, List.setIfInBounds_toArray, List.set_cons_zero, List.set_cons_succ]
    iterate 1
      first
        | (refine plan_pass _ rfl (by rfl) ?_)
        | (refine plan_take _ _ rfl (.inl ⟨by rfl, fun W hS => by have z := cd.out W hS; go_simp; try with_reducible rfl⟩) ?_)
      try simp only [Act.put, List.setIfInBounds_toArray, List.set_cons_zero, List.set_cons_succ]
    refine plan_either ?_ ?_
    · skip
      refine plan_run _ rfl (fun K' hK' => ?_)
      go_simp
      refine Calls.mono (ht1.out _ hb1) ?_
      rintro e w9 ⟨rfl, h9⟩
      have h9' := h9.symm
      clear h9
      subst h9'
      refine hK'.out _ _ hb1 ?_
      clear hK' K'
      try simp only [Act.put, List.setIfInBounds_toArray, List.set_cons_zero, List.set_cons_succ]
      refine plan_run _ rfl (fun K' hK' => ?_)
      go_simp
      refine hK'.out _ _ hbA ?_
      clear hK' K'
      try simp only [Act.put, List.setIfInBounds_toArray, List.set_cons_zero, List.set_cons_succ]
      refine plan_run _ rfl (fun K' hK' => ?_)
      go_simp
      refine Calls.mono (ht2.out _ hb1) ?_
      rintro e w9 ⟨rfl, h9⟩
      rw [h9]
      refine hK'.out _ _ hbA ?_
      clear hK' K' h9
      try simp only [Act.put, List.setIfInBounds_toArray, List.set_cons_zero, List.set_cons_succ]
      refine plan_take _ (.int .i64 ((T : Int) + (U : Int))) rfl (.inl ⟨by rfl, fun W hS => by clear hS; go_simp⟩) ?_
      try simp only [Act.put, List.setIfInBounds_toArray, List.set_cons_zero, List.set_cons_succ]
      refine plan_run _ rfl (fun K' hK' => ?_)
      go_simp
      refine Calls.mono (ht3.out _ hbA) ?_
      rintro e w9 ⟨rfl, h9⟩
      rw [h9]
      refine hK'.out _ _ hbA ?_
      clear hK' K' h9
      try simp only [Act.put, List.setIfInBounds_toArray, List.set_cons_zero, List.set_cons_succ]
      refine plan_take _ (.bool false) rfl (.inl ⟨by rfl, fun W hS => by clear hS; go_simp; try with_reducible rfl⟩) ?_
      try simp only [Act.put, List.setIfInBounds_toArray, List.set_cons_zero, List.set_cons_succ]
      refine plan_run _ rfl (fun K' hK' => ?_)
      go_simp
      refine (must_no 140 _).mono ?_
      rintro e w9 ⟨rfl, h9⟩
      rw [h9]
      unfold thrownJ
      exact pan_here ⟨rfl, hbA⟩ rfl
    · skip
      refine plan_run _ rfl (fun K' hK' => ?_)
      go_simp
      refine hK'.out _ _ hbA ?_
      clear hK' K'
      try simp only [Act.put, List.setIfInBounds_toArray, List.set_cons_zero, List.set_cons_succ]
      refine plan_run _ rfl (fun K' hK' => ?_)
      go_simp
      refine Calls.mono (ht1.out _ hbA) ?_
      rintro e w9 ⟨rfl, h9⟩
      have h9' := h9.symm
      clear h9
      subst h9'
      refine hK'.out _ _ hbA ?_
      clear hK' K'
      try simp only [Act.put, List.setIfInBounds_toArray, List.set_cons_zero, List.set_cons_succ]
      refine plan_run _ rfl (fun K' hK' => ?_)
      go_simp
      refine Calls.mono (ht2.out _ hb1) ?_
      rintro e w9 ⟨rfl, h9⟩
      rw [h9]
      refine hK'.out _ _ hbA ?_
      clear hK' K' h9
      try simp only [Act.put, List.setIfInBounds_toArray, List.set_cons_zero, List.set_cons_succ]
      refine plan_take _ (.int .i64 ((T : Int) + (U : Int))) rfl (.inl ⟨by rfl, fun W hS => by clear hS; go_simp⟩) ?_
      try simp only [Act.put, List.setIfInBounds_toArray, List.set_cons_zero, List.set_cons_succ]
      refine plan_run _ rfl (fun K' hK' => ?_)
      go_simp
      refine Calls.mono (ht3.out _ hbA) ?_
      rintro e w9 ⟨rfl, h9⟩
      rw [h9]
      refine hK'.out _ _ hbA ?_
      clear hK' K' h9
      try simp only [Act.put, List.setIfInBounds_toArray, List.set_cons_zero, List.set_cons_succ]
      refine plan_take _ (.bool false) rfl (.inl ⟨by rfl, fun W hS => by clear hS; go_simp; try with_reducible rfl⟩) ?_
      try simp only [Act.put, List.setIfInBounds_toArray, List.set_cons_zero, List.set_cons_succ]
      refine plan_run _ rfl (fun K' hK' => ?_)
      go_simp
      refine (must_no 140 _).mono ?_
      rintro e w9 ⟨rfl, h9⟩
      rw [h9]
      unfold thrownJ
      exact pan_here ⟨rfl, hbA⟩ rfl
theorem append_room (j p kb mb n : Nat) (d : DskV) (h : HdV) (lo : Option Addr) (lc : Nat) (l : List (List UInt8)) (s : List UInt8) (w : World) (H : JAt w j p kb mb n d h lo lc l false) (hn : 8 ≤ n) (hs20 : s.length ≤ 20000) (htl : takenM l ≤ 1000000) (hroom : ¬ takenM l + (s.length + 16) ≤ limitM n) :
    Calls Tryz.prog 40 #[.pointer (some ⟨j, 0, none⟩), strV s] w fun e w' => e = .returned (.int .i64 140) ∧ Has w' j 75 (jnlC p h lo l.length lc false) ∧ But j w w' :=
  append_err 140 false (by decide) j p l.length lc h lo s w H.jnl fun bs bj w' hs hj hb => append1_room j p kb mb n d h lo lc l s bs bj w' hs hj (H.later hb) hn hs20 htl hroom
set_option maxHeartbeats 8000000 in
theorem replace1_room (j p kb mb n : Nat) (d : DskV) (h : HdV) (lo : Option Addr) (lc : Nat) (l : List (List UInt8)) (so : Option Addr) (sc : Nat) (m : List (List UInt8)) (bs bj : Nat) (w : World)
    (hs : Has w bs 22 #[.slice so m.length sc]) (hj : Has w bj 40 #[.pointer (some ⟨j, 0, none⟩)]) (H : JAt w j p kb mb n d h lo lc l false) (hn : 8 ≤ n)
    (hS : Strs w so sc m) (hm : ∀ r ∈ m, r.length ≤ 20000) (htm : takenM m ≤ 100000000) (hroom : ¬ takenM m ≤ limitM n) :
    Calls Tryz.prog 73 #[.pointer (some ⟨bs, 0, none⟩), .pointer (some ⟨bj, 0, none⟩)] w fun e w' => e = thrownJ 140 ∧ Below w.heap.size w w' := by
  have hn1 := H.disk.n1
  have hlim : limitM n ≤ 1000000 := by unfold limitM; omega
  have hst := sheet_taken m
  have cs : ∀ W, Below w.heap.size w W → W.cell? ⟨bs, 0, none⟩ = some (.slice so m.length sc) := fun W hS => (hs.later hS).cell 0
  have cj : ∀ W, Below w.heap.size w W → W.cell? ⟨bj, 0, none⟩ = some (.pointer (some ⟨j, 0, none⟩)) := fun W hS => (hj.later hS).cell 0
  have cd : ∀ W, Below w.heap.size w W → W.cell? ⟨j, 0, none⟩ = some (.pointer (some ⟨p, 0, none⟩)) := fun W hS => ((H.jnl.later hS).cell 0).trans rfl
  have ht1 : ∀ W, Below w.heap.size w W → Calls Tryz.prog 68 #[.slice so m.length sc] W fun e w' => e = .returned (.int .i64 (takenM m : Nat)) ∧ w' = W := fun W hb => taken_any so sc m W (hS.later hb) (by omega)
  have ht3 : ∀ W, Below w.heap.size w W → Calls Tryz.prog 69 #[.pointer (some ⟨p, 0, none⟩)] W fun e w' => e = .returned (.int .i64 (limitM n : Nat)) ∧ w' = W := fun W hb => limit_any p kb mb n d W (H.disk.later hb) hn
  have hle := hS.le
  have hcap := hS.cap
  have hml : m.length ≤ 1000000000 := by omega
  obtain ⟨L, hL⟩ : ∃ L, m.length = L := ⟨_, rfl⟩
  obtain ⟨T, hT⟩ : ∃ T, takenM m = T := ⟨_, rfl⟩
  obtain ⟨M, hM⟩ : ∃ M, limitM n = M := ⟨_, rfl⟩
  rw [hL] at cs ht1 hle hml
  rw [hT] at ht1 hroom htm
  rw [hM] at ht3 hroom hlim
  have e3 : ¬ (T : Int) ≤ (M : Int) := by omega
  have c0 := cs w (Below.refl _ _)
  replace cs : Hid _ := cs
  replace cj : Hid _ := cj
  replace cd : Hid _ := cd
  replace ht1 : Hid _ := ht1
  replace ht3 : Hid _ := ht3
  replace hL : Hid _ := hL
  replace hm : Hid _ := hm
  clear hT hM hst
  go_enter Tryz.func73, Tryz.ntmps73
  go_wp2
  go_loopw [6] (fun iv wr => ∃ k, k ≤ L ∧ iv = .int .i64 (k : Nat) ∧ wr = w) (fun iv _ => L - (intOf iv).toNat)
  case atStart => exact ⟨0, Nat.zero_le _, rfl, rfl⟩
  case round =>
    obtain ⟨k, hk, rfl, hwr⟩ := hrel
    have hwr' := hwr.symm
    clear hwr
    subst hwr'
    by_cases hkL : k < L
    · have hkL2 : (k : Int) < (L : Int) := by omega
      have hkl : k < m.length := by rw [hL.out]; omega
      cases so with
      | none => have := hS.nil rfl; omega
      | some ad =>
        have hc := hS.cell ad rfl k hkl
        have hr := isRecord_any m[k] w
        rw [show decide (m[k].length ≤ 20000) = true from decide_eq_true (hm.out _ (List.getElem_mem hkl))] at hr
        obtain ⟨s, hss⟩ : ∃ s, m[k] = s := ⟨_, rfl⟩
        rw [hss] at hc hr
        unfold strV at hc hr
        replace hr : Hid _ := hr
        clear hss hkl
        go_wp2_with fail
        refine Calls.mono hr.out ?_
        rintro e w0 ⟨rfl, h9⟩
        have h9' := h9.symm
        clear h9 hr
        subst h9'
        go_wp2_with (first
          | (go_at_call 33; refine (must_yes 10 _).mono ?_; rintro e w9 ⟨rfl, h9⟩; have h9' := h9.symm; clear h9; subst h9')
          | fail)
        go_roundw
        case rel => exact ⟨k + 1, by omega, by go_num, trivial⟩
        case measure => simp [intOf]; omega
    · have hkk : k = L := by omega
      subst hkk
      go_wp2_with fail
      refine wp_region_plan_p (fun W => W = w.drew) (Plan.of [(0, true), (2, true), (3, true), (4, true), (5, true), (1, false), (6, false), (7, true), (8, false)] .done) (fun ch W => ch = [{ v := .iface 25 (.int .i64 140), recovered := false }] ∧ Below w.heap.size w W) (by kernel_rfl) (by kernel_rfl) (by kernel_rfl) (by kernel_rfl) rfl ?_ ?_
      · rintro ch a' w' ⟨rfl, hx⟩ hd
        exact ⟨hd, rfl, hx⟩
      have hb1 : Below w.heap.size w w.drew := (Below.refl _ _).drew
      have cs1 := cs.out _ hb1
      have cj1 := cj.out _ hb1
      have cd1 := cd.out _ hb1
      iterate 5
        first
          | (refine plan_pass _ rfl (by rfl) ?_)
          | (refine plan_take _ _ rfl (.inl ⟨by rfl, fun W hS => by obtain rfl := hS; go_simp; try with_reducible rfl⟩) ?_)
        try simp only [Act.put, List.setIfInBounds_toArray, List.set_cons_zero, List.set_cons_succ]
      refine plan_run _ rfl (fun K' hK' => ?_)
      go_simp
      refine Calls.mono (ht1.out _ hb1) ?_
      rintro e w9 ⟨rfl, h9⟩
      have h9' := h9.symm
      clear h9
      subst h9'
      refine hK'.out _ _ rfl ?_
      clear hK' K'
      refine plan_run _ rfl (fun K' hK' => ?_)
      go_simp
      refine Calls.mono (ht3.out _ hb1) ?_
      rintro e w9 ⟨rfl, h9⟩
      have h9' := h9.symm
      clear h9
      subst h9'
      refine hK'.out _ _ rfl ?_
      clear hK' K'
      iterate 1
        first
          | (refine plan_pass _ rfl (by rfl) ?_)
          | (refine plan_take _ _ rfl (.inl ⟨by rfl, fun W hS => by obtain rfl := hS; go_simp; try with_reducible rfl⟩) ?_)
        try simp only [Act.put, List.setIfInBounds_toArray, List.set_cons_zero, List.set_cons_succ]
      refine plan_run _ rfl (fun K' hK' => ?_)
      go_simp
      refine (must_no 140 _).mono ?_
      rintro e w9 ⟨rfl, h9⟩
      have h9' := h9.symm
      clear h9
      subst h9'
      unfold thrownJ
      exact pan_here ⟨rfl, hb1⟩ rfl
theorem replace_room (j p kb mb n : Nat) (d : DskV) (h : HdV) (lo : Option Addr) (lc : Nat) (l : List (List UInt8)) (so : Option Addr) (sc : Nat) (m : List (List UInt8)) (w : World) (H : JAt w j p kb mb n d h lo lc l false) (hn : 8 ≤ n)
    (hS : Strs w so sc m) (hm : ∀ r ∈ m, r.length ≤ 20000) (htm : takenM m ≤ 100000000) (hroom : ¬ takenM m ≤ limitM n) :
    Calls Tryz.prog 42 #[.pointer (some ⟨j, 0, none⟩), .slice so m.length sc] w fun e w' => e = .returned (.int .i64 140) ∧ Has w' j 75 (jnlC p h lo l.length lc false) ∧ But j w w' :=
  replace_err 140 false (by decide) j p l.length lc h lo so m.length sc w H.jnl fun bs bj w' hs hj hb => replace1_room j p kb mb n d h lo lc l so sc m bs bj w' hs hj (H.later hb) hn (hS.later hb) hm htm hroom
end

section
set_option linter.unusedSimpArgs false
set_option linter.unusedVariables false
open Go.RowKit

theorem written_nil {d : DskV} (hp : d.pend = []) : writtenM d = sec d.dat := by
  funext i
  unfold writtenM
  rw [hp]
  rfl
theorem Good.slot_sec {n : Nat} {D : List UInt8} {h : HdV} {l : List (List UInt8)} (g : Good n D h l) : sec D (h.num % 2) = hdB h ++ (sec D (h.num % 2)).drop 44 :=
  hd_split (by rw [← g.slot]; unfold sec; rw [List.take_take]; rfl)
theorem Good.nums {n : Nat} {D : List UInt8} {h : HdV} {l : List (List UInt8)} (g : Good n D h l) : ∀ k, k < 2 → isHd (sec D k) = true → (rdHd (sec D k)).num < 256 := by
  intro k hk hi
  by_cases e : k = h.num % 2
  · rw [e, g.slot_sec, rd_hd h g.ok]
    exact g.num
  · have e2 : k = (h.num + 1) % 2 := by omega
    rw [e2] at hi ⊢
    have := g.stale.num (by have := g.num; omega) hi
    have := g.num
    omega
theorem Good.newest {n : Nat} {D : List UInt8} {h : HdV} {l : List (List UInt8)} (g : Good n D h l) : newestTo (sec D) 2 = (h, true) := by
  have hs := g.slot_sec
  have hi : isHd (sec D (h.num % 2)) = true := by rw [hs]; exact is_hd h g.ok _
  have hr : rdHd (sec D (h.num % 2)) = h := by rw [hs]; exact rd_hd h g.ok _
  have hst : isHd (sec D ((h.num + 1) % 2)) = true → (rdHd (sec D ((h.num + 1) % 2))).num < h.num := fun q => g.stale.num (by have := g.num; omega) q
  have h01 : h.num % 2 = 0 ∨ h.num % 2 = 1 := by omega
  rcases h01 with e | e
  · have e1 : (h.num + 1) % 2 = 1 := by omega
    rw [e] at hi hr
    rw [e1] at hst
    have t0 : newestTo (sec D) 1 = (h, true) := by
      rw [newest_step]
      have : takesM (sec D 0) 0 (newestTo (sec D) 0) = true := by
        unfold takesM
        rw [hi, hr, e]
        rfl
      rw [if_pos this, hr]
    rw [newest_step, t0]
    have : ¬ takesM (sec D 1) 1 (h, true) = true := by
      intro q
      unfold takesM at q
      rw [Bool.and_eq_true, Bool.and_eq_true] at q
      obtain ⟨q1, _, q3⟩ := q
      have := hst q1
      simp at q3
      omega
    rw [if_neg this]
  · have e1 : (h.num + 1) % 2 = 0 := by omega
    rw [e] at hi hr
    rw [e1] at hst
    have hb : (newestTo (sec D) 1).2 = true → (newestTo (sec D) 1).1.num < h.num := by
      rw [newest_step]
      by_cases q : takesM (sec D 0) 0 (newestTo (sec D) 0) = true
      · rw [if_pos q]
        intro _
        unfold takesM at q
        rw [Bool.and_eq_true] at q
        exact hst q.1
      · rw [if_neg q]
        intro z
        cases z
    rw [newest_step]
    have : takesM (sec D 1) 1 (newestTo (sec D) 1) = true := by
      unfold takesM
      rw [hi, hr, e]
      cases hf : (newestTo (sec D) 1).2 with
      | false => simp
      | true =>
        have := hb hf
        simp [this]
    rw [if_pos this, hr]
theorem bodyN_get {d : DskV} {D : List UInt8} {n : Nat} (hw : writtenM d = sec D) (hD : D.length = 64 * n) (i : Nat) : ∀ k, i + k ≤ n → bodyN d i k = (D.drop (64 * i)).take (64 * k)
  | 0, _ => by rw [Nat.mul_zero, List.take_zero]; rfl
  | k + 1, hk => by
    show bodyN d i k ++ writtenM d (i + k) = _
    rw [bodyN_get hw hD i k (by omega), hw]
    unfold sec
    rw [show 64 * (k + 1) = 64 * k + 64 by omega, List.take_add, List.drop_drop]
    congr 3
    omega
theorem Good.body {n : Nat} {d : DskV} {h : HdV} {l : List (List UInt8)} (g : Good n d.dat h l) (hp : d.pend = []) : bodyM d (firstM n h.half) h.len = sheetB l := by
  have hf := first_in g.n0 g.half g.fits
  unfold bodyM
  rw [bodyN_get (written_nil hp) g.size _ _ (by omega), List.take_take, Nat.min_eq_left (by omega)]
  exact g.recs
/-- What is laid, and where: facts. -/
structure LaidOk (n : Nat) (D : List UInt8) (h f : HdV) (l1 m : List (List UInt8)) : Prop where
  half : f.half ≤ 1
  fit : f.len + (sheetB m).length ≤ limitM n
  len : f.len = (sheetB l1).length
  sum : f.sum = sumM 0 l1
  recs : (D.drop (64 * firstM n f.half)).take f.len = sheetB l1
  each : ∀ r ∈ l1 ++ m, r.length ≤ 20000
  room : takenM (l1 ++ m) ≤ limitM n
  apart : chunkN (layB ⟨D, [], 0, false⟩ n f m) = 0 ∨ f.half ≠ h.half ∨ f.len = h.len
theorem layB_dat {d e : DskV} (h : d.dat = e.dat) (n : Nat) (f : HdV) (m : List (List UInt8)) : layB d n f m = layB e n f m := by unfold layB; rw [h]
section
variable {n : Nat} {d : DskV} {h f : HdV} {l l1 m : List (List UInt8)}
theorem laid_len (g : Good n d.dat h l) (k : LaidOk n d.dat h f l1 m) : (layB d n f m).length = f.len % 64 + (sheetB m).length ∧ (layB d n f m).take (f.len % 64) = (sec d.dat (layI n f)).take (f.len % 64) ∧ 2 ≤ layI n f ∧ layI n f + chunkN (layB d n f m) ≤ n ∧ 64 * layI n f + f.len % 64 = 64 * firstM n f.half + f.len := by
  have hf := first_in g.n0 k.half k.fit
  have h1 : layI n f = firstM n f.half + f.len / 64 := rfl
  have hsl : (sec d.dat (layI n f)).length = 64 := sec_length g.size (by rw [h1]; omega)
  have hq : ((sec d.dat (layI n f)).take (f.len % 64)).length = f.len % 64 := by rw [List.length_take, hsl]; omega
  have hl : (layB d n f m).length = f.len % 64 + (sheetB m).length := by
    unfold layB
    rw [List.length_append]
    show ((sec d.dat (layI n f)).take (f.len % 64)).length + _ = _
    rw [hq]
  refine ⟨hl, ?_, by omega, ?_, by omega⟩
  · unfold layB
    show ((sec d.dat (layI n f)).take (f.len % 64) ++ sheetB m).take _ = _
    exact take_app hq
  · unfold chunkN
    rw [hl]
    omega
/-- Torn or not, what is laid leaves the journal as it was. -/
theorem laid_old (g : Good n d.dat h l) (k : LaidOk n d.dat h f l1 m) {c : Nat} (hc : c ≤ chunkN (layB d n f m)) {E : List UInt8} (ht : Torn n d.dat (layP d.dat (layB d n f m) (layI n f) c) E) :
    Good n E h l ∧ (∀ j, j < 64 * layI n f + f.len % 64 → E[j]? = d.dat[j]?) := by
  obtain ⟨hl, hB, h2, hn, he⟩ := laid_len g k
  have hoff := lay_torn (q := f.len % 64) g.size ht (by omega) (by omega) hB
  refine ⟨g.at ht.len (fun j hj => hoff j (by omega)) (fun j hj1 hj2 => ?_), fun j hj => hoff j (.inl hj)⟩
  have hgf := first_in g.n0 g.half g.fits
  have hkf := first_in g.n0 k.half k.fit
  by_cases hc0 : chunkN (layB d n f m) = 0
  · have : c = 0 := by omega
    subst this
    rw [ht.nil g.size]
  · rcases k.apart with z | z | z
    · exact absurd (show chunkN (layB d n f m) = 0 from z) hc0
    · apply hoff
      have a1 := g.half
      have a2 := k.half
      have a3 := g.fits
      have a4 := k.fit
      have hcn : c ≤ (f.len % 64 + (sheetB m).length + 63) / 64 := by rw [← hl]; exact hc
      have hli : layI n f = firstM n f.half + f.len / 64 := rfl
      have b1 : (f.half = 0 ∧ h.half = 1) ∨ (f.half = 1 ∧ h.half = 0) := by omega
      have hn8 := g.n0
      unfold limitM at a3 a4
      rcases b1 with ⟨b1, b2⟩ | ⟨b1, b2⟩
      · have e1 : firstM n f.half = 2 := by rw [b1]; unfold firstM; omega
        have e2 : firstM n h.half = 2 + (n / 2 - 1) := by rw [b2]; unfold firstM; omega
        right
        omega
      · have e1 : firstM n f.half = 2 + (n / 2 - 1) := by rw [b1]; unfold firstM; omega
        have e2 : firstM n h.half = 2 := by rw [b2]; unfold firstM; omega
        left
        omega
    · by_cases hhe : f.half = h.half
      · apply hoff
        left
        rw [he, hhe, z]
        exact hj2
      · apply hoff
        have a1 := g.half
        have a2 := k.half
        have a3 := g.fits
        have a4 := k.fit
        have hcn : c ≤ (f.len % 64 + (sheetB m).length + 63) / 64 := by rw [← hl]; exact hc
        have hli : layI n f = firstM n f.half + f.len / 64 := rfl
        have b1 : (f.half = 0 ∧ h.half = 1) ∨ (f.half = 1 ∧ h.half = 0) := by omega
        have hn8 := g.n0
        unfold limitM at a3 a4
        rcases b1 with ⟨b1, b2⟩ | ⟨b1, b2⟩
        · have e1 : firstM n f.half = 2 := by rw [b1]; unfold firstM; omega
          have e2 : firstM n h.half = 2 + (n / 2 - 1) := by rw [b2]; unfold firstM; omega
          right
          omega
        · have e1 : firstM n f.half = 2 + (n / 2 - 1) := by rw [b1]; unfold firstM; omega
          have e2 : firstM n h.half = 2 := by rw [b2]; unfold firstM; omega
          left
          omega
theorem laid_full (g : Good n d.dat h l) (k : LaidOk n d.dat h f l1 m) {D1 : List UInt8} (hF : Full n d.dat (layP d.dat (layB d n f m) (layI n f) (chunkN (layB d n f m))) D1) :
    Good n D1 h l ∧ (D1.drop (64 * firstM n f.half)).take (f.len + (sheetB m).length) = sheetB (l1 ++ m) := by
  obtain ⟨hl, hB, h2, hn, he⟩ := laid_len g k
  have hsec : ∀ i, i < n → (sec d.dat i).length = 64 := fun i hi => sec_length g.size hi
  have ht : Torn n d.dat (layP d.dat (layB d n f m) (layI n f) (chunkN (layB d n f m))) D1 := hF.torn (fun x hx => by
    obtain ⟨i, s⟩ := x
    obtain ⟨t, ht, rfl, rfl⟩ := mem_layP.1 hx
    show (overB _ _ _).length = 64
    have := hsec (layI n f + t) (by omega)
    rw [overB_length _ _ _ (by rw [chunkB_len]; omega)]
    exact this) (fun x hx => by unfold sec; rw [List.length_take]; omega)
  obtain ⟨g1, hlow⟩ := laid_old g k (Nat.le_refl _) ht
  refine ⟨g1, ?_⟩
  obtain ⟨_, hin⟩ := lay_full g.size hF hn
  have hkf := first_in g.n0 k.half k.fit
  have hlen1 := k.len
  rw [sheetB_app]
  apply List.ext_getElem?
  intro j
  by_cases hj : j < f.len + (sheetB m).length
  · rw [List.getElem?_take, if_pos hj, List.getElem?_drop]
    by_cases hjf : j < f.len
    · rw [List.getElem?_append_left (by omega), ← k.recs, List.getElem?_take, if_pos hjf, List.getElem?_drop]
      exact hlow _ (by omega)
    · rw [List.getElem?_append_right (by omega)]
      have e1 : 64 * firstM n f.half + j = 64 * layI n f + (f.len % 64 + (j - f.len)) := by omega
      rw [e1, hin _ (by omega)]
      unfold layB
      have hq : ((sec d.dat (layI n f)).take (f.len % 64)).length = f.len % 64 := by rw [List.length_take, hsec _ (by omega)]; omega
      show ((sec d.dat (layI n f)).take (f.len % 64) ++ sheetB m)[_]? = _
      rw [List.getElem?_append_right (by omega), hq]
      congr 1
      omega
  · rw [List.getElem?_take, if_neg hj, List.getElem?_eq_none (by rw [List.length_append]; omega)]
theorem slot_torn {D D2 : List UInt8} (hD : D.length = 64 * n) (hn : 8 ≤ n) (h : HdV) (hF : Full n D (slotP D h) D2) : Torn n D (slotP D h) D2 := by
  refine hF.torn (fun x hx => ?_) (fun x hx => by unfold sec; rw [List.length_take]; omega)
  unfold slotP at hx
  rw [List.mem_singleton] at hx
  subst hx
  show (hdB h ++ _).length = 64
  rw [List.length_append, hdB_length, List.length_drop, sec_length hD (by omega)]
theorem kept_hd (k : LaidOk n d.dat h f l1 m) : (nextM h f m).len = (sheetB (l1 ++ m)).length ∧ (nextM h f m).sum = sumM 0 (l1 ++ m) := by
  constructor
  · show f.len + _ = _
    rw [sheetB_app, List.length_append, k.len]
  · show sumM f.sum m = _
    rw [sumM_app, k.sum]
/-- What a keep that was cut off leaves is, behind a crash, what there was or what it makes. -/
theorem cut_good (g : Good n d.dat h l) (hN : h.num < 255) (k : LaidOk n d.dat h f l1 m) {d' : DskV} (hc : CutAt n d h f m d') {E : List UInt8} (ht : Torn n d'.dat d'.pend E) : Good n E h l ∨ Good n E (nextM h f m) (l1 ++ m) := by
  rcases hc.way with ⟨e, c, hc', hp⟩ | ⟨hF, hp⟩
  · rw [e, hp] at ht
    exact .inl (laid_old g k hc' ht).1
  · obtain ⟨g1, hr⟩ := laid_full g k hF
    rcases hp with hp | hp
    · rw [hp] at ht
      rw [ht.nil g1.size]
      exact .inl g1
    · rw [hp] at ht
      obtain ⟨k1, k2⟩ := kept_hd k
      exact g1.header (h' := nextM h f m) (l' := l1 ++ m) rfl (show h.num + 1 < 256 by omega) k.half k1 k2 hr k.each k.room ht
/-- What a keep makes. -/
theorem kept_good (g : Good n d.dat h l) (hN : h.num < 255) (k : LaidOk n d.dat h f l1 m) {d' : DskV} (hc : KeptAt n d h f m d') : Good n d'.dat (nextM h f m) (l1 ++ m) := by
  obtain ⟨D1, hF, hF2⟩ := hc.way
  obtain ⟨g1, hr⟩ := laid_full g k hF
  obtain ⟨k1, k2⟩ := kept_hd k
  have ht := slot_torn g1.size g1.n0 _ hF2
  rcases g1.header (h' := nextM h f m) (l' := l1 ++ m) rfl (show h.num + 1 < 256 by omega) k.half k1 k2 hr k.each k.room ht with g2 | g2
  · exfalso
    have hst := g2.stale
    have hsl : (h.num + 1) % 2 = (nextM h f m).num % 2 := rfl
    rw [hsl, hF2.full _ _ (List.mem_singleton.2 rfl)] at hst
    obtain ⟨x, hx, e⟩ := hst
    rw [(hd_cut (nextM h f m) _).2.2.2.2] at e
    have e6 := congrArg getN e
    have p8 : (256 : Nat) ^ 8 = 18446744073709551616 := by decide
    have hnx : (nextM h f m).num = h.num + 1 := rfl
    rw [get_put 8 _ (by decide), get_put 8 _ (by decide), p8, Nat.mod_eq_of_lt (by omega), Nat.mod_eq_of_lt (by omega)] at e6
    omega
  · exact g2
end
theorem sheet_le_taken (l : List (List UInt8)) : (sheetB l).length ≤ takenM l := by have := sheet_taken l; omega
theorem taken_one (l : List (List UInt8)) (s : List UInt8) : takenM (l ++ [s]) = takenM l + (s.length + 16) := by rw [takenM_app]; rfl
theorem sheet_one (s : List UInt8) : (sheetB [s]).length = s.length + 2 := by rw [sheetB_cons, sheetB_nil, List.append_nil, recB_length]
theorem laid_append {n : Nat} {d : DskV} {h : HdV} {l : List (List UInt8)} (g : Good n d.dat h l) {s : List UInt8} (hs : s.length ≤ 20000) (hr : takenM l + (s.length + 16) ≤ limitM n) : LaidOk n d.dat h h l [s] where
  half := g.half
  fit := by
    have := sheet_le_taken (l ++ [s])
    rw [sheetB_app, List.length_append, taken_one] at this
    rw [g.len]
    omega
  len := g.len
  sum := g.sum
  recs := g.recs
  each := fun r hr => by
    rcases List.mem_append.1 hr with z | z
    · exact g.each r z
    · rw [List.mem_singleton] at z; rw [z]; exact hs
  room := by rw [taken_one]; exact hr
  apart := .inr (.inr rfl)
theorem laid_replace {n : Nat} {d : DskV} {h : HdV} {l m : List (List UInt8)} (g : Good n d.dat h l) (hm : ∀ r ∈ m, r.length ≤ 20000) (hr : takenM m ≤ limitM n) : LaidOk n d.dat h ⟨0, 1 - h.half, 0, 0⟩ [] m where
  half := by show 1 - h.half ≤ 1; omega
  fit := by have := sheet_le_taken m; show 0 + _ ≤ _; omega
  len := rfl
  sum := rfl
  recs := List.take_zero
  each := hm
  room := hr
  apart := .inr (.inl (by have := g.half; show 1 - h.half ≠ h.half; omega))
theorem layB_hd0 (d : DskV) (n : Nat) : layB d n hd0 [] = [] := by
  unfold layB
  rw [show hd0.len % 64 = 0 from rfl, List.take_zero]
  rfl
theorem laid_format {n : Nat} {d : DskV} {h : HdV} {l : List (List UInt8)} (g : Good n d.dat h l) : LaidOk n d.dat h hd0 [] [] where
  half := by decide
  fit := Nat.zero_le _
  len := rfl
  sum := rfl
  recs := List.take_zero
  each := fun r hr => by cases hr
  room := Nat.zero_le _
  apart := .inl (by rw [layB_hd0]; rfl)
theorem Good.fitApp {n : Nat} {D : List UInt8} {h : HdV} {l : List (List UInt8)} (g : Good n D h l) {s : List UInt8} (hr : takenM l + (s.length + 16) ≤ limitM n) : 64 * firstM n h.half + h.len + (s.length + 2) + 64 ≤ 64 * n := by
  have h1 := sheet_le_taken (l ++ [s])
  rw [sheetB_app, List.length_append, taken_one, sheet_one] at h1
  have h2 := g.len
  have h3 := first_in (k := h.len + (s.length + 2)) g.n0 g.half (by omega)
  omega
/-! ### A disk without a journal -/
structure NoJnl (n : Nat) (D : List UInt8) : Prop where
  n0 : 8 ≤ n
  n1 : n ≤ 1000
  size : D.length = 64 * n
  nums : ∀ k, k < 2 → isHd (sec D k) = true → (rdHd (sec D k)).num < 256
  none : newestTo (sec D) 2 = (hd0, false)
def zeroD (n : Nat) : List UInt8 := List.replicate (64 * n) 0
theorem sec_zeroD {n i : Nat} (h : i < n) : sec (zeroD n) i = List.replicate 64 0 := by
  unfold sec zeroD
  rw [List.drop_replicate, List.take_replicate]
  congr 1
  omega
theorem is_zero : isHd (List.replicate 64 0) = false := by decide
theorem stale_zero : Stale (List.replicate 64 0) 1 := ⟨0, by decide, by decide⟩
theorem none_of {n : Nat} {D : List UInt8} (hn : 8 ≤ n) (hn1 : n ≤ 1000) (hD : D.length = 64 * n) (h0 : isHd (sec D 0) = false) (h1 : Stale (sec D 1) 1) : NoJnl n D := by
  have hk1 : isHd (sec D 1) = true → (rdHd (sec D 1)).num = 0 := fun q => by have := h1.num (by decide) q; omega
  refine ⟨hn, hn1, hD, fun k hk q => ?_, ?_⟩
  · have : k = 0 ∨ k = 1 := by omega
    rcases this with rfl | rfl
    · rw [h0] at q; cases q
    · rw [hk1 q]; decide
  · have t0 : newestTo (sec D) 1 = (hd0, false) := by
      rw [newest_step]
      have : ¬ takesM (sec D 0) 0 (newestTo (sec D) 0) = true := by
        unfold takesM
        rw [h0]
        simp
      rw [if_neg this]
      rfl
    rw [newest_step, t0]
    have : ¬ takesM (sec D 1) 1 (hd0, false) = true := by
      intro q
      unfold takesM at q
      rw [Bool.and_eq_true, Bool.and_eq_true] at q
      obtain ⟨q1, q2, _⟩ := q
      rw [hk1 q1] at q2
      simp at q2
    rw [if_neg this]
theorem none_zero {n : Nat} (hn : 8 ≤ n) (hn1 : n ≤ 1000) : NoJnl n (zeroD n) := by
  refine none_of hn hn1 (by unfold zeroD; rw [List.length_replicate]) ?_ ?_
  · rw [sec_zeroD (by omega)]; exact is_zero
  · rw [sec_zeroD (by omega)]; exact stale_zero
def hd1 : HdV := ⟨1, 0, 0, 0⟩
theorem next_zero : nextM hd0 hd0 [] = hd1 := rfl
theorem layP_none (n : Nat) (d : DskV) : layP d.dat (layB d n hd0 []) (layI n hd0) (chunkN (layB d n hd0 [])) = [] := by rw [layB_hd0]; rfl
/-- A first header, torn or not. -/
theorem first_torn {n : Nat} (hn : 8 ≤ n) (hn1 : n ≤ 1000) {E : List UInt8} (ht : Torn n (zeroD n) (slotP (zeroD n) hd1) E) : NoJnl n E ∨ Good n E hd1 [] := by
  obtain ⟨c, hc, e⟩ := ht.tear 1 _ (List.mem_singleton.2 rfl)
  have hz1 : sec (zeroD n) (hd1.num % 2) = List.replicate 64 0 := sec_zeroD (show 1 < n by omega)
  rw [hz1, sec_zeroD (show 1 < n by omega)] at e
  have h0 : sec E 0 = List.replicate 64 0 := by
    rw [ht.same 0 (by omega) (fun s hs => by
      unfold slotP at hs
      rw [List.mem_singleton] at hs
      exact absurd (congrArg Prod.fst hs) (show ¬ (0 : Nat) = 1 by decide))]
    exact sec_zeroD (by omega)
  by_cases h44 : c < 44
  · left
    refine none_of hn hn1 ht.len (by rw [h0]; exact is_zero) ?_
    rw [e]
    exact stale_torn (X := List.replicate 64 0) (N := 1) (h := hd1) (by simp) stale_zero (by decide) (by decide) h44
  · right
    refine ⟨hn, hn1, ht.len, by decide, by decide, rfl, rfl, ?_, ?_, List.take_zero, fun r hr => (by cases hr), Nat.zero_le _⟩
    · have e1 : (E.drop (64 * (hd1.num % 2))).take 44 = (sec E 1).take 44 := by unfold sec; rw [List.take_take]; rfl
      rw [e1, e, List.take_append_of_le_length (by rw [List.length_take, List.length_append, hdB_length]; simp; omega), List.take_take, Nat.min_eq_left (by omega)]
      exact take_app (hdB_length _)
    · show Stale (sec E 0) 1
      rw [h0]
      exact stale_zero
theorem cut_fresh {n : Nat} {d d' : DskV} (hn : 8 ≤ n) (hn1 : n ≤ 1000) (hz : d.dat = zeroD n) (hc : CutAt n d hd0 hd0 [] d') {E : List UInt8} (ht : Torn n d'.dat d'.pend E) : NoJnl n E ∨ Good n E hd1 [] := by
  have hzl : (zeroD n).length = 64 * n := by unfold zeroD; rw [List.length_replicate]
  rcases hc.way with ⟨e, c, hc', hp⟩ | ⟨hF, hp⟩
  · rw [layB_hd0] at hc'
    have hc0 : c = 0 := Nat.le_zero.1 hc'
    rw [e, hp, hc0, hz, layP_zero] at ht
    rw [ht.nil hzl]
    exact .inl (none_zero hn hn1)
  · rw [layP_none, hz] at hF
    have e : d'.dat = zeroD n := sec_ext hF.len hzl fun i hi => hF.same i hi (fun s hs => by cases hs)
    rcases hp with hp | hp
    · rw [hp, e] at ht
      rw [ht.nil hzl]
      exact .inl (none_zero hn hn1)
    · rw [hp, e, next_zero] at ht
      exact first_torn hn hn1 ht
theorem kept_fresh {n : Nat} {d d' : DskV} (hn : 8 ≤ n) (hn1 : n ≤ 1000) (hz : d.dat = zeroD n) (hc : KeptAt n d hd0 hd0 [] d') : Good n d'.dat hd1 [] := by
  have hzl : (zeroD n).length = 64 * n := by unfold zeroD; rw [List.length_replicate]
  obtain ⟨D1, hF, hF2⟩ := hc.way
  rw [layP_none, hz] at hF
  have e : D1 = zeroD n := sec_ext hF.len hzl fun i hi => hF.same i hi (fun s hs => by cases hs)
  rw [e, next_zero] at hF2
  rcases first_torn hn hn1 (slot_torn hzl hn _ hF2) with z | z
  · exfalso
    have hs : sec d'.dat 1 = hdB hd1 ++ (sec (zeroD n) 1).drop 44 := hF2.full 1 _ (List.mem_singleton.2 rfl)
    have hok : HdOk hd1 := ⟨by decide, by decide, by decide, by decide⟩
    have hi : isHd (sec d'.dat 1) = true := by rw [hs]; exact is_hd hd1 hok _
    have hr : rdHd (sec d'.dat 1) = hd1 := by rw [hs]; exact rd_hd hd1 hok _
    have h0 : sec d'.dat 0 = List.replicate 64 0 := by
      rw [hF2.same 0 (by omega) (fun s hs => by
        unfold slotP at hs
        rw [List.mem_singleton] at hs
        exact absurd (congrArg Prod.fst hs) (show ¬ (0 : Nat) = 1 by decide))]
      exact sec_zeroD (by omega)
    have hnn := z.none
    have t0 : newestTo (sec d'.dat) 1 = (hd0, false) := by
      rw [newest_step]
      have : ¬ takesM (sec d'.dat 0) 0 (newestTo (sec d'.dat) 0) = true := by
        unfold takesM
        rw [h0, is_zero]
        simp
      rw [if_neg this]
      rfl
    rw [newest_step, t0] at hnn
    have : takesM (sec d'.dat 1) 1 (hd0, false) = true := by
      unfold takesM
      rw [hi, hr]
      rfl
    rw [if_pos this] at hnn
    exact absurd (congrArg Prod.snd hnn) (by simp)
  · exact z
end
end Go.Proofs.YtpnpjblohijajabGreat
