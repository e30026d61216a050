/- StoOn, StoKnown, joined. -/
import Derived.Test.YtpnpjblohijajabGreatGrp44
namespace Go.Proofs.YtpnpjblohijajabGreat
section
set_option linter.unusedSimpArgs false
set_option linter.unusedVariables false
set_option maxRecDepth 100000
open Go.RowKit Go.MapKept

/-- A store that was made behind w0. -/
structure SL (w0 w : World) (s p kb mb n : Nat) (F : Nat → Prop) (l : ConL) (N : Nat) : Prop where
  ok : StAt w s p kb mb n 0 F l N
  new : ∀ k, F k → w0.heap.size ≤ k
  below : Below w0.heap.size w0 w
/-- A disk behind a crash. -/
structure CrL (w0 w : World) (p kb mb n : Nat) (l : ConL) (N : Nat) : Prop where
  ok : ∃ E ts, DiskAt w p kb mb n ⟨E, [], 0, false⟩ ∧ Runs (16 * n) [] ts ∧ endL [] ts = l ∧ GoodL n E (ts.map recM) N
  fits : FitsL (16 * n) l
  n32 : 32 ≤ n
  new : ∀ k, DF p kb mb k → w0.heap.size ≤ k
  below : Below w0.heap.size w0 w
section
variable {w0 w w' : World} {s p kb mb n N : Nat} {F : Nat → Prop} {l : ConL}
theorem SL.later (H : SL w0 w s p kb mb n F l N) (hb : Below w.heap.size w w') : SL w0 w' s p kb mb n F l N := ⟨H.ok.later hb, H.new, H.below.trans (hb.mono H.below.size)⟩
theorem CrL.later (H : CrL w0 w p kb mb n l N) (hb : Below w.heap.size w w') : CrL w0 w' p kb mb n l N := by
  obtain ⟨⟨E, ts, hD, h⟩, h2, h3, h4, h5⟩ := H
  exact ⟨⟨E, ts, hD.later hb, h⟩, h2, h3, h4, h5.trans (hb.mono h5.size)⟩
theorem SL.off {G : Nat → Prop} (H : SL w0 w s p kb mb n F l N) (hq : OffF G w w') (hG : ∀ k, F k → ¬ G k) (hG0 : ∀ k, G k → w0.heap.size ≤ k) : SL w0 w' s p kb mb n F l N := ⟨H.ok.off hq hG, H.new, H.below.trans (hq.below hG0 H.below.size)⟩
end
theorem smake_sl (w0 : World) (p kb mb n : Nat) (w : World) (H : DL w0 w p kb mb n (zeroD n)) (hn : 32 ≤ n) :
    Calls Tryz.prog 5 #[.pointer (some ⟨p, 0, none⟩)] w fun e w' => ∃ s F, e = .returned (.tuple #[.pointer (some ⟨s, 0, none⟩), .int .i64 0]) ∧ SL w0 w' s p kb mb n F [] 1 ∧ (∀ k, F k → DF p kb mb k ∨ w.heap.size ≤ k) ∧ OffF (DF p kb mb) w w' := by
  refine (smake_on p kb mb n w H.disk hn).mono ?_
  rintro e w' ⟨s, F, rfl, hS, hF, ho⟩
  refine ⟨s, F, rfl, ⟨hS, fun k hk => ?_, H.below.trans (ho.below H.new H.below.size)⟩, hF, ho⟩
  rcases hF k hk with z | z
  · exact H.new k z
  · exact Nat.le_trans H.below.size z
theorem sdo_sl (w0 : World) (s p kb mb n : Nat) (F : Nat → Prop) (l : ConL) (N : Nat) (to : Option Addr) (tc k : Nat) (t : List WrV) (w : World) (H : SL w0 w s p kb mb n F l N) (hN : N < 255) (hW : Wrs w to tc t) (hk : k = t.length) (hto : ∀ ad, to = some ad → ad.block < w.heap.size) (ht : IsTx t) (hyes : FitsL (16 * n) (doL l t)) :
    Calls Tryz.prog 7 #[.pointer (some ⟨s, 0, none⟩), .slice to k tc] w fun e w' => e = .returned (.int .i64 0) ∧ ∃ F', SL w0 w' s p kb mb n F' (doL l t) (N + 1) ∧ (∀ k, F' k → F k ∨ w.heap.size ≤ k) ∧ OffF F w w' := by
  subst hk
  refine (sdo_fits s p kb mb n 0 F l N to tc t w H.ok hN hW hto ht hyes).mono ?_
  rintro e w' (⟨rfl, F', left', hl, hS, hF, ho⟩ | ⟨_, hne, _⟩)
  · obtain rfl : left' = 0 := Nat.le_zero.1 hl
    refine ⟨rfl, F', ⟨hS, fun k hk => ?_, H.below.trans (ho.below H.new H.below.size)⟩, hF, ho⟩
    rcases hF k hk with z | z
    · exact H.new k z
    · exact Nat.le_trans H.below.size z
  · exact absurd rfl hne
theorem sform_sl (w0 : World) (s p kb mb n : Nat) (F : Nat → Prop) (l : ConL) (N : Nat) (to : Option Addr) (tc k : Nat) (t : List WrV) (w : World) (H : SL w0 w s p kb mb n F l N) (hW : Wrs w to tc t) (hk : k = t.length) (he : ∀ x ∈ t, x.key.length ≤ 140737488355328 ∧ x.bs.length ≤ 140737488355328) (hno : ¬ IsTx t) :
    Calls Tryz.prog 7 #[.pointer (some ⟨s, 0, none⟩), .slice to k tc] w fun e w' => e = .returned (.int .i64 10) ∧ SL w0 w' s p kb mb n F l N ∧ Below w.heap.size w w' := by
  subst hk
  refine (sdo_form s p kb mb n 0 F l N to tc t w H.ok hW he hno).mono ?_
  rintro e w' ⟨rfl, hb⟩
  exact ⟨rfl, H.later hb, hb⟩
theorem sroom_sl (w0 : World) (s p kb mb n : Nat) (F : Nat → Prop) (l : ConL) (N : Nat) (to : Option Addr) (tc k : Nat) (t : List WrV) (w : World) (H : SL w0 w s p kb mb n F l N) (hW : Wrs w to tc t) (hk : k = t.length) (hto : ∀ ad, to = some ad → ad.block < w.heap.size) (ht : IsTx t) (hno : ¬ FitsL (16 * n) (doL l t)) :
    Calls Tryz.prog 7 #[.pointer (some ⟨s, 0, none⟩), .slice to k tc] w fun e w' => e = .returned (.int .i64 140) ∧ SL w0 w' s p kb mb n F l N ∧ Below w.heap.size w w' := by
  subst hk
  refine (sdo_room s p kb mb n 0 F l N to tc t w H.ok hW hto ht hno).mono ?_
  rintro e w' ⟨rfl, hb⟩
  exact ⟨rfl, H.later hb, hb⟩
theorem scrash_sl (w0 : World) (s p kb mb n : Nat) (F : Nat → Prop) (l : ConL) (N : Nat) (ao : Option Addr) (k c : Nat) (cs : List UInt8) (w : World) (H : SL w0 w s p kb mb n F l N) (hB : By w ao c cs) (hk : k = cs.length) (hlt : ∀ ad, ao = some ad → cs ≠ [] → ad.block < w.heap.size ∧ ¬ F ad.block) :
    Calls Tryz.prog 10 #[.pointer (some ⟨p, 0, none⟩), .slice ao k c] w fun e w' => e = .returned (.tuple #[]) ∧ CrL w0 w' p kb mb n l N ∧ OffF (DF p kb mb) w w' := by
  refine (crash_face_ne p kb mb n _ ao k c cs w H.ok.cut hB hk (fun ad had hne => ⟨(hlt ad had hne).1, fun hf => (hlt ad had hne).2 (H.ok.disk _ hf)⟩)).mono ?_
  rintro e w' ⟨rfl, E, ⟨ts, hr, he, hg⟩, hD, ho⟩
  exact ⟨rfl, ⟨⟨E, ts, hD, hr, he, hg⟩, H.ok.fits, H.ok.n32, fun k hk => H.new k (H.ok.disk k hk), H.below.trans (ho.below (fun k hk => H.new k (H.ok.disk k hk)) H.below.size)⟩, ho⟩
theorem sopen_sl (w0 : World) (p kb mb n : Nat) (l : ConL) (N : Nat) (w : World) (H : CrL w0 w p kb mb n l N) :
    Calls Tryz.prog 11 #[.pointer (some ⟨p, 0, none⟩)] w fun e w' => ∃ s F, e = .returned (.tuple #[.pointer (some ⟨s, 0, none⟩), .int .i64 0]) ∧ SL w0 w' s p kb mb n F l N ∧ (∀ k, F k → DF p kb mb k ∨ w.heap.size ≤ k) ∧ Below w.heap.size w w' := by
  obtain ⟨⟨E, ts, hD, hr, he, hg⟩, hf, hn, hnew, hb⟩ := H
  subst he
  refine (sopen_good p kb mb n 0 E ts N w hD hg hr hf hn).mono ?_
  rintro e w' ⟨s, F, rfl, hS, hF, hq⟩
  refine ⟨s, F, rfl, ⟨hS, fun k hk => ?_, hb.trans (hq.mono hb.size)⟩, hF, hq⟩
  rcases hF k hk with z | z
  · exact hnew k z
  · exact Nat.le_trans hb.size z
theorem StAt.size_ok {w : World} {s p kb mb n left : Nat} {F : Nat → Prop} {l : ConL} {N : Nat} (H : StAt w s p kb mb n left F l N) : sizeL l ≤ 1000000000 ∧ l.length ≤ 100000 := by
  have h1 := H.fits.size
  have h2 := H.fits.few
  have h3 := H.n1
  omega
theorem sget_st (s p kb mb n left : Nat) (F : Nat → Prop) (l : ConL) (N : Nat) (k : List UInt8) (w : World) (H : StAt w s p kb mb n left F l N) (hk : k.length ≤ 140737488355328) :
    Calls Tryz.prog 9 #[.pointer (some ⟨s, 0, none⟩), strV k] w fun e w' => e = .returned (.tuple #[strV ((getK l k).getD []), .bool (getK l k).isSome]) ∧ Below w.heap.size w w' := by
  obtain ⟨j, cb, lo, lc, ts, hX, hJ, hC, _⟩ := H.ok
  exact sget_any s j cb (16 * n) l k w hX hC hk
theorem skeys_st (s p kb mb n left : Nat) (F : Nat → Prop) (l : ConL) (N : Nat) (w : World) (H : StAt w s p kb mb n left F l N) :
    Calls Tryz.prog 8 #[.pointer (some ⟨s, 0, none⟩)] w fun e w' => ∃ ao c, e = .returned (.slice ao l.length c) ∧ Strs w' ao c (l.map (·.1)) ∧ (∀ ad, ao = some ad → w.heap.size ≤ ad.block ∧ ad.block < w'.heap.size) ∧ Below w.heap.size w w' := by
  obtain ⟨j, cb, lo, lc, ts, hX, hJ, hC, _⟩ := H.ok
  exact skeys_any s j cb (16 * n) l w hX hC H.size_ok.2
theorem ssize_st (s p kb mb n left : Nat) (F : Nat → Prop) (l : ConL) (N : Nat) (w : World) (H : StAt w s p kb mb n left F l N) :
    Calls Tryz.prog 12 #[.pointer (some ⟨s, 0, none⟩)] w fun e w' => e = .returned (.int .i64 (sizeL l : Nat)) ∧ Below w.heap.size w w' := by
  obtain ⟨j, cb, lo, lc, ts, hX, hJ, hC, _⟩ := H.ok
  exact ssize_any s j cb (16 * n) l w hX hC H.size_ok.1
/-! ### Slices of writes, written out -/
theorem slice_wr2_w (e f : WrV) (w : World) : (Instr.buildSlice 33 2 #[(0, .agg (wrC e)), (1, .agg (wrC f))]).run Tryz.prog w = .ok (.slice (some ⟨w.heap.size, 0, none⟩) 2 2) (w.alloc (.cells (wrF [e, f]).toArray 32)) := by
  have h : (Instr.buildSlice 33 2 #[(0, .agg (wrC e)), (1, .agg (wrC f))]).run Tryz.prog w = ((newRow 32 (wrF [e, f]).toArray).run Tryz.prog w).andThen (fun a w => .ok (.slice (some a) 2 2) w) := by kernel_rfl
  rw [h]
  simp [newRow, run_newObj_alloc, Sem.run_bind, Sem.run_pure, Result.andThen]
theorem slice_wr3_w (e f g : WrV) (w : World) : (Instr.buildSlice 33 3 #[(0, .agg (wrC e)), (1, .agg (wrC f)), (2, .agg (wrC g))]).run Tryz.prog w = .ok (.slice (some ⟨w.heap.size, 0, none⟩) 3 3) (w.alloc (.cells (wrF [e, f, g]).toArray 32)) := by
  have h : (Instr.buildSlice 33 3 #[(0, .agg (wrC e)), (1, .agg (wrC f)), (2, .agg (wrC g))]).run Tryz.prog w = ((newRow 32 (wrF [e, f, g]).toArray).run Tryz.prog w).andThen (fun a w => .ok (.slice (some a) 3 3) w) := by kernel_rfl
  rw [h]
  simp [newRow, run_newObj_alloc, Sem.run_bind, Sem.run_pure, Result.andThen]
theorem wrs_made (w : World) (l : List WrV) (hl : l.length ≤ 1000) : ∃ W, w.alloc (.cells (wrF l).toArray 32) = W ∧ Wrs W (some ⟨w.heap.size, 0, none⟩) l.length l ∧ Below w.heap.size w W ∧ w.heap.size < W.heap.size :=
  ⟨_, rfl, wrs_of (Has.new _ _ _) (by omega), (Below.refl _ _).alloc (Nat.le_refl _) _, by simp⟩
section
variable {ops : Array Oper} {rest : List Oper} {o : Oper} {a : Act} {w : World} {Q : Exit → Act → World → Prop}
theorem build_wr1 (k : List UInt8) (hw : Region.wanted o (yielded ops a.tmps) = true) (x : Operand) (ho : o.op = .build 32 #[(0, x)]) (hx : a.eval x = strV k)
    (h : wpList Tryz.prog ops Q rest (a.put o.dst (.agg (wrC ⟨k, [], false⟩))) w) : wpList Tryz.prog ops Q (o :: rest) a w :=
  wpList_build_has hw 32 _ ho _ (by simpa [hx] using wr_built1 k) h
theorem build_wr02 (k : List UInt8) (d : Bool) (hw : Region.wanted o (yielded ops a.tmps) = true) (x z : Operand) (ho : o.op = .build 32 #[(0, x), (2, z)]) (hx : a.eval x = strV k) (hz : a.eval z = .bool d)
    (h : wpList Tryz.prog ops Q rest (a.put o.dst (.agg (wrC ⟨k, [], d⟩))) w) : wpList Tryz.prog ops Q (o :: rest) a w :=
  wpList_build_has hw 32 _ ho _ (by simpa [hx, hz] using wr_built02 k d) h
theorem wpList_slice_wrs1 (hw : Region.wanted o (yielded ops a.tmps) = true) (x : Operand) (ho : o.op = .buildSlice 33 1 #[(0, x)]) (e : WrV) (hx : a.eval x = .agg (wrC e))
    (h : ∀ W, Wrs W (some ⟨w.heap.size, 0, none⟩) 1 [e] → Below w.heap.size w W → w.heap.size < W.heap.size → wpList Tryz.prog ops Q rest (a.put o.dst (.slice (some ⟨w.heap.size, 0, none⟩) 1 1)) W) : wpList Tryz.prog ops Q (o :: rest) a w := by
  refine wpList_slice_wr hw x ho e hx ?_
  obtain ⟨W, rfl, h1, h2, h3⟩ := wrs_made w [e] (by simp)
  rw [wrF_one1] at h1 h2 h3
  exact h _ h1 h2 h3
theorem wpList_slice_wrs2 (hw : Region.wanted o (yielded ops a.tmps) = true) (x y : Operand) (ho : o.op = .buildSlice 33 2 #[(0, x), (1, y)]) (e f : WrV) (hx : a.eval x = .agg (wrC e)) (hy : a.eval y = .agg (wrC f))
    (h : ∀ W, Wrs W (some ⟨w.heap.size, 0, none⟩) 2 [e, f] → Below w.heap.size w W → w.heap.size < W.heap.size → wpList Tryz.prog ops Q rest (a.put o.dst (.slice (some ⟨w.heap.size, 0, none⟩) 2 2)) W) : wpList Tryz.prog ops Q (o :: rest) a w := by
  refine BigFrame.wpList_want hw fun K hK => ?_
  have hp : (#[(0, x), (1, y)] : Array (Nat × Operand)).map (fun (i, x) => (i, a.eval x)) = #[(0, .agg (wrC e)), (1, .agg (wrC f))] := by simp [hx, hy]
  have e1 : (execOp a.eval o).run Tryz.prog w = .ok (.value (.slice (some ⟨w.heap.size, 0, none⟩) 2 2)) (w.alloc (.cells (wrF [e, f]).toArray 32)) := by
    unfold execOp
    simp only [ho]
    simp only [hp, Sem.run_bind, slice_wr2_w e f w, Result.andThen_ok, Sem.run_pure]
  unfold Oper.wp
  rw [e1]
  obtain ⟨W, rfl, h1, h2, h3⟩ := wrs_made w [e, f] (by simp)
  exact hK _ _ (h _ h1 h2 h3)
theorem wpList_slice_wrs3 (hw : Region.wanted o (yielded ops a.tmps) = true) (x y z : Operand) (ho : o.op = .buildSlice 33 3 #[(0, x), (1, y), (2, z)]) (e f g : WrV) (hx : a.eval x = .agg (wrC e)) (hy : a.eval y = .agg (wrC f)) (hz : a.eval z = .agg (wrC g))
    (h : ∀ W, Wrs W (some ⟨w.heap.size, 0, none⟩) 3 [e, f, g] → Below w.heap.size w W → w.heap.size < W.heap.size → wpList Tryz.prog ops Q rest (a.put o.dst (.slice (some ⟨w.heap.size, 0, none⟩) 3 3)) W) : wpList Tryz.prog ops Q (o :: rest) a w := by
  refine BigFrame.wpList_want hw fun K hK => ?_
  have hp : (#[(0, x), (1, y), (2, z)] : Array (Nat × Operand)).map (fun (i, x) => (i, a.eval x)) = #[(0, .agg (wrC e)), (1, .agg (wrC f)), (2, .agg (wrC g))] := by simp [hx, hy, hz]
  have e1 : (execOp a.eval o).run Tryz.prog w = .ok (.value (.slice (some ⟨w.heap.size, 0, none⟩) 3 3)) (w.alloc (.cells (wrF [e, f, g]).toArray 32)) := by
    unfold execOp
    simp only [ho]
    simp only [hp, Sem.run_bind, slice_wr3_w e f g w, Result.andThen_ok, Sem.run_pure]
  unfold Oper.wp
  rw [e1]
  obtain ⟨W, rfl, h1, h2, h3⟩ := wrs_made w [e, f, g] (by simp)
  exact hK _ _ (h _ h1 h2 h3)
end
end

section
set_option linter.unusedSimpArgs false
set_option linter.unusedVariables false
set_option maxRecDepth 100000
open Go.RowKit Go.MapKept

def knownT : List WrV := [⟨[97], [49], false⟩, ⟨[98], [50], false⟩, ⟨[97], [], true⟩]
theorem knownT_is : IsTx knownT := by rw [isTx_iff]; decide
theorem knownT_do : doL [] knownT = [([98], [50])] := by decide
theorem knownT_fits : FitsL (16 * 64) (doL [] knownT) := by rw [fits_iff]; decide
theorem nil_no : ¬ IsTx [] := by rw [isTx_iff]; decide
set_option maxHeartbeats 8000000 in
theorem knownS_any (w : World) : Calls Tryz.prog 4 #[] w fun e w' => e = .returned (.bool true) ∧ Below w.heap.size w w' := by
  have hq : ∀ (ad : Addr) (w : World), (binOp .eql 24 (.pointer (some ad)) (.pointer none)).run Tryz.prog w = .ok (.bool false) w := fun ad w => by kernel_rfl
  go_enter Tryz.func4, Tryz.ntmps4
  go_wp2_with fail
  refine (new_on w 64 w (Below.refl _ _) (by decide) (by decide)).mono ?_
  rintro e w1 ⟨p, kb, mb, rfl, H1, hq1, hF1⟩
  go_wp2_with fail
  refine (smake_sl w p kb mb 64 w1 H1 (by decide)).mono ?_
  rintro e w2 ⟨s, F, rfl, H2, hF2, ho2⟩
  clear H1 hq1 hF1 ho2 hF2
  go_wp2_with (first
    | (refine build_wr2 [97] [49] (by rfl) _ _ rfl rfl rfl ?_)
    | (refine build_wr2 [98] [50] (by rfl) _ _ rfl rfl rfl ?_)
    | (refine build_wr02 [97] true (by rfl) _ _ rfl rfl rfl ?_)
    | (refine wpList_slice_wrs3 (by rfl) _ _ _ rfl ⟨[97], [49], false⟩ ⟨[98], [50], false⟩ ⟨[97], [], true⟩ rfl rfl rfl ?_; intro w3 hW3 hq3 hs3)
    | fail)
  have H3 := H2.later hq3
  refine (sdo_sl w s p kb mb 64 F [] 1 (some ⟨w2.heap.size, 0, none⟩) 3 3 knownT w3 H3 (by decide) hW3 rfl (fun ad had => by cases had; exact hs3) knownT_is knownT_fits).mono ?_
  rintro e w4 ⟨rfl, F4, H4, hF4, ho4⟩
  clear H2 H3 hW3 hq3 hs3 hF4 ho4
  rw [knownT_do] at H4
  go_wp2_with fail
  refine (sform_sl w s p kb mb 64 F4 [([98], [50])] (1 + 1) none 0 0 [] w4 H4 (Sl.nothing _ _) rfl (fun x hx => absurd hx List.not_mem_nil) nil_no).mono ?_
  rintro e w5 ⟨rfl, H5, hq5⟩
  clear H4 hq5
  go_wp2_with fail
  refine (scrash_sl w s p kb mb 64 F4 [([98], [50])] (1 + 1) none 0 0 [] w5 H5 (By.nothing _) rfl (fun ad had => by cases had)).mono ?_
  rintro e w6 ⟨rfl, H6, ho6⟩
  clear H5 ho6
  go_wp2_with fail
  refine (sopen_sl w p kb mb 64 [([98], [50])] (1 + 1) w6 H6).mono ?_
  rintro e w7 ⟨s7, F7, rfl, H7, hF7, hq7⟩
  clear H6 hF7 hq7
  have hg1 := sget_st s7 p kb mb 64 0 F7 [([98], [50])] (1 + 1) [98] w7 H7.ok (by decide)
  have e1 : (getK [([98], [50])] [98]).getD [] = [50] := by decide
  have e2 : (getK [([98], [50])] [98]).isSome = true := by decide
  rw [e1, e2] at hg1
  unfold strV at hg1
  replace hg1 : Hid _ := hg1
  clear e1 e2
  go_wp2_with fail
  refine Calls.mono hg1.out ?_
  rintro e w8 ⟨rfl, hq8⟩
  have H8 := H7.later hq8
  have hg2 := sget_st s7 p kb mb 64 0 F7 [([98], [50])] (1 + 1) [97] w8 H8.ok (by decide)
  have e1 : (getK [([98], [50])] [97]).getD [] = [] := by decide
  have e2 : (getK [([98], [50])] [97]).isSome = false := by decide
  rw [e1, e2] at hg2
  unfold strV at hg2
  replace hg2 : Hid _ := hg2
  clear hg1 hq8 H7 e1 e2
  go_wp2_with fail
  refine Calls.mono hg2.out ?_
  rintro e w9 ⟨rfl, hq9⟩
  have H9 := H8.later hq9
  clear hg2 hq9 H8
  go_wp2_with fail
  refine (new_on w 20 w9 H9.below (by decide) (by decide)).mono ?_
  rintro e w10 ⟨p2, kb2, mb2, rfl, H10, hq10, hF10⟩
  have H11 := H9.later hq10
  go_wp2_with fail
  refine (smake_few p2 kb2 mb2 20 _ w10 H10.disk (by decide)).mono ?_
  rintro e w11 ⟨rfl, h11⟩
  have h11' := h11.symm
  subst h11'
  clear H9 H10 hq10 hF10
  have k0 : (mkS [50]).toList = [50] := by unfold mkS; rw [ByteArray.toList_mk]
  have hk := skeys_st s7 p kb mb 64 0 F7 [([98], [50])] (1 + 1) w10 H11.ok
  replace hk : Hid _ := hk
  go_wp2_with fail
  refine Calls.mono hk.out ?_
  rintro e w12 ⟨ao, ac, rfl, hS12, hlt12, hq12⟩
  have H12 := H11.later hq12
  have hlen : ([([98], [50])] : ConL).length = 1 := rfl
  rw [hlen]
  have hz := ssize_st s7 p kb mb 64 0 F7 [([98], [50])] (1 + 1) w12 H12.ok
  have e3 : sizeL [([98], [50])] = 26 := by decide
  rw [e3] at hz
  replace hz : Hid _ := hz
  clear hk H11 hS12 hlt12 hq12 hlen e3
  go_wp2_with fail
  refine Calls.mono hz.out ?_
  rintro e w13 ⟨rfl, hq13⟩
  have H13 := H12.later hq13
  clear hz H12 hq13
  go_wp2_with fail
  refine (sbroken_no s7 p kb mb 64 0 F7 [([98], [50])] (1 + 1) w13 H13.ok).mono ?_
  rintro e w14 ⟨rfl, h14⟩
  have h14' := h14.symm
  subst h14'
  have hB := H13.below
  clear H13
  go_wp2
  go_ret
  exact ⟨rfl, hB⟩
end
end Go.Proofs.YtpnpjblohijajabGreat
