/- JnlLay, joined. -/
import Derived.Test.YtpnpjblohijajabGreatGrp18
import Derived.Test.YtpnpjblohijajabGreatGrp21
import Derived.Test.YtpnpjblohijajabGreatGrp9
import Derived.RangeFuncCalls
namespace Go.Proofs.YtpnpjblohijajabGreat
section
set_option linter.unusedSimpArgs false
set_option linter.unusedVariables false
set_option maxRecDepth 100000
open Go.RowKit Go.MapKept

attribute [local go_sem] Oper.semAt_some

theorem Has.under {w w' : World} {g B : Nat} {t : TypeId} {c : Array Value} (h : Has w g t c) (hb : Below B w w') (hg : g < B) : Has w' g t c := by
  unfold Has at *
  rw [hb.block g hg]
  exact h
theorem DiskAt.lp {w : World} {p kb mb n : Nat} {d : DskV} (h : DiskAt w p kb mb n d) : p < w.heap.size ∧ kb < w.heap.size ∧ mb < w.heap.size := by
  obtain ⟨st, hX⟩ := h.disk
  exact ⟨hX.lt, h.dat.lt, h.pend.lt⟩
theorem DiskAt.under {w w' : World} {p kb mb n B : Nat} {d : DskV} (h : DiskAt w p kb mb n d) (hb : Below B w w') (h1 : p < B) (h2 : kb < B) (h3 : mb < B) : DiskAt w' p kb mb n d :=
  h.offs (F := fun k => B ≤ k) ⟨hb.os, hb.tape, hb.output, hb.size, fun k _ hn => hb.block k (by omega)⟩ (by omega) (by omega) (by omega)
theorem below_putObj (w : World) {b B : Nat} (o : Obj) (h : B ≤ b) : Below B w (w.putObj b o) := by
  have hs : (w.putObj b o).heap.size = w.heap.size := by simp [World.putObj]
  exact ⟨rfl, rfl, rfl, by omega, fun k hk => World.putObj_heap_other (by omega)⟩
/-- What stands while lay's pieces are written: k of them have been. -/
structure LayI (w0 : World) (B0 p kb mb n : Nat) (d : DskV) (B : List UInt8) (i0 vd vi : Nat) (so : Option Addr) (N c b1 b2 k : Nat) (W : World) : Prop where
  disk : DiskAt W p kb mb n ⟨d.dat, layP d.dat B i0 k, d.left - k, false⟩
  go : d.left = 0 ∨ k < d.left
  hvd : Has W vd 28 #[.pointer (some ⟨p, 0, none⟩)]
  hvi : Has W vi 3 #[.int .i64 (i0 + k : Nat)]
  ch1 : Has W b1 60 #[.slice so N c]
  ch2 : Has W b2 3 #[.int .i64 64]
  byt : By W so c B
  off : OffF (DF p kb mb) w0 W
  size : B0 ≤ W.heap.size
/-- The blocks lie where they lie. -/
structure LayB (w0 : World) (B0 p kb mb vd vi : Nat) (so : Option Addr) (b1 b2 : Nat) : Prop where
  lp : p < w0.heap.size
  lkb : kb < w0.heap.size
  lmb : mb < w0.heap.size
  lvd : w0.heap.size ≤ vd ∧ vd < B0
  lvi : w0.heap.size ≤ vi ∧ vi < B0
  lb1 : w0.heap.size ≤ b1 ∧ b1 < B0
  lb2 : w0.heap.size ≤ b2 ∧ b2 < B0
  lso : ∀ ad, so = some ad → w0.heap.size ≤ ad.block ∧ ad.block < B0
  nvi : vi ≠ vd ∧ vi ≠ b1 ∧ vi ≠ b2 ∧ ∀ ad, so = some ad → ad.block ≠ vi
theorem LayI.keep {w0 : World} {B0 p kb mb n : Nat} {d : DskV} {B : List UInt8} {i0 vd vi : Nat} {so : Option Addr} {N c b1 b2 k : Nat} {W W' : World} (h : LayI w0 B0 p kb mb n d B i0 vd vi so N c b1 b2 k W) (hB : LayB w0 B0 p kb mb vd vi so b1 b2) (hb : Below B0 W W') (hw : w0.heap.size ≤ B0) : LayI w0 B0 p kb mb n d B i0 vd vi so N c b1 b2 k W' where
  disk := h.disk.under hb (by have := hB.lp; omega) (by have := hB.lkb; omega) (by have := hB.lmb; omega)
  go := h.go
  hvd := h.hvd.under hb hB.lvd.2
  hvi := h.hvi.under hb hB.lvi.2
  ch1 := h.ch1.under hb hB.lb1.2
  ch2 := h.ch2.under hb hB.lb2.2
  byt := h.byt.same (fun ad had => hb.block _ (hB.lso ad had).2)
  off := ⟨hb.os.trans h.off.os, hb.tape.trans h.off.tape, hb.output.trans h.off.output, Nat.le_trans h.off.size hb.size, fun x hx hn => (hb.block x (by omega)).trans (h.off.block x hx hn)⟩
  size := Nat.le_trans h.size hb.size
theorem keepsFrom_off {F : Nat → Prop} {B : Nat} {W W' : World} (h : OffF F W W') (hF : ∀ k, F k → k < B) : KeepsFrom B W W' :=
  ⟨h.size, fun k o hk ho _ => (h.block k (Array.getElem?_eq_some_iff.1 ho).1 (fun hf => by have := hF k hf; omega)).trans ho⟩
theorem LayI.next {w0 : World} {B0 p kb mb n : Nat} {d : DskV} {B : List UInt8} {i0 vd vi : Nat} {so : Option Addr} {N c b1 b2 k : Nat} {W W' : World} (h : LayI w0 B0 p kb mb n d B i0 vd vi so N c b1 b2 k W) (hB : LayB w0 B0 p kb mb vd vi so b1 b2) (hw : w0.heap.size ≤ B0)
    (hD : DiskAt W' p kb mb n ⟨d.dat, layP d.dat B i0 (k + 1), d.left - (k + 1), false⟩) (hg : d.left = 0 ∨ k + 1 < d.left) (ho : OffF (DF p kb mb) W W') :
    LayI w0 B0 p kb mb n d B i0 vd vi so N c b1 b2 (k + 1) (W'.setCell ⟨vi, 0, none⟩ (.int .i64 (i0 + (k + 1) : Nat))) ∧ KeepsFrom B0 W (W'.setCell ⟨vi, 0, none⟩ (.int .i64 (i0 + (k + 1) : Nat))) := by
  have hbt : But vi W' (W'.setCell ⟨vi, 0, none⟩ (.int .i64 (i0 + (k + 1) : Nat))) := but_cell W' 0 _
  obtain ⟨n1, n2, n3, n4⟩ := hB.nvi
  have a1 := hB.lvd
  have a2 := hB.lvi
  have a3 := hB.lb1
  have a4 := hB.lb2
  have c1 := hB.lp
  have c2 := hB.lkb
  have c3 := hB.lmb
  have hnF : ∀ x, w0.heap.size ≤ x → ¬ DF p kb mb x := fun x hx hf => by
    rcases hf with rfl | rfl | rfl <;> omega
  have hO : OffF (DF p kb mb) w0 W' := h.off.trans ho
  refine ⟨⟨?_, hg, ?_, ?_, ?_, ?_, ?_, ?_, ?_⟩, ?_⟩
  · exact hD.offs (OffF.but hbt) (by omega) (by omega) (by omega)
  · exact hbt.has (ho.has h.hvd (hnF _ a1.1)) (Ne.symm n1)
  · exact (ho.has h.hvi (hnF _ a2.1)).set 0 _
  · exact hbt.has (ho.has h.ch1 (hnF _ a3.1)) (Ne.symm n2)
  · exact hbt.has (ho.has h.ch2 (hnF _ a4.1)) (Ne.symm n3)
  · refine (h.byt.same (fun ad had => ho.block _ (Nat.lt_of_lt_of_le (hB.lso ad had).2 h.size) (hnF _ (hB.lso ad had).1))).same (fun ad had => hbt.block _ (Nat.lt_of_lt_of_le (hB.lso ad had).2 (Nat.le_trans h.size ho.size)) (n4 ad had))
  · exact ⟨hbt.os.trans hO.os, hbt.tape.trans hO.tape, hbt.output.trans hO.output, Nat.le_trans hO.size hbt.size, fun x hx hn => (hbt.block x (Nat.lt_of_lt_of_le hx hO.size) (by omega)).trans (hO.block x hx hn)⟩
  · exact Nat.le_trans h.size (Nat.le_trans ho.size hbt.size)
  · have k1 : KeepsFrom B0 W W' := keepsFrom_off ho (fun x hx => by rcases hx with rfl | rfl | rfl <;> omega)
    have k2 : KeepsFrom B0 W' (W'.setCell ⟨vi, 0, none⟩ (.int .i64 (i0 + (k + 1) : Nat))) := keepsFrom_off (OffF.but hbt) (fun x hx => by have : x = vi := hx; omega)
    exact k1.trans k2
/-- A piece of a row of bytes. -/
theorem By.piece {w : World} {g N c : Nat} {so : Option Addr} {B : List UInt8} (h : By w so c B) (hs : so = some ⟨g, 0, none⟩) (k : Nat) (hN : B.length = N) (hk : 64 * k ≤ N) : By w (some ⟨g, 64 * k, none⟩) (min 64 (N - 64 * k)) (chunkB B k) := by
  subst hs
  refine ⟨by rw [chunkB_len, hN]; exact Nat.le_refl _, by omega, fun h => by (cases h), fun ad had j u hu => ?_⟩
  cases had
  have e := h.at' ⟨g, 0, none⟩ rfl (64 * k + j) u (by
    unfold chunkB at hu
    rw [Bs_take, Bs_drop, List.getElem?_take] at hu
    split at hu
    · rw [List.getElem?_drop] at hu; exact hu
    · cases hu)
  rw [Addr.add_mid] at e ⊢
  rw [Nat.zero_add] at e
  exact e
set_option maxHeartbeats 8000000 in
theorem lay_any (p kb mb n : Nat) (d : DskV) (h : HdV) (ao : Option Addr) (c : Nat) (b : List UInt8) (w : World) (hD : DiskAt w p kb mb n d) (ho : d.off = false) (hp : d.pend = []) (hn : 8 ≤ n) (hh : h.half ≤ 1) (hB : By w ao c b) (hb : b.length ≤ 1000000)
    (hfit : 64 * firstM n h.half + h.len + b.length + 64 ≤ 64 * n) (hlt : ∀ ad, ao = some ad → ad.block < w.heap.size) :
    Calls Tryz.prog 60 #[.pointer (some ⟨p, 0, none⟩), .agg (hdC h), .slice ao b.length c] w fun e w' =>
      ∃ B i0, B = (sec d.dat i0).take (h.len % 64) ++ b ∧ i0 = firstM n h.half + h.len / 64 ∧
      ((e = .returned (.tuple #[]) ∧ DiskAt w' p kb mb n ⟨d.dat, layP d.dat B i0 (chunkN B), d.left - chunkN B, false⟩ ∧ (d.left = 0 ∨ chunkN B < d.left) ∧ OffF (DF p kb mb) w w') ∨
       (e = thrownJ 131 ∧ ∃ k, k < chunkN B ∧ d.left = k + 1 ∧ DiskAt w' p kb mb n ⟨d.dat, layP d.dat B i0 k, 0, true⟩ ∧ OffF (DF p kb mb) w w')) := by
  have hn1 := hD.n1
  obtain ⟨w1, hw1, hA, hX, hb1⟩ := two_vars w 28 73 #[.pointer (some ⟨p, 0, none⟩)] (hdC h)
  have s1 : Hid (w1.heap.size = w.heap.size + 2) := by show _ = _; rw [← hw1]; simp
  have hD1 := (hD.later hb1).drew
  have hA1 := hA.drew
  have hX1 := hX.drew
  have hb2 := hb1.drew
  have hfo := firstOf_any p kb mb n h.half d
  replace hfo : Hid _ := hfo
  have hcap := hB.cap
  have hle := hB.le
  obtain ⟨I0, hI0⟩ : ∃ I0, firstM n h.half + h.len / 64 = I0 := ⟨_, rfl⟩
  obtain ⟨L, hL⟩ : ∃ L, h.len = L := ⟨_, rfl⟩
  obtain ⟨H, hH⟩ : ∃ H, h.half = H := ⟨_, rfl⟩
  obtain ⟨F, hF⟩ : ∃ F, firstM n H = F := ⟨_, rfl⟩
  obtain ⟨K, hK⟩ : ∃ K, b.length = K := ⟨_, rfl⟩
  rw [hL, hH, hF] at hI0
  rw [hL, hH, hF, hK] at hfit
  rw [hK] at hle
  have hdiv : Int.tdiv (L : Int) 64 = ((L / 64 : Nat) : Int) := by rw [Int.tdiv_eq_ediv_of_nonneg (by omega)]; omega
  have hmod : Int.tmod (L : Int) 64 = ((L % 64 : Nat) : Int) := by rw [Int.tmod_eq_emod_of_nonneg (by omega)]; omega
  have cP : ∀ W, Below w1.heap.size w1 W → W.cell? ⟨w.heap.size, 0, none⟩ = some (.pointer (some ⟨p, 0, none⟩)) := fun W hS => (hA.later hS).cell 0
  have cH : ∀ W, Below w1.heap.size w1 W → W.cell? ⟨w.heap.size + 1, 1, none⟩ = some (.int .i64 (H : Int)) := fun W hS => by rw [← hH]; exact (hX.later hS).hd_half
  have cL : ∀ W, Below w1.heap.size w1 W → W.cell? ⟨w.heap.size + 1, 2, none⟩ = some (.int .i64 (L : Int)) := fun W hS => by rw [← hL]; exact (hX.later hS).hd_len
  have hfo2 : ∀ W, Below w1.heap.size w1 W → Calls Tryz.prog 90 #[.pointer (some ⟨p, 0, none⟩), .int .i64 (H : Nat)] W fun e w' => e = .returned (.int .i64 (F : Nat)) ∧ w' = W := fun W hS => by
    have := firstOf_any p kb mb n h.half d W ((hD.later hb1).later hS) hn hh
    rw [hH, hF] at this
    exact this
  have hwI : IntKind.i64.wrap ((F : Int) + ((L / 64 : Nat) : Int)) = (I0 : Int) := by rw [IntKind.wrap_i64]; omega
  replace cP : Hid _ := cP
  replace cH : Hid _ := cH
  replace cL : Hid _ := cL
  replace hfo2 : Hid _ := hfo2
  replace hwI : Hid _ := hwI
  replace hdiv : Hid _ := hdiv
  replace hmod : Hid _ := hmod
  rw [hK]
  replace hK : Hid _ := hK
  replace hI0 : Hid _ := hI0
  replace hL : Hid _ := hL
  replace hF : Hid _ := hF
  replace hH : Hid _ := hH
  refine (callsIn_wide (n := 0)).1 ?_
  refine callsIn_of_wpAt Tryz.func60 rfl trivial ?_ rfl
  simp only [Tryz.ntmps60, List.size_toArray, List.length_cons, List.length_nil, Nat.reduceAdd, Nat.reduceSub, Array.replicate_succ, Array.replicate_zero, List.push_toArray, List.append_toArray, List.nil_append, List.cons_append]
  refine wpAt_seq (wpAt_of_wp ?_)
  go_wp2_with (first
    | (refine Go.Great.wpList_boxTo rfl 73 _ rfl _ rfl (w.heap.size + 1) (by simp) (hdC h) rfl ?_; rw [hw1]; clear hw1)
    | fail)
  try simp only [Act.put, List.setIfInBounds_toArray, List.set_cons_zero, List.set_cons_succ]
  refine wpAt_seq (wpAt_of_wp ?_)
  let F1 : Act → Act → World → Prop := fun a a' w' => a' = (((((((((a.put (some 8) (.pointer (some ⟨p, 0, none⟩))).put (some 9) (.pointer (some ⟨w.heap.size + 1, 1, none⟩))).put (some 10) (.int .i64 (H : Int))).put (some 11) (.int .i64 (F : Int))).put (some 12) (.pointer (some ⟨w.heap.size + 1, 2, none⟩))).put (some 13) (.int .i64 (L : Int))).put (some 14) (.int .i64 ((L : Int) / 64))).put (some 15) (.int .i64 (I0 : Int))).put (some 6) (.pointer (some ⟨w1.heap.size, 0, none⟩))) ∧ Has w' w1.heap.size 3 #[.int .i64 (I0 : Int)] ∧ Below w1.heap.size w1 w' ∧ w'.heap.size = w1.heap.size + 1
  refine wp_region_plan_mid (fun W => Below w1.heap.size w1 W) (Plan.of [(0, true), (1, true), (2, true), (4, true), (5, true), (6, true)] (.either 3 (Plan.of [(7, true), (8, false), (9, false)] .done) 8 (Plan.of [(3, false), (7, true), (9, false)] .done))) F1 (by kernel_rfl) (by kernel_rfl) (by kernel_rfl) (by kernel_rfl) (Below.refl _ _).drew ?_ ?_
  · have hb3 : Below w1.heap.size w1 w1.drew := (Below.refl _ _).drew
    have s3 : w1.drew.heap.size = w1.heap.size := rfl
    generalize w1.drew = w2 at *
    iterate 1
      first
        | (refine plan_pass _ rfl (by rfl) ?_)
        | (refine plan_take _ _ rfl (.inl ⟨by rfl, fun W hS => by have z := cP.out W hS; go_simp; try with_reducible rfl⟩) ?_)
      try simp only [Act.put, List.setIfInBounds_toArray, List.set_cons_zero, List.set_cons_succ]
    iterate 1
      first
        | (refine plan_pass _ rfl (by rfl) ?_)
        | (refine plan_take _ _ rfl (.inl ⟨by rfl, fun W hS => by clear hS; go_simp; try with_reducible rfl⟩) ?_)
      try simp only [Act.put, List.setIfInBounds_toArray, List.set_cons_zero, List.set_cons_succ]
    iterate 1
      first
        | (refine plan_pass _ rfl (by rfl) ?_)
        | (refine plan_take _ _ rfl (.inl ⟨by rfl, fun W hS => by have z := cH.out W hS; go_simp; try with_reducible rfl⟩) ?_)
      try simp only [Act.put, List.setIfInBounds_toArray, List.set_cons_zero, List.set_cons_succ]
    iterate 1
      first
        | (refine plan_pass _ rfl (by rfl) ?_)
        | (refine plan_take _ _ rfl (.inl ⟨by rfl, fun W hS => by clear hS; go_simp; try with_reducible rfl⟩) ?_)
      try simp only [Act.put, List.setIfInBounds_toArray, List.set_cons_zero, List.set_cons_succ]
    iterate 1
      first
        | (refine plan_pass _ rfl (by rfl) ?_)
        | (refine plan_take _ _ rfl (.inl ⟨by rfl, fun W hS => by have z := cL.out W hS; go_simp; try with_reducible rfl⟩) ?_)
      try simp only [Act.put, List.setIfInBounds_toArray, List.set_cons_zero, List.set_cons_succ]
    refine plan_take _ (.int .i64 ((L / 64 : Nat) : Int)) rfl (.inl ⟨by rfl, fun W hS => by clear hS; go_simp; rw [IntKind.wrap_i64]; omega⟩) ?_
    try simp only [Act.put, List.setIfInBounds_toArray, List.set_cons_zero, List.set_cons_succ]
    obtain ⟨wa, hwa, hV, hqa⟩ := one_var w2 3 #[.int .i64 0]
    rw [s3] at hV
    have hba := hb3.trans (hqa.mono (by omega))
    have hVs := hV.set 0 (.int .i64 (I0 : Int))
    have hbs := hba.setCell (p := ⟨w1.heap.size, 0, none⟩) (Nat.le_refl _) (.int .i64 (I0 : Int))
    have cV : wa.cell? ⟨w1.heap.size, 0, none⟩ = some (.int .i64 0) := hV.cell 0
    have zV := hV.free 0
    have sa : wa.heap.size = w1.heap.size + 1 := by rw [← hwa]; simp [s3]
    obtain ⟨wb, hwb⟩ : ∃ W, wa.setCell ⟨w1.heap.size, 0, none⟩ (.int .i64 (I0 : Int)) = W := ⟨_, rfl⟩
    have sb : wb.heap.size = w1.heap.size + 1 := by rw [← hwb, ← sa]; simp
    rw [hwb] at hVs hbs
    replace hVs : Has wb w1.heap.size 3 #[.int .i64 (I0 : Int)] := hVs
    refine plan_either ?_ ?_
    · refine plan_run _ rfl (fun K' hK' => ?_)
      go_simp
      refine (hfo2.out _ hb3).mono ?_
      rintro e w9 ⟨rfl, rfl⟩
      refine hK'.out _ _ hb3 ?_
      clear hK' K'
      refine plan_take _ (.int .i64 (I0 : Int)) rfl (.inl ⟨by rfl, fun W hS => by clear hS; go_simp; rw [IntKind.wrap_i64]; have := hI0.out; omega⟩) ?_
      try simp only [Act.put, List.setIfInBounds_toArray, List.set_cons_zero, List.set_cons_succ]
      refine plan_run _ rfl (fun K' hK' => ?_)
      go_simp
      try rw [hwa]
      refine hK'.out _ _ hba ?_
      clear hK' K'
      try simp only [Act.put, List.setIfInBounds_toArray, List.set_cons_zero, List.set_cons_succ]
      refine plan_run _ rfl (fun K' hK' => ?_)
      go_simp
      refine hK'.out _ _ hbs ?_
      clear hK' K'
      refine plan_done (mid_done ?_)
      exact ⟨(by (try rw [s3]); simp only [Act.put, List.setIfInBounds_toArray, List.set_cons_zero, List.set_cons_succ]), hVs, hbs, sb⟩
    · refine plan_run _ rfl (fun K' hK' => ?_)
      go_simp
      try rw [hwa]
      refine hK'.out _ _ hba ?_
      clear hK' K'
      try simp only [Act.put, List.setIfInBounds_toArray, List.set_cons_zero, List.set_cons_succ]
      refine plan_run _ rfl (fun K' hK' => ?_)
      go_simp
      refine (hfo2.out _ hba).mono ?_
      rintro e w9 ⟨rfl, rfl⟩
      refine hK'.out _ _ hba ?_
      clear hK' K'
      refine plan_take _ (.int .i64 (I0 : Int)) rfl (.inl ⟨by rfl, fun W hS => by clear hS; go_simp; rw [IntKind.wrap_i64]; have := hI0.out; omega⟩) ?_
      try simp only [Act.put, List.setIfInBounds_toArray, List.set_cons_zero, List.set_cons_succ]
      refine plan_run _ rfl (fun K' hK' => ?_)
      go_simp
      refine hK'.out _ _ hbs ?_
      clear hK' K'
      refine plan_done (mid_done ?_)
      exact ⟨(by (try rw [s3]); simp only [Act.put, List.setIfInBounds_toArray, List.set_cons_zero, List.set_cons_succ]), hVs, hbs, sb⟩
  · rintro a' w2 ⟨rfl, hV, hq, s2⟩
    try simp only [Act.put, List.setIfInBounds_toArray, List.set_cons_zero, List.set_cons_succ]
    have hD3 := ((hD.later hb1).later hq).drew
    have hA3 := (hA.later hq).drew
    have hX3 := (hX.later hq).drew
    have hV3 := hV.drew
    have hb3 := (hb1.trans (hq.mono hb1.size)).drew
    have hB3 := (hB.later hb3)
    have hI0n : I0 < n := by have := hI0.out; omega
    have hwr : writtenM d I0 = sec d.dat I0 := by unfold writtenM; rw [hp]; rfl
    have hsl : (sec d.dat I0).length = 64 := sec_length hD.len hI0n
    have hrd := jread_on p kb mb n I0 d w2.drew hD3 ho hI0n
    rw [hwr] at hrd
    replace hrd : Hid _ := hrd
    have cI : ∀ W, Below w2.drew.heap.size w2.drew W → W.cell? ⟨w1.heap.size, 0, none⟩ = some (.int .i64 (I0 : Int)) := fun W hS => (hV3.later hS).cell 0
    have cP3 : ∀ W, Below w2.drew.heap.size w2.drew W → W.cell? ⟨w.heap.size, 0, none⟩ = some (.pointer (some ⟨p, 0, none⟩)) := fun W hS => (hA3.later hS).cell 0
    have cL3 : ∀ W, Below w2.drew.heap.size w2.drew W → W.cell? ⟨w.heap.size + 1, 2, none⟩ = some (.int .i64 (L : Int)) := fun W hS => by rw [← hL.out]; exact (hX3.later hS).hd_len
    replace cI : Hid _ := cI
    replace cP3 : Hid _ := cP3
    replace cL3 : Hid _ := cL3
    clear F1 hV hA1 hX1 hb2 hD1 hwr cP cH cL hfo hfo2 hwI hdiv
    refine wpAt_seq (wpAt_of_wp ?_)
    refine wp_region_plan (fun W => Below w2.drew.heap.size w2.drew W) (Plan.of [(0, true), (1, true), (3, true), (4, true), (5, true), (7, true), (2, false), (6, true), (8, false), (9, true)] .done) (by kernel_rfl) (by kernel_rfl) (by kernel_rfl) (by kernel_rfl) (Below.refl _ _) ?_
    have s3 : w2.drew.heap.size = w1.heap.size + 1 := s2
    generalize w2.drew = w3 at *
    iterate 1
      first
        | (refine plan_pass _ rfl (by rfl) ?_)
        | (refine plan_take _ _ rfl (.inl ⟨by rfl, fun W hS => by have z := cP3.out W hS; go_simp; try with_reducible rfl⟩) ?_)
      try simp only [Act.put, List.setIfInBounds_toArray, List.set_cons_zero, List.set_cons_succ]
    iterate 1
      first
        | (refine plan_pass _ rfl (by rfl) ?_)
        | (refine plan_take _ _ rfl (.inl ⟨by rfl, fun W hS => by have z := cI.out W hS; go_simp; try with_reducible rfl⟩) ?_)
      try simp only [Act.put, List.setIfInBounds_toArray, List.set_cons_zero, List.set_cons_succ]
    iterate 1
      first
        | (refine plan_pass _ rfl (by rfl) ?_)
        | (refine plan_take _ _ rfl (.inl ⟨by rfl, fun W hS => by clear hS; go_simp; try with_reducible rfl⟩) ?_)
      try simp only [Act.put, List.setIfInBounds_toArray, List.set_cons_zero, List.set_cons_succ]
    iterate 1
      first
        | (refine plan_pass _ rfl (by rfl) ?_)
        | (refine plan_take _ _ rfl (.inl ⟨by rfl, fun W hS => by have z := cL3.out W hS; go_simp; try with_reducible rfl⟩) ?_)
      try simp only [Act.put, List.setIfInBounds_toArray, List.set_cons_zero, List.set_cons_succ]
    obtain ⟨q, hq⟩ : ∃ q, L % 64 = q := ⟨_, rfl⟩
    rw [hq] at hmod
    have hq64 : q < 64 := by omega
    refine plan_take _ (.int .i64 (q : Int)) rfl (.inl ⟨by rfl, fun W hS => by clear hS; go_simp; exact hmod.out⟩) ?_
    try simp only [Act.put, List.setIfInBounds_toArray, List.set_cons_zero, List.set_cons_succ]
    iterate 1
      first
        | (refine plan_pass _ rfl (by rfl) ?_)
        | (refine plan_take _ _ rfl (.inl ⟨by rfl, fun W hS => by clear hS; go_simp; try with_reducible rfl⟩) ?_)
      try simp only [Act.put, List.setIfInBounds_toArray, List.set_cons_zero, List.set_cons_succ]
    refine plan_run _ rfl (fun K' hK' => ?_)
    go_simp
    refine Calls.mono hrd.out ?_
    rintro e w4 ⟨g, hg, rfl, hG, hq4⟩
    refine hK'.out _ _ hq4 ?_
    clear hK' K' hrd
    try simp only [Act.put, List.setIfInBounds_toArray, List.set_cons_zero, List.set_cons_succ]
    have hb4 := hb3.trans (hq4.mono hb3.size)
    have hB4 := hB.later hb4
    have hown := own_head (b := w3.heap.size) (k := q) hsl.symm hg (by decide) hG (by omega)
    have hq64' : q ≤ 64 := by omega
    clear hB3 hG
    refine plan_take _ (.slice (some ⟨g, 0, none⟩) q 64) rfl (.inl ⟨by rfl, fun W hS => by clear hS; go_simp; intro hq9; exfalso; omega⟩) ?_
    try simp only [Act.put, List.setIfInBounds_toArray, List.set_cons_zero, List.set_cons_succ]
    obtain ⟨X, hX9⟩ : ∃ X, (sec d.dat I0).take q = X := ⟨_, rfl⟩
    rw [hX9] at hown
    refine plan_appAny _ rfl (by rfl) _ _ rfl w3.heap.size _ q X rfl ao K c b rfl hown hB4 hK.out.symm (by omega) (Nat.le_trans hq4.size (Nat.le_refl _)) ?_
    intro so c5 w5 hown5 hB5 hgr5
    have hq5 : Below w3.heap.size w3 w5 := hq4.grown hgr5 hq4.size (fun k hk => by cases hk; exact hg)
    refine ⟨hq5, ?_⟩
    try simp only [Act.put, List.setIfInBounds_toArray, List.set_cons_zero, List.set_cons_succ]
    iterate 1
      first
        | (refine plan_pass _ rfl (by rfl) ?_)
        | (refine plan_take _ _ rfl (.inl ⟨by rfl, fun W hS => by clear hS; go_simp; try with_reducible rfl⟩) ?_)
      try simp only [Act.put, List.setIfInBounds_toArray, List.set_cons_zero, List.set_cons_succ]
    refine plan_done ?_
    have hD5 := hD3.later hq5
    have hA5 := hA3.later hq5
    have hV5 := hV3.later hq5
    have hb5 := hb3.trans (hq5.mono hb3.size)
    have s5 : w3.heap.size ≤ w5.heap.size := hq5.size
    have hso : ∀ ad, so = some ad → ∃ g5, ad = ⟨g5, 0, none⟩ ∧ w3.heap.size ≤ g5 ∧ g5 < w5.heap.size := fun ad had => by
      obtain ⟨g5, h5⟩ : ∃ g5, ad = ⟨g5, 0, none⟩ := by
        rcases hown5.2 with ⟨h0, _⟩ | ⟨g', cap, cur, hv, hb', hg', _⟩
        · injection h0 with h1 _ _
          rw [h1] at had
          cases had
        · injection hv with h1 _ _
          rw [h1] at had
          cases had
          exact ⟨g', rfl⟩
      have := own_far hown5 rfl ad had
      rw [h5] at this
      exact ⟨g5, h5, this.1, this.2⟩
    clear hown hown5 hgr5 hq4 hB4 hD3 hA3 hX3 hV3 hq5 cI cP3 cL3
    refine wpAt_seq (wpAt_of_wp ?_)
    go_wp2_with (first
      | (go_at_call 91; refine (chunk_any so (q + K) c5 _).mono ?_; rintro e w6 ⟨rfl, k1, k2, s6, hq6⟩)
      | fail)
    refine wpAt_block ?_
    have hXl : X.length = q := by rw [← hX9, List.length_take]; omega
    have hN : X.length + b.length = q + K := by rw [hXl, hK.out]
    obtain ⟨g5, hg5⟩ : ∃ g5, q + K ≠ 0 → so = some ⟨g5, 0, none⟩ := by
      cases so with
      | none =>
        refine ⟨0, fun h0 => absurd ?_ h0⟩
        have := hB5.nil rfl
        have := hB5.le
        rw [List.length_append] at this
        omega
      | some ad =>
        obtain ⟨g5, h5, _, _⟩ := hso ad rfl
        exact ⟨g5, fun _ => by rw [h5]⟩
    have hc5 : q + K ≤ c5 := by
      have := hB5.le
      rw [List.length_append] at this
      omega
    obtain ⟨N, hNN⟩ : ∃ N, q + K = N := ⟨_, rfl⟩
    rw [hNN] at k1 hc5 hg5 ⊢
    obtain ⟨B, hBB⟩ : ∃ B, X ++ b = B := ⟨_, rfl⟩
    have hBl : B.length = N := by rw [← hBB, List.length_append]; omega
    rw [hBB] at hB5
    have hlp := hD.lp
    have hw1s := s1.out
    have hLB : LayB w w6.heap.size p kb mb w.heap.size w1.heap.size so w5.heap.size (w5.heap.size + 1) := by
      obtain ⟨p1, p2, p3⟩ := hlp
      refine ⟨p1, p2, p3, ⟨Nat.le_refl _, by omega⟩, ⟨by omega, by omega⟩, ⟨by omega, by omega⟩, ⟨by omega, by omega⟩, fun ad had => ?_, ⟨by omega, by omega, by omega, fun ad had => ?_⟩⟩
      · obtain ⟨g6, rfl, x, y⟩ := hso ad had
        exact ⟨by show w.heap.size ≤ g6; omega, by show g6 < _; omega⟩
      · obtain ⟨g6, rfl, x, y⟩ := hso ad had
        show g6 ≠ _
        omega
    have hwB : w.heap.size ≤ w6.heap.size := by omega
    clear hw1s s3 s6
    have hd0 : d = ⟨d.dat, layP d.dat B I0 0, d.left - 0, false⟩ := by
      obtain ⟨a1, a2, a3, a4⟩ := d
      cases hp
      cases ho
      rfl
    have hI6 : LayI w w6.heap.size p kb mb n d B I0 w.heap.size w1.heap.size so N c5 w5.heap.size (w5.heap.size + 1) 0 w6 := by
      refine ⟨?_, by omega, hA5.later hq6, hV5.later hq6, k1, k2, hB5.later hq6, OffF.of (hb5.trans (hq6.mono hb5.size)), Nat.le_refl _⟩
      rw [← hd0]
      exact hD5.later hq6
    refine wpAt_rangeP (encs := pieceV g5 N) (xs := List.range ((N + 63) / 64)) (Base := fun W => Has W w5.heap.size 60 #[.slice so N c5] ∧ Has W (w5.heap.size + 1) 3 #[.int .i64 64]) rfl (fun h => by cases h) ⟨_, Tryz.func60⟩ rfl trivial (fun args w => by kernel_rfl)
      (chunk1_seq _ g5 N c5 w5.heap.size (w5.heap.size + 1) so hg5 hc5 (by omega) hB5.cap _ (fun W hW => ⟨hW.1.cell 0, hW.2.cell 0⟩)) (fun _ => rfl)
      (fun k W => LayI w w6.heap.size p kb mb n d B I0 w.heap.size w1.heap.size so N c5 w5.heap.size (w5.heap.size + 1) k W)
      (fun ch W => ch = [{ v := .iface 25 (.int .i64 131), recovered := false }] ∧ ∃ k, k < chunkN B ∧ d.left = k + 1 ∧ DiskAt W p kb mb n ⟨d.dat, layP d.dat B I0 k, 0, true⟩ ∧ OffF (DF p kb mb) w W)
      (fun k W h => ⟨h.ch1, h.ch2⟩) (fun k W h => h.keep hLB (Below.refl _ _).drew hwB) (fun k W b o o' hb _ _ h => h.keep hLB (below_putObj W o' hb) hwB) (fun o o' => hI6.keep hLB (((Below.refl _ w6).alloc (Nat.le_refl _) o).alloc (by simp) o') hwB)
      (fun k => { tmps := ((.pointer (some ⟨p, 0, none⟩)) :: (.agg (hdC h)) :: (.slice so N c5) :: (.pointer (some ⟨w.heap.size, 0, none⟩)) :: (.pointer (some ⟨w.heap.size + 1, 0, none⟩)) :: undef :: (.pointer (some ⟨w1.heap.size, 0, none⟩)) :: (.slice (some ⟨g5, 64 * k, none⟩) (min 64 (N - 64 * k)) (min 64 (N - 64 * k))) :: (.pointer (some ⟨p, 0, none⟩)) :: (.pointer (some ⟨w.heap.size + 1, 1, none⟩)) :: (.int .i64 H) :: (.int .i64 F) :: (.pointer (some ⟨w.heap.size + 1, 2, none⟩)) :: (.int .i64 L) :: (.int .i64 ((L : Int) / 64)) :: (.int .i64 I0) :: (.pointer (some ⟨p, 0, none⟩)) :: (.int .i64 I0) :: (.slice (some ⟨g, 0, none⟩) 64 64) :: (.pointer (some ⟨w.heap.size + 1, 2, none⟩)) :: (.int .i64 L) :: (.int .i64 q) :: (.slice (some ⟨g, 0, none⟩) q 64) :: (.slice ao K c) :: (.slice so N c5) :: (.slice so N c5) :: (.func (.func 119) #[] #[.pointer (some ⟨w5.heap.size, 0, none⟩), .pointer (some ⟨w5.heap.size + 1, 0, none⟩)]) :: (.slice (some ⟨g5, 64 * k, none⟩) (min 64 (N - 64 * k)) (min 64 (N - 64 * k))) :: undef :: undef :: undef :: undef :: undef :: undef :: ([] : List Value)).toArray, defers := [] }) ?assign ?body ?done ?thrown
    case assign =>
      intro l k W K' hK'
      unfold pieceV
      gi_wp2
      exact hK'
    case body =>
      intro l k W hk hI
      have hnum : (List.range ((N + 63) / 64))[k] = k := List.getElem_range _
      rw [hnum]
      have hkm : k < chunkN B := by
        have := hk
        rw [List.length_range] at this
        unfold chunkN
        rw [hBl]
        exact this
      have hkN : 64 * k < N := by unfold chunkN at hkm; omega
      have hIn : I0 + k < n := by
        have := hI0.out
        unfold chunkN at hkm
        omega
      obtain ⟨e, he⟩ : ∃ e, min 64 (N - 64 * k) = e := ⟨_, rfl⟩
      have he64 : e ≤ 64 := by omega
      have hBy := hI.byt.piece (hg5 (by omega)) k hBl (by omega)
      have hcl := chunkB_len B k
      rw [hBl, he] at hcl
      rw [he] at hBy ⊢
      obtain ⟨o, hoo⟩ : ∃ o, 64 * k = o := ⟨_, rfl⟩
      rw [hoo] at hBy ⊢
      have hg5B : g5 < w6.heap.size ∧ w.heap.size ≤ g5 := by
        have := hLB.lso _ (hg5 (by omega))
        exact ⟨this.2, this.1⟩
      have c28 : W.cell? ⟨w.heap.size, 0, none⟩ = some (.pointer (some ⟨p, 0, none⟩)) := hI.hvd.cell 0
      obtain ⟨t, ht⟩ : ∃ t, I0 + k = t := ⟨_, rfl⟩
      have c29 : W.cell? ⟨w1.heap.size, 0, none⟩ = some (.int .i64 (t : Nat)) := by rw [← ht]; exact hI.hvi.cell 0
      obtain ⟨dk, hdk⟩ : ∃ dk : DskV, dk = ⟨d.dat, layP d.dat B I0 k, d.left - k, false⟩ := ⟨_, rfl⟩
      have hDk := hI.disk
      rw [← hdk] at hDk
      obtain ⟨hp1, hp2, hp3⟩ := hlp
      have hsW := hI.size
      by_cases hstep : d.left = k + 1
      · have hoff : stepM dk = ⟨d.dat, layP d.dat B I0 k, 0, true⟩ := by
          rw [hdk]
          unfold stepM
          show (if d.left - k = 0 then _ else _) = _
          rw [if_neg (by omega)]
          have : d.left - k = 1 := by omega
          simp [this]
        have hc := jwrite_off p kb mb n t (some ⟨g5, o, none⟩) e e dk W hDk (by rw [hoff])
        rw [hoff] at hc
        have hfin : Hid (∀ W', DiskAt W' p kb mb n ⟨d.dat, layP d.dat B I0 k, 0, true⟩ → But p W W' → KeepsFrom w6.heap.size W W' ∧ ∃ k, k < chunkN B ∧ d.left = k + 1 ∧ DiskAt W' p kb mb n ⟨d.dat, layP d.dat B I0 k, 0, true⟩ ∧ OffF (DF p kb mb) w W') := fun W' h1 h2 =>
          ⟨keepsFrom_off (OffF.but h2) (fun x hx => by have : x = p := hx; omega), k, hkm, hstep, h1, hI.off.trans ((OffF.but h2).more (fun x hx => .inl hx))⟩
        replace hc : Hid _ := hc
        replace hcl : Hid _ := hcl
        clear hoo he hdk hnum
        replace ht : Hid _ := ht
        gi_wp2_with fail
        refine ⟨trivial, rfl, (CallsIn.inRound l (callsIn_wide.2 hc.out)).mono ?_⟩
        rintro en W' ⟨rfl, h1, h2⟩
        obtain ⟨f1, f2⟩ := hfin.out W' h1 h2
        exact ⟨rfl, f1, rfl, f2⟩
      · have hgo : d.left = 0 ∨ k + 1 < d.left := by have := hI.go; omega
        have hoff : stepM dk = ⟨d.dat, layP d.dat B I0 k, d.left - (k + 1), false⟩ := by
          rw [hdk]
          unfold stepM
          show (if d.left - k = 0 then _ else _) = _
          by_cases hz : d.left - k = 0
          · rw [if_pos hz]
            have : d.left - k = d.left - (k + 1) := by omega
            rw [this]
          · rw [if_neg hz]
            have h1 : ¬ d.left - k = 1 := by omega
            have h2 : d.left - k - 1 = d.left - (k + 1) := by omega
            simp [h1, h2]
        have hc := jwrite_on p kb mb n t (some ⟨g5, o, none⟩) e e (chunkB B k) dk W hDk (by rw [hoff]) (by omega) hBy (by rw [hcl]) he64 (fun ad had => by cases had; show g5 ≠ p; omega) (fun ad had => by cases had; show g5 < _; omega) (by rw [hdk, ← ht]; exact layP_find _ _ _ _)
        rw [hoff] at hc
        have hP : (⟨dk.dat, dk.pend ++ [(t, overB (sec dk.dat t) 0 (chunkB B k))], d.left - (k + 1), false⟩ : DskV) = ⟨d.dat, layP d.dat B I0 (k + 1), d.left - (k + 1), false⟩ := by
          rw [hdk, layP_succ, ht]
        rw [hP] at hc
        have hfin : Hid (∀ W', DiskAt W' p kb mb n ⟨d.dat, layP d.dat B I0 (k + 1), d.left - (k + 1), false⟩ → OffF (DF p kb mb) W W' → LayI w w6.heap.size p kb mb n d B I0 w.heap.size w1.heap.size so N c5 w5.heap.size (w5.heap.size + 1) (k + 1) (W'.setCell ⟨w1.heap.size, 0, none⟩ (.int .i64 ((t : Int) + 1))) ∧ KeepsFrom w6.heap.size W (W'.setCell ⟨w1.heap.size, 0, none⟩ (.int .i64 ((t : Int) + 1)))) := fun W' h1 h2 => by
          have := hI.next hLB hwB h1 hgo h2
          have e1 : ((I0 + (k + 1) : Nat) : Int) = (t : Int) + 1 := by omega
          rw [e1] at this
          exact this
        have hcv : Hid (∀ W', OffF (DF p kb mb) W W' → W'.cell? ⟨w1.heap.size, 0, none⟩ = some (.int .i64 (t : Nat)) ∧ W'.frozen? ⟨w1.heap.size, 0, none⟩ = false) := fun W' h2 => by
          have hv := h2.has hI.hvi (fun hf => by have := hLB.lvi; rcases hf with z | z | z <;> omega)
          rw [ht] at hv
          exact ⟨hv.cell 0, hv.free 0⟩
        have ht1 : (t : Int) < 1000 := by omega
        replace hc : Hid _ := hc
        replace hcl : Hid _ := hcl
        replace ht : Hid _ := ht
        clear hoo he hdk hnum hP hoff
        gi_wp2_with fail
        refine ⟨trivial, rfl, (CallsIn.inRound l (callsIn_wide.2 hc.out)).mono ?_⟩
        rintro en W' ⟨rfl, h1, h2⟩
        obtain ⟨v1, v2⟩ := hcv.out W' h2
        obtain ⟨f1, f2⟩ := hfin.out W' h1 h2
        replace f1 : Hid _ := f1
        replace f2 : Hid _ := f2
        clear hc hI hDk h1 h2
        gi_wp2
        exact ⟨f2.out, f1.out⟩
    case done =>
      intro D W hD hI hk
      rw [List.length_range] at hI
      have hI2 := hI.keep hLB (below_putObj W (.deferred none) hD) hwB
      have hcn : (N + 63) / 64 = chunkN B := by unfold chunkN; rw [hBl]
      rw [hcn] at hI2
      refine ⟨by simp, .inl ⟨_, _, rfl, run_takeDeferred hk, ?_⟩⟩
      exact ⟨_, results_none rfl _ _ _, B, I0, by rw [← hBB, ← hX9, hL.out, hq], by rw [hH.out, hF.out, hL.out]; exact hI0.out.symm, .inl ⟨rfl, hI2.disk, hI2.go, hI2.off⟩⟩
    case thrown =>
      rintro D ch W hD ⟨rfl, k, hkN, hdl, hDk, hO⟩ hk
      have hbp : Below w6.heap.size W (W.putObj D (.deferred none)) := below_putObj W (.deferred none) hD
      have hDk2 := hDk.under hbp (by have := hLB.lp; omega) (by have := hLB.lkb; omega) (by have := hLB.lmb; omega)
      have hO2 : OffF (DF p kb mb) w (W.putObj D (.deferred none)) := ⟨hbp.os.trans hO.os, hbp.tape.trans hO.tape, hbp.output.trans hO.output, Nat.le_trans hO.size hbp.size, fun x hx hn => (hbp.block x (by omega)).trans (hO.block x hx hn)⟩
      refine ⟨by simp, .inl ⟨_, _, rfl, run_takeDeferred hk, ?_⟩⟩
      exact ⟨B, I0, by rw [← hBB, ← hX9, hL.out, hq], by rw [hH.out, hF.out, hL.out]; exact hI0.out.symm, .inr ⟨rfl, k, hkN, hdl, hDk2, hO2⟩⟩
end
end Go.Proofs.YtpnpjblohijajabGreat
