/- JnlForm, JnlRepl1, JnlReplNo, joined. -/
import Derived.Test.YtpnpjblohijajabGreatGrp28
import Derived.Test.YtpnpjblohijajabGreatGrp31
import Derived.Test.YtpnpjblohijajabGreatGrp30
namespace Go.Proofs.YtpnpjblohijajabGreat
section
set_option linter.unusedSimpArgs false
set_option linter.unusedVariables false
set_option maxRecDepth 100000
open Go.RowKit Go.MapKept

set_option maxHeartbeats 8000000 in
theorem format_any (p kb mb n : Nat) (d : DskV) (h : HdV) (fo : Bool) (w : World) (hD : DiskAt w p kb mb n d) (ho : d.off = false) (hp : d.pend = []) (hn : 8 ≤ n)
    (hN : ∀ k, k < 2 → isHd (writtenM d k) = true → (rdHd (writtenM d k)).num < 256) (hnew : newestTo (writtenM d) 2 = (h, fo)) (hnum : h.num < 255) :
    Calls Tryz.prog 15 #[.pointer (some ⟨p, 0, none⟩)] w fun e w' =>
      (∃ j, e = .returned (.tuple #[.pointer (some ⟨j, 0, none⟩), .int .i64 0]) ∧ w.heap.size ≤ j ∧ ∃ d', KeptAt n d h hd0 [] d' ∧ JAt w' j p kb mb n d' (nextM h hd0 []) none 0 [] false ∧ OffF (DF p kb mb) w w') ∨
      (e = .returned (.tuple #[.pointer none, .int .i64 131]) ∧ d.left ≠ 0 ∧ ∃ d', CutAt n d h hd0 [] d' ∧ DiskAt w' p kb mb n d' ∧ OffF (DF p kb mb) w w') := by
  have hn1 := hD.n1
  obtain ⟨w0, hw0, hA, hJ, hV, hb0⟩ := three_vars w 28 75 40 #[.pointer (some ⟨p, 0, none⟩)] (jnlC p hd0 none 0 0 false) #[.pointer none]
  have hV1 := hV.set 0 (.pointer (some ⟨w.heap.size + 1, 0, none⟩))
  have hA1 := hA.set_other (a := ⟨w.heap.size + 1 + 1, 0, none⟩) (show w.heap.size ≠ w.heap.size + 1 + 1 by omega) (.pointer (some ⟨w.heap.size + 1, 0, none⟩))
  have hJ1 := hJ.set_other (a := ⟨w.heap.size + 1 + 1, 0, none⟩) (show w.heap.size + 1 ≠ w.heap.size + 1 + 1 by omega) (.pointer (some ⟨w.heap.size + 1, 0, none⟩))
  have hb1 := hb0.setCell (p := ⟨w.heap.size + 1 + 1, 0, none⟩) (show w.heap.size ≤ w.heap.size + 1 + 1 by omega) (.pointer (some ⟨w.heap.size + 1, 0, none⟩))
  have s0 : w0.heap.size = w.heap.size + 3 := by rw [← hw0]; simp
  obtain ⟨w1, hw1⟩ : ∃ W, w0.setCell ⟨w.heap.size + 1 + 1, 0, none⟩ (.pointer (some ⟨w.heap.size + 1, 0, none⟩)) = W := ⟨_, rfl⟩
  have s1 : w1.heap.size = w.heap.size + 3 := by rw [← hw1, ← s0]; simp
  rw [hw1] at hV1 hA1 hJ1 hb1
  have c0 : w0.cell? ⟨w.heap.size + 1 + 1, 0, none⟩ = some (.pointer none) := hV.cell 0
  have z0 := hV.free 0
  replace hV1 : Has w1 (w.heap.size + 1 + 1) 40 #[.pointer (some ⟨w.heap.size + 1, 0, none⟩)] := hV1
  have hD1 := hD.later hb1
  obtain ⟨lp1, lp2, lp3⟩ := hD.lp
  have hjF : ¬ DF p kb mb (w.heap.size + 1) := fun z => by rcases z with z | z | z <;> omega
  have H1 : JAt w1 (w.heap.size + 1) p kb mb n d hd0 none 0 [] false := ⟨hD1, hJ1, own_nilS _ _, fun ad had => (by cases had), hjF⟩
  have hbt := try_below w1 (w.heap.size + 1) 32 #[.pointer (some ⟨w.heap.size, 0, none⟩), .pointer (some ⟨w.heap.size + 1 + 1, 0, none⟩)]
  obtain ⟨t0, t1, t2⟩ := try_has w1 (w.heap.size + 1) 32 #[.pointer (some ⟨w.heap.size, 0, none⟩), .pointer (some ⟨w.heap.size + 1 + 1, 0, none⟩)]
  have ts := try_size w1 (w.heap.size + 1) 32 #[.pointer (some ⟨w.heap.size, 0, none⟩), .pointer (some ⟨w.heap.size + 1 + 1, 0, none⟩)]
  obtain ⟨T, hT⟩ : ∃ T, tryW w1 (w.heap.size + 1) 32 #[.pointer (some ⟨w.heap.size, 0, none⟩), .pointer (some ⟨w.heap.size + 1 + 1, 0, none⟩)] = T := ⟨_, rfl⟩
  rw [hT] at hbt t0 t1 t2 ts
  have hwT := hb1.trans (hbt.mono hb1.size)
  have hnF : ∀ k, w.heap.size ≤ k → k ≠ w.heap.size + 1 → ¬ FJ (w.heap.size + 1) p kb mb none k := fun k hk hne hf => by
    rcases hf with z | (z | z | z) | ⟨ad, z, _⟩
    · exact hne z
    · omega
    · omega
    · omega
    · cases z
  have ho1 := format1_any (w.heap.size + 1) p kb mb n d h fo w.heap.size (w.heap.size + 1 + 1) T (hA1.later hbt) (hV1.later hbt) (H1.later hbt) ho hp hn hN hnew hnum (hnF _ (by omega) (by omega)) (hnF _ (by omega) (by omega))
  rw [← hT] at ho1
  have hat := attempt_any 32 #[.pointer (some ⟨w.heap.size, 0, none⟩), .pointer (some ⟨w.heap.size + 1 + 1, 0, none⟩)] (enters_format1 _) (w.heap.size + 1) w1 _ _ (by omega) ((hJ1.cell 6).trans rfl) ho1
    (fun v hv => by
      obtain ⟨d', _, Hv, hq⟩ := hv
      rw [hT] at hq
      exact ⟨hq.has t0 (hnF _ (by omega) (by omega)), hq.has t2 (hnF _ (by omega) (by omega)), ⟨_, (Hv.jnl.cell 6).trans rfl⟩, Hv.jnl.free 6⟩)
    (fun v hv => by
      obtain ⟨_, d', _, Hv, hq⟩ := hv
      rw [hT] at hq
      exact ⟨hq.has t0 (hnF _ (by omega) (by omega)), hq.has t2 (hnF _ (by omega) (by omega)), ⟨_, (Hv.jnl.cell 6).trans rfl⟩, Hv.jnl.free 6⟩)
  replace hat : Hid _ := hat
  have hend : Hid (∀ (v : World) (d' : DskV) (h' : HdV) (x : Value) (b : Bool), JAt v (w.heap.size + 1) p kb mb n d' h' none 0 [] false → OffF (FJ (w.heap.size + 1) p kb mb none) T v →
      JAt ((v.setCell ⟨w1.heap.size + 2, 0, none⟩ x).setCell ⟨w.heap.size + 1, 6, none⟩ (.bool b)) (w.heap.size + 1) p kb mb n d' h' none 0 [] b ∧ OffF (DF p kb mb) w ((v.setCell ⟨w1.heap.size + 2, 0, none⟩ x).setCell ⟨w.heap.size + 1, 6, none⟩ (.bool b)) ∧ Has ((v.setCell ⟨w1.heap.size + 2, 0, none⟩ x).setCell ⟨w.heap.size + 1, 6, none⟩ (.bool b)) (w.heap.size + 1 + 1) 40 #[.pointer (some ⟨w.heap.size + 1, 0, none⟩)]) := by
    intro v d' h' x b Hv hq
    have hne : ∀ k, FJ (w.heap.size + 1) p kb mb none k → k ≠ w1.heap.size + 2 := fun k hk e => hnF _ (by omega) (by omega) (e ▸ hk)
    refine ⟨(Hv.off (OffF.but (but_cell v 0 x (g := w1.heap.size + 2))) hne).flag b, ?_, ?_⟩
    · have q1 : OffF (FJ (w.heap.size + 1) p kb mb none) w v := (OffF.of hwT).trans hq
      have q2 : OffF (DF p kb mb) w v := ⟨q1.os, q1.tape, q1.output, q1.size, fun k hk hn => q1.block k hk (fun z => by
        rcases z with z | z | ⟨ad, z, _⟩
        · omega
        · exact hn z
        · cases z)⟩
      exact (q2.setNew (.inl (by omega)) 0 x).setNew (.inl (by omega)) 6 (.bool b)
    · have := hq.has (hV1.later hbt) (hnF _ (by omega) (by omega))
      exact (this.set_other (a := ⟨w1.heap.size + 2, 0, none⟩) (show w.heap.size + 1 + 1 ≠ w1.heap.size + 2 by omega) x).set_other (a := ⟨w.heap.size + 1, 6, none⟩) (show w.heap.size + 1 + 1 ≠ w.heap.size + 1 by omega) (.bool b)
  have hT' : Hid _ := hT
  have hmf : ∀ (fn : Fn) (first cap : Array Value) (w : World), (Instr.makeFunc fn first cap).run Tryz.prog w = .ok (.func fn first cap) w := fun _ _ _ _ => rfl
  have cA := (hA.cell 0)
  have c1 := hV1.cell 0
  replace cA : w0.cell? ⟨w.heap.size, 0, none⟩ = some (.pointer (some ⟨p, 0, none⟩)) := cA
  clear hA hJ hV hb0 hA1 hJ1 hb1 hV1 hD hD1 hbt ho1 t0 t1 t2 ts s0 s1 hN hnew hnF H1 hwT hT lp1 lp2 lp3
  go_enter Tryz.func15, Tryz.ntmps15
  go_wp2_with (first
    | (refine wpList_build_has (by rfl) 75 #[(0, _)] rfl (jnlC p hd0 none 0 0 false) (by simpa using jnl_built p) ?_)
    | (refine Go.Great.wpList_boxTo rfl 75 _ rfl _ rfl (w.heap.size + 1) (by simp) (jnlC p hd0 none 0 0 false) rfl ?_)
    | fail)
  refine Calls.mono hat.out ?_
  rintro e w2 (⟨rfl, v, hv, rfl⟩ | ⟨rfl, v, hv, rfl⟩)
  · obtain ⟨d', hK, Hv, hq⟩ := hv
    rw [hT'.out] at hq
    obtain ⟨f1, f2, f3⟩ := hend.out v d' _ (.int .i64 0) false Hv hq
    have c3 := f3.cell 0
    obtain ⟨x, hx⟩ : ∃ W, (v.setCell ⟨w1.heap.size + 2, 0, none⟩ (.int .i64 0)).setCell ⟨w.heap.size + 1, 6, none⟩ (.bool false) = W := ⟨_, rfl⟩
    rw [hx] at f1 f2 c3 ⊢
    replace f1 : Hid _ := f1
    replace f2 : Hid _ := f2
    clear hat hend hT' c0 z0 c1 cA hmf hw0 hw1 Hv hq f3 hx
    go_wp2
    go_ret2
    exact .inl ⟨_, rfl, Nat.le_succ _, d', hK, f1.out, f2.out⟩
  · obtain ⟨hne, d', hK, Hv, hq⟩ := hv
    rw [hT'.out] at hq
    obtain ⟨f1, f2, f3⟩ := hend.out v d' _ (.int .i64 ((131 : Nat) : Int)) true Hv hq
    obtain ⟨x, hx⟩ : ∃ W, (v.setCell ⟨w1.heap.size + 2, 0, none⟩ (.int .i64 ((131 : Nat) : Int))).setCell ⟨w.heap.size + 1, 6, none⟩ (.bool true) = W := ⟨_, rfl⟩
    rw [hx] at f1 f2 ⊢
    replace f1 : Hid _ := f1
    replace f2 : Hid _ := f2
    clear hat hend hT' c0 z0 c1 cA hmf hw0 hw1 Hv hq f3 hx
    go_wp2
    go_ret2
    exact .inr ⟨rfl, hne, d', hK, JAt.disk f1.out, f2.out⟩
end

section
set_option linter.unusedSimpArgs false
set_option linter.unusedVariables false
set_option maxRecDepth 100000
open Go.RowKit Go.MapKept

theorem hd_built1 (a : Nat) : Tryz.prog.built 73 [(1, .int .i64 (a : Int))] = some (hdC ⟨0, a, 0, 0⟩) := by kernel_rfl
set_option maxHeartbeats 8000000 in
theorem replace1_any (j p kb mb n : Nat) (d : DskV) (h : HdV) (lo : Option Addr) (lc : Nat) (l : List (List UInt8)) (so : Option Addr) (sc : Nat) (m : List (List UInt8)) (bs bj : Nat) (w : World)
    (hs : Has w bs 22 #[.slice so m.length sc]) (hj : Has w bj 40 #[.pointer (some ⟨j, 0, none⟩)]) (H : JAt w j p kb mb n d h lo lc l false) (ho : d.off = false) (hp : d.pend = []) (hn : 8 ≤ n) (hh : h.half ≤ 1) (hnum : h.num < 255)
    (hS : Strs w so sc m) (hso : ∀ ad, so = some ad → ad.block < w.heap.size ∧ ¬ FJ j p kb mb lo ad.block) (hm : ∀ r ∈ m, r.length ≤ 20000) (hroom : takenM m ≤ limitM n) (hbs : ¬ FJ j p kb mb lo bs) (hbj : ¬ FJ j p kb mb lo bj) :
    Calls Tryz.prog 73 #[.pointer (some ⟨bs, 0, none⟩), .pointer (some ⟨bj, 0, none⟩)] w fun e w' =>
      (e = .returned (.tuple #[]) ∧ ∃ d' lo' lc', KeptAt n d h ⟨0, 1 - h.half, 0, 0⟩ m d' ∧ JAt w' j p kb mb n d' (nextM h ⟨0, 1 - h.half, 0, 0⟩ m) lo' lc' m false ∧ (∀ k, FJ j p kb mb lo' k → FJ j p kb mb lo k ∨ w.heap.size ≤ k) ∧ OffF (FJ j p kb mb lo) w w') ∨
      (e = thrownJ 131 ∧ CutJ w j p kb mb n d h ⟨0, 1 - h.half, 0, 0⟩ m lo lc l w') := by
  have hn1 := H.disk.n1
  have hlim : limitM n ≤ 1000000 := by unfold limitM; omega
  have hst := sheet_taken m
  have hfi := first_in (half := 1 - h.half) (k := (sheetB m).length) hn (by omega) (by omega)
  have cs : ∀ W, Below w.heap.size w W → W.cell? ⟨bs, 0, none⟩ = some (.slice so m.length sc) := fun W hS => (hs.later hS).cell 0
  have cj : ∀ W, Below w.heap.size w W → W.cell? ⟨bj, 0, none⟩ = some (.pointer (some ⟨j, 0, none⟩)) := fun W hS => (hj.later hS).cell 0
  have cd : ∀ W, Below w.heap.size w W → W.cell? ⟨j, 0, none⟩ = some (.pointer (some ⟨p, 0, none⟩)) := fun W hS => ((H.jnl.later hS).cell 0).trans rfl
  have ht1 : ∀ W, Below w.heap.size w W → Calls Tryz.prog 68 #[.slice so m.length sc] W fun e w' => e = .returned (.int .i64 (takenM m : Nat)) ∧ w' = W := fun W hb => taken_any so sc m W (hS.later hb) (by omega)
  have ht3 : ∀ W, Below w.heap.size w W → Calls Tryz.prog 69 #[.pointer (some ⟨p, 0, none⟩)] W fun e w' => e = .returned (.int .i64 (limitM n : Nat)) ∧ w' = W := fun W hb => limit_any p kb mb n d W (H.disk.later hb) hn
  have hle := hS.le
  have hcap := hS.cap
  have hml : m.length ≤ 1000000 := by omega
  obtain ⟨L, hL⟩ : ∃ L, m.length = L := ⟨_, rfl⟩
  obtain ⟨T, hT⟩ : ∃ T, takenM m = T := ⟨_, rfl⟩
  obtain ⟨M, hM⟩ : ∃ M, limitM n = M := ⟨_, rfl⟩
  rw [hL] at cs ht1 hle hml
  rw [hT] at ht1 hroom
  rw [hM] at ht3 hroom hlim
  have e3 : (T : Int) ≤ (M : Int) := by omega
  have c0 := cs w (Below.refl _ _)
  replace cs : Hid _ := cs
  replace cj : Hid _ := cj
  replace cd : Hid _ := cd
  replace ht1 : Hid _ := ht1
  replace ht3 : Hid _ := ht3
  replace hL : Hid _ := hL
  replace hfi : Hid _ := hfi
  replace hm : Hid _ := hm
  clear hT hM hst
  go_enter Tryz.func73, Tryz.ntmps73
  go_wp2
  go_loopw [6] (fun iv wr => ∃ k, k ≤ L ∧ iv = .int .i64 (k : Nat) ∧ wr = w) (fun iv _ => L - (intOf iv).toNat)
  case atStart => exact ⟨0, Nat.zero_le _, rfl, rfl⟩
  case round =>
    obtain ⟨k, hk, rfl, hwr⟩ := hrel
    have hwr' := hwr.symm
    clear hwr
    subst hwr'
    by_cases hkL : k < L
    · have hkL2 : (k : Int) < (L : Int) := by omega
      have hkl : k < m.length := by rw [hL.out]; omega
      cases so with
      | none => have := hS.nil rfl; omega
      | some ad =>
        have hc := hS.cell ad rfl k hkl
        have hr := isRecord_any m[k] w
        rw [show decide (m[k].length ≤ 20000) = true from decide_eq_true (hm.out _ (List.getElem_mem hkl))] at hr
        obtain ⟨s, hss⟩ : ∃ s, m[k] = s := ⟨_, rfl⟩
        rw [hss] at hc hr
        unfold strV at hc hr
        replace hr : Hid _ := hr
        clear hss hkl
        go_wp2_with fail
        refine Calls.mono hr.out ?_
        rintro e w0 ⟨rfl, h9⟩
        have h9' := h9.symm
        clear h9 hr
        subst h9'
        go_wp2_with (first
          | (go_at_call 33; refine (must_yes 10 _).mono ?_; rintro e w9 ⟨rfl, h9⟩; have h9' := h9.symm; clear h9; subst h9')
          | fail)
        go_roundw
        case rel => exact ⟨k + 1, by omega, by go_num, trivial⟩
        case measure => simp [intOf]; omega
    · have hkk : k = L := by omega
      subst hkk
      go_wp2_with fail
      refine wp_region_plan (fun W => W = w.drew) (Plan.of [(0, true), (2, true), (3, true), (4, true), (5, true), (1, false), (6, false), (7, true), (8, false)] .done) (by kernel_rfl) (by kernel_rfl) (by kernel_rfl) (by kernel_rfl) rfl ?_
      have hb1 : Below w.heap.size w w.drew := (Below.refl _ _).drew
      have cs1 := cs.out _ hb1
      have cj1 := cj.out _ hb1
      have cd1 := cd.out _ hb1
      iterate 5
        first
          | (refine plan_pass _ rfl (by rfl) ?_)
          | (refine plan_take _ _ rfl (.inl ⟨by rfl, fun W hS => by obtain rfl := hS; go_simp; try with_reducible rfl⟩) ?_)
        try simp only [Act.put, List.setIfInBounds_toArray, List.set_cons_zero, List.set_cons_succ]
      refine plan_run _ rfl (fun K' hK' => ?_)
      go_simp
      refine Calls.mono (ht1.out _ hb1) ?_
      rintro e w9 ⟨rfl, h9⟩
      have h9' := h9.symm
      clear h9
      subst h9'
      refine hK'.out _ _ rfl ?_
      clear hK' K'
      refine plan_run _ rfl (fun K' hK' => ?_)
      go_simp
      refine Calls.mono (ht3.out _ hb1) ?_
      rintro e w9 ⟨rfl, h9⟩
      have h9' := h9.symm
      clear h9
      subst h9'
      refine hK'.out _ _ rfl ?_
      clear hK' K'
      iterate 1
        first
          | (refine plan_pass _ rfl (by rfl) ?_)
          | (refine plan_take _ _ rfl (.inl ⟨by rfl, fun W hS => by obtain rfl := hS; go_simp; try with_reducible rfl⟩) ?_)
        try simp only [Act.put, List.setIfInBounds_toArray, List.set_cons_zero, List.set_cons_succ]
      refine plan_run _ rfl (fun K' hK' => ?_)
      go_simp
      refine (must_yes 140 _).mono ?_
      rintro e w9 ⟨rfl, h9⟩
      have h9' := h9.symm
      clear h9
      subst h9'
      refine hK'.out _ _ rfl ?_
      clear hK' K'
      refine plan_done ?_
      have H2 := H.drew
      have hs2 := hs.drew
      have hj2 := hj.drew
      have hS2 := hS.later hb1
      have hw2 : w.heap.size ≤ w.drew.heap.size := Nat.le_refl _
      have o2 : OffF (FJ j p kb mb lo) w w.drew := OffF.of hb1
      clear cs1 cj1 cd1 c0 hb1 e3
      rw [hL.out] at hs2
      generalize w.drew = w2 at *
      have H3 := H2.drew
      have hs3 := hs2.drew
      have hj3 := hj2.drew
      have hS3 : Strs w2.drew so sc m := hS2.later (Below.refl _ _).drew
      have o3 : OffF (FJ j p kb mb lo) w w2.drew := o2.trans (OffF.of (Below.refl _ _).drew)
      have hw3 : w.heap.size ≤ w2.drew.heap.size := hw2
      go_wp2_with fail
      refine wp_region_plan_p (fun W => OffF (FJ j p kb mb lo) w2.drew W) (Plan.of [(0, true), (1, true), (2, true), (3, true), (4, true), (8, true), (5, false), (6, true), (7, true), (9, false)] .done) (fun ch W => ch = [{ v := .iface 25 (.int .i64 131), recovered := false }] ∧ CutJ w j p kb mb n d h ⟨0, 1 - h.half, 0, 0⟩ m lo lc l W) (by kernel_rfl) (by kernel_rfl) (by kernel_rfl) (by kernel_rfl) (OffF.of (Below.refl _ _)) ?_ ?_
      · rintro ch a' w' ⟨rfl, hx⟩ hd
        exact ⟨hd, .inr ⟨rfl, hx⟩⟩
      generalize w2.drew = w3 at *
      have hke := keep_any j p kb mb n d h ⟨0, 1 - h.half, 0, 0⟩ lo l.length lc false so sc m w3 H3.jnl H3.disk ho hp hn (by show 1 - h.half ≤ 1; omega) hnum (by show 0 < _; decide) hS3
        (fun ad had => ⟨Nat.lt_of_lt_of_le (hso ad had).1 hw3, fun z => (hso ad had).2 (.inl z), fun z => (hso ad had).2 (.inr (.inl z))⟩) H.jF hm.out (by have := hfi.out; show 64 * firstM n (1 - h.half) + 0 + _ + 64 ≤ _; omega)
      rw [hL.out] at hke
      replace hke : Hid _ := hke
      have hHI : ((1 - h.half : Nat) : Int) = 1 - (h.half : Int) := by omega
      obtain ⟨H', hH'⟩ : ∃ x, 1 - h.half = x := ⟨_, rfl⟩
      rw [hH'] at hke hHI
      have hH'' : Hid _ := hH'
      iterate 2
        first
          | (refine plan_pass _ rfl (by rfl) ?_)
          | (refine plan_take _ _ rfl (.inl ⟨by rfl, fun W hS => by have z : W.cell? ⟨bj, 0, none⟩ = some (.pointer (some ⟨j, 0, none⟩)) := (hS.has hj3 hbj).cell 0; go_simp; try with_reducible rfl⟩) ?_)
        try simp only [Act.put, List.setIfInBounds_toArray, List.set_cons_zero, List.set_cons_succ]
      iterate 3
        first
          | (refine plan_pass _ rfl (by rfl) ?_)
          | (refine plan_take _ _ rfl (.inl ⟨by rfl, fun W hS => by clear hS; go_simp; try with_reducible rfl⟩) ?_)
        try simp only [Act.put, List.setIfInBounds_toArray, List.set_cons_zero, List.set_cons_succ]
      iterate 1
        first
          | (refine plan_pass _ rfl (by rfl) ?_)
          | (refine plan_take _ _ rfl (.inl ⟨by rfl, fun W hS => by have z : W.cell? ⟨bs, 0, none⟩ = some (.slice so k sc) := (hS.has hs3 hbs).cell 0; go_simp; try with_reducible rfl⟩) ?_)
        try simp only [Act.put, List.setIfInBounds_toArray, List.set_cons_zero, List.set_cons_succ]
      refine plan_nowJ _ (.int .i64 (h.half : Int)) rfl (by rfl) (.inl ⟨by rfl, fun W hW => by subst hW; have z : W.cell? ⟨j, 2, none⟩ = some (.int .i64 (h.half : Int)) := (H3.jnl.cell 2).trans rfl; go_simp; try with_reducible rfl⟩) (OffF.of (Below.refl _ _)) ?_
      try simp only [Act.put, List.setIfInBounds_toArray, List.set_cons_zero, List.set_cons_succ]
      refine plan_take _ (.int .i64 (H' : Int)) rfl (.inl ⟨by rfl, fun W hS => by clear hS; go_simp; rw [IntKind.wrap_i64]; omega⟩) ?_
      try simp only [Act.put, List.setIfInBounds_toArray, List.set_cons_zero, List.set_cons_succ]
      refine plan_take _ (.agg (hdC ⟨0, H', 0, 0⟩)) rfl (yields_build_l (by rfl) 73 [(1, _)] rfl [(1, .int .i64 (H' : Int))] rfl _ (hd_built1 H')) ?_
      try simp only [Act.put, List.setIfInBounds_toArray, List.set_cons_zero, List.set_cons_succ]
      refine plan_run _ rfl (fun K' hK' => ?_)
      go_simp
      refine Calls.mono hke.out ?_
      rintro e w5 hh5
      replace hh5 := hh5.symm
      rw [← hH'] at hh5
      rcases hh5 with ⟨rfl, hx⟩ | ⟨rfl, d', hk', hD', hJ', ho'⟩
      · unfold thrownJ
        exact pan_here ⟨rfl, by rw [← hH''.out]; exact CutX.cutJ H3 o3 hx⟩ rfl
      have ho5 : OffF (FJ j p kb mb lo) w3 w5 := ho'.more (fun k hk => hk.elim .inl (fun z => .inr (.inl z)))
      refine hK'.out _ _ ho5 ?_
      clear hK' K' hke
      try simp only [Act.put, List.setIfInBounds_toArray, List.set_cons_zero, List.set_cons_succ]
      refine plan_done_p ?_
      have H5 := (H3.turn ho' hD' hJ').drew
      have hs5 := (ho5.has hs3 hbs).drew
      have hj5 := (ho5.has hj3 hbj).drew
      have hS5 : Strs w5.drew so sc m := (hS3.same (fun ad had => ho5.block _ (Nat.lt_of_lt_of_le (hso ad had).1 hw3) (hso ad had).2)).later (Below.refl _ _).drew
      have o5 : OffF (FJ j p kb mb lo) w w5.drew := (o3.trans ho5).trans (OffF.of (Below.refl _ _).drew)
      have hw5 : w.heap.size ≤ w5.drew.heap.size := o5.size
      have hcl := cloned_any so sc m w5.drew hS5 (fun ad had => Nat.lt_of_lt_of_le (hso ad had).1 hw5) (by rw [hL.out]; exact hml) (fun r hr => by have := hm.out r hr; omega)
      rw [hL.out] at hcl
      replace hcl : Hid _ := hcl
      clear ho' hD' hJ' H3 hs3 hj3 hS3 o3 ho5 H2 hs2 hj2 hS2 o2 hHI hH'
      go_wp2_with fail
      refine wp_region_plan (fun W => OffF (FJ j p kb mb lo) w5.drew W) (Plan.of [(0, true), (1, true), (2, false), (3, true), (4, true), (5, false)] .done) (by kernel_rfl) (by kernel_rfl) (by kernel_rfl) (by kernel_rfl) (OffF.of (Below.refl _ _)) ?_
      generalize w5.drew = w6 at *
      iterate 1
        first
          | (refine plan_pass _ rfl (by rfl) ?_)
          | (refine plan_take _ _ rfl (.inl ⟨by rfl, fun W hS => by have z : W.cell? ⟨bj, 0, none⟩ = some (.pointer (some ⟨j, 0, none⟩)) := (hS.has hj5 hbj).cell 0; go_simp; try with_reducible rfl⟩) ?_)
        try simp only [Act.put, List.setIfInBounds_toArray, List.set_cons_zero, List.set_cons_succ]
      iterate 1
        first
          | (refine plan_pass _ rfl (by rfl) ?_)
          | (refine plan_take _ _ rfl (.inl ⟨by rfl, fun W hS => by have z : W.cell? ⟨bs, 0, none⟩ = some (.slice so k sc) := (hS.has hs5 hbs).cell 0; go_simp; try with_reducible rfl⟩) ?_)
        try simp only [Act.put, List.setIfInBounds_toArray, List.set_cons_zero, List.set_cons_succ]
      refine plan_run _ rfl (fun K' hK' => ?_)
      go_simp
      refine Calls.mono hcl.out ?_
      rintro e w7 ⟨lo', c', rfl, hown, hq⟩
      refine hK'.out _ _ (OffF.of hq) ?_
      clear hK' K' hcl
      try simp only [Act.put, List.setIfInBounds_toArray, List.set_cons_zero, List.set_cons_succ]
      iterate 2
        first
          | (refine plan_pass _ rfl (by rfl) ?_)
          | (refine plan_take _ _ rfl (.inl ⟨by rfl, fun W hS => by clear hS; go_simp; try with_reducible rfl⟩) ?_)
        try simp only [Act.put, List.setIfInBounds_toArray, List.set_cons_zero, List.set_cons_succ]
      have H7 := H5.later hq
      have c7 : w7.cell? ⟨j, 5, none⟩ = some (.slice lo l.length lc) := (H7.jnl.cell 5).trans rfl
      have z7 := H7.jnl.free 5
      have hJ8 := H7.jnl.set 5 (.slice lo' k c')
      rw [put_rows] at hJ8
      have hbt := but_cell w7 5 (.slice lo' k c') (g := j)
      have hlb : ∀ ad, lo' = some ad → w6.heap.size ≤ ad.block := fun ad had => by
        obtain ⟨_, ao, c9, hv, _, hf⟩ := strs_own hown
        cases hv
        exact (hf ad had).1
      have hlj : ∀ ad, lo' = some ad → ad.block ≠ j ∧ ¬ DF p kb mb ad.block := fun ad had => by
        have h1 := hlb ad had
        refine ⟨?_, fun z => ?_⟩
        · have := H.lt _ (.inl rfl); omega
        · have := H.lt _ (.inr (.inl z)); omega
      have hD8 := H7.disk.offs (OffF.but hbt) (fun z => H.jF (.inl z.symm)) (fun z => H.jF (.inr (.inl z.symm))) (fun z => H.jF (.inr (.inr z.symm)))
      have hown8 : (w7.setCell ⟨j, 5, none⟩ (.slice lo' k c')).ownsRow 0 9 1 (.slice lo' k c') k (SsV m) := own_off (own_mono hown (Nat.zero_le _)) (OffF.but hbt) (fun g hg z => by
        obtain ⟨ad, had, e⟩ := own_block hg
        exact (hlj ad had).1 (e.trans z))
      refine plan_run _ rfl (fun K' hK' => ?_)
      go_simp
      have ho8 : OffF (FJ j p kb mb lo) w6 (w7.setCell ⟨j, 5, none⟩ (.slice lo' k c')) := (OffF.of hq).trans ((OffF.but hbt).more (fun k hk => .inl hk))
      refine hK'.out _ _ ho8 ?_
      clear hK' K'
      try simp only [Act.put, List.setIfInBounds_toArray, List.set_cons_zero, List.set_cons_succ]
      refine plan_done ?_
      have hfin : Hid (JAt (w7.setCell ⟨j, 5, none⟩ (.slice lo' k c')) j p kb mb n d' (nextM h ⟨0, 1 - h.half, 0, 0⟩ m) lo' c' m false ∧ (∀ k, FJ j p kb mb lo' k → FJ j p kb mb lo k ∨ w.heap.size ≤ k) ∧ OffF (FJ j p kb mb lo) w (w7.setCell ⟨j, 5, none⟩ (.slice lo' k c'))) := by
        refine ⟨⟨hD8, by rw [hL.out]; exact hJ8, by rw [hL.out]; exact hown8, hlj, H.jF⟩, fun x hx => ?_, o5.trans ho8⟩
        rcases hx with z | z | ⟨ad, had, z⟩
        · exact .inl (.inl z)
        · exact .inl (.inr (.inl z))
        · exact .inr (by rw [← z]; exact Nat.le_trans hw5 (hlb ad had))
      clear hJ8 hbt hlb hlj hD8 hown8 ho8 hown hq H7 H5 hs5 hj5 hS5 o5 c7 z7
      go_wp2
      go_end0
      exact .inl ⟨rfl, d', lo', c', hk', hfin.out.1, hfin.out.2.1, hfin.out.2.2⟩
end

section
set_option linter.unusedSimpArgs false
set_option linter.unusedVariables false
set_option maxRecDepth 100000
open Go.RowKit Go.MapKept

theorem enters_replace1 (caps : Array Value) : Enters 73 caps := fun w => by kernel_rfl
set_option maxHeartbeats 8000000 in
/-- Replace, where its closure throws and nothing has changed. -/
theorem replace_err (n : Nat) (b : Bool) (hn : ((n : Int) == 131) = b) (j p m c : Nat) (h : HdV) (lo : Option Addr) (so : Option Addr) (sn sc : Nat) (w : World) (hJ : Has w j 75 (jnlC p h lo m c false))
    (hO : ∀ (bs bj : Nat) (w' : World), Has w' bs 22 #[Value.slice so sn sc] → Has w' bj 40 #[.pointer (some ⟨j, 0, none⟩)] → Below w.heap.size w w' → Calls Tryz.prog 73 #[.pointer (some ⟨bs, 0, none⟩), .pointer (some ⟨bj, 0, none⟩)] w' fun e w'' => e = thrownJ n ∧ Below w'.heap.size w' w'') :
    Calls Tryz.prog 42 #[.pointer (some ⟨j, 0, none⟩), Value.slice so sn sc] w fun e w' => e = .returned (.int .i64 (n : Nat)) ∧ Has w' j 75 (jnlC p h lo m c b) ∧ But j w w' := by
  obtain ⟨w1, hw1, hA, hB, hb1⟩ := two_vars w 40 22 #[.pointer (some ⟨j, 0, none⟩)] #[Value.slice so sn sc]
  have s1 : w1.heap.size = w.heap.size + 2 := by rw [← hw1]; simp
  have hjl := hJ.lt
  have hJ1 := hJ.later hb1
  have hbt := try_below w1 j 73 #[.pointer (some ⟨w.heap.size + 1, 0, none⟩), .pointer (some ⟨w.heap.size, 0, none⟩)]
  have ho1 := hO (w.heap.size + 1) w.heap.size _ (hB.later hbt) (hA.later hbt) (hb1.trans (hbt.mono hb1.size))
  obtain ⟨t0, t1, t2⟩ := try_has w1 j 73 #[.pointer (some ⟨w.heap.size + 1, 0, none⟩), .pointer (some ⟨w.heap.size, 0, none⟩)]
  have ts := try_size w1 j 73 #[.pointer (some ⟨w.heap.size + 1, 0, none⟩), .pointer (some ⟨w.heap.size, 0, none⟩)]
  have hat := attempt_err n b hn 73 #[.pointer (some ⟨w.heap.size + 1, 0, none⟩), .pointer (some ⟨w.heap.size, 0, none⟩)] (enters_replace1 _) j w1 _ (by omega) ((hJ1.cell 6).trans rfl) ho1 (fun v hv => by
    have hJv := (hJ1.later hbt).later hv
    exact ⟨t0.later hv, t2.later hv, ⟨_, (hJv.cell 6).trans rfl⟩, hJv.free 6⟩)
  replace hat : Hid _ := hat
  have hz : Hid (Has w j 75 (jnlC p h lo m c false) ∧ Below w.heap.size w w1 ∧ w1.heap.size = w.heap.size + 2 ∧ j < w.heap.size) := ⟨hJ, hb1, s1, hjl⟩
  have hmf : ∀ (fn : Fn) (first cap : Array Value) (w : World), (Instr.makeFunc fn first cap).run Tryz.prog w = .ok (.func fn first cap) w := fun _ _ _ _ => rfl
  have c1 : w1.cell? ⟨w.heap.size, 0, none⟩ = some (.pointer (some ⟨j, 0, none⟩)) := hA.cell 0
  clear hA hB hb1 s1 hjl hJ hJ1 hbt ho1 t0 t1 t2 ts hO
  go_enter Tryz.func42, Tryz.ntmps42
  go_wp2_with fail
  refine Calls.mono hat.out ?_
  rintro e w2 ⟨rfl, v, hbv, rfl⟩
  obtain ⟨hJ, hb1, s1, hjl⟩ := hz.out
  have hbt := try_below w1 j 73 #[.pointer (some ⟨w.heap.size + 1, 0, none⟩), .pointer (some ⟨w.heap.size, 0, none⟩)]
  have ts := try_size w1 j 73 #[.pointer (some ⟨w.heap.size + 1, 0, none⟩), .pointer (some ⟨w.heap.size, 0, none⟩)]
  have hBv : Below w.heap.size w v := (hb1.trans (hbt.mono hb1.size)).trans (hbv.mono (by omega))
  have hBv2 := hBv.setCell (p := ⟨w1.heap.size + 2, 0, none⟩) (show w.heap.size ≤ w1.heap.size + 2 by omega) (.int .i64 (n : Nat))
  have hJw := (hJ.later hBv2).set 6 (.bool b)
  replace hJw : Has ((v.setCell ⟨w1.heap.size + 2, 0, none⟩ (.int .i64 (n : Nat))).setCell ⟨j, 6, none⟩ (.bool b)) j 75 (jnlC p h lo m c b) := hJw
  have hBw : But j w ((v.setCell ⟨w1.heap.size + 2, 0, none⟩ (.int .i64 (n : Nat))).setCell ⟨j, 6, none⟩ (.bool b)) := (But.of hBv2).trans (but_cell _ 6 (.bool b))
  obtain ⟨x, hx⟩ : ∃ W, (v.setCell ⟨w1.heap.size + 2, 0, none⟩ (.int .i64 (n : Nat))).setCell ⟨j, 6, none⟩ (.bool b) = W := ⟨_, rfl⟩
  rw [hx] at hBw hJw ⊢
  clear hat hz hbt ts hbv hBv hBv2 hx s1 hb1 hJ c1 hmf hw1 hjl
  go_wp2
  go_ret
  exact ⟨rfl, hJw, hBw⟩
set_option maxHeartbeats 8000000 in
/-- A broken journal does nothing. -/
theorem replace_broken (j p m c : Nat) (h : HdV) (lo : Option Addr) (so : Option Addr) (sn sc : Nat) (w : World) (hJ : Has w j 75 (jnlC p h lo m c true)) :
    Calls Tryz.prog 42 #[.pointer (some ⟨j, 0, none⟩), Value.slice so sn sc] w fun e w' => e = .returned (.int .i64 131) ∧ Has w' j 75 (jnlC p h lo m c true) ∧ But j w w' := by
  obtain ⟨w1, hw1, hA, hB, hb1⟩ := two_vars w 40 22 #[.pointer (some ⟨j, 0, none⟩)] #[Value.slice so sn sc]
  have s1 : w1.heap.size = w.heap.size + 2 := by rw [← hw1]; simp
  have hjl := hJ.lt
  have hJ1 := hJ.later hb1
  have hbt := try_below w1 j 73 #[.pointer (some ⟨w.heap.size + 1, 0, none⟩), .pointer (some ⟨w.heap.size, 0, none⟩)]
  obtain ⟨t0, t1, t2⟩ := try_has w1 j 73 #[.pointer (some ⟨w.heap.size + 1, 0, none⟩), .pointer (some ⟨w.heap.size, 0, none⟩)]
  have ts := try_size w1 j 73 #[.pointer (some ⟨w.heap.size + 1, 0, none⟩), .pointer (some ⟨w.heap.size, 0, none⟩)]
  have hat := attempt_broken 73 #[.pointer (some ⟨w.heap.size + 1, 0, none⟩), .pointer (some ⟨w.heap.size, 0, none⟩)] j w1 (by omega) ((hJ1.cell 6).trans rfl) (hJ1.free 6)
  replace hat : Hid _ := hat
  have hz : Hid (Has w j 75 (jnlC p h lo m c true) ∧ Below w.heap.size w w1 ∧ w1.heap.size = w.heap.size + 2 ∧ j < w.heap.size) := ⟨hJ, hb1, s1, hjl⟩
  have hmf : ∀ (fn : Fn) (first cap : Array Value) (w : World), (Instr.makeFunc fn first cap).run Tryz.prog w = .ok (.func fn first cap) w := fun _ _ _ _ => rfl
  have c1 : w1.cell? ⟨w.heap.size, 0, none⟩ = some (.pointer (some ⟨j, 0, none⟩)) := hA.cell 0
  clear hA hB hb1 s1 hjl hJ hJ1 hbt t0 t1 t2 ts
  go_enter Tryz.func42, Tryz.ntmps42
  go_wp2_with fail
  refine Calls.mono hat.out ?_
  rintro e w2 ⟨rfl, v, hbv, rfl⟩
  obtain ⟨hJ, hb1, s1, hjl⟩ := hz.out
  have hbt := try_below w1 j 73 #[.pointer (some ⟨w.heap.size + 1, 0, none⟩), .pointer (some ⟨w.heap.size, 0, none⟩)]
  have ts := try_size w1 j 73 #[.pointer (some ⟨w.heap.size + 1, 0, none⟩), .pointer (some ⟨w.heap.size, 0, none⟩)]
  have hBv : Below w.heap.size w v := by rw [hbv]; exact hb1.trans (hbt.mono hb1.size)
  have hBv2 := hBv.setCell (p := ⟨w1.heap.size + 2, 0, none⟩) (show w.heap.size ≤ w1.heap.size + 2 by omega) (.int .i64 ((131 : Nat) : Int))
  have hJw := (hJ.later hBv2).set 6 (.bool true)
  replace hJw : Has ((v.setCell ⟨w1.heap.size + 2, 0, none⟩ (.int .i64 ((131 : Nat) : Int))).setCell ⟨j, 6, none⟩ (.bool true)) j 75 (jnlC p h lo m c true) := hJw
  have hBw : But j w ((v.setCell ⟨w1.heap.size + 2, 0, none⟩ (.int .i64 ((131 : Nat) : Int))).setCell ⟨j, 6, none⟩ (.bool true)) := (But.of hBv2).trans (but_cell _ 6 (.bool true))
  obtain ⟨x, hx⟩ : ∃ W, (v.setCell ⟨w1.heap.size + 2, 0, none⟩ (.int .i64 ((131 : Nat) : Int))).setCell ⟨j, 6, none⟩ (.bool true) = W := ⟨_, rfl⟩
  rw [hx] at hBw hJw ⊢
  clear hat hz hbt ts hbv hBv hBv2 hx s1 hb1 hJ c1 hmf hw1 hjl
  go_wp2
  go_ret
  exact ⟨rfl, hJw, hBw⟩
end
end Go.Proofs.YtpnpjblohijajabGreat
