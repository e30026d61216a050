/- JnlOpens, JnlAppNo, joined. -/
import Derived.Test.YtpnpjblohijajabGreatGrp26
namespace Go.Proofs.YtpnpjblohijajabGreat
section
set_option linter.unusedSimpArgs false
set_option linter.unusedVariables false
set_option maxRecDepth 100000
open Go.RowKit Go.MapKept

theorem jnl_built (p : Nat) : Tryz.prog.built 75 [(0, .pointer (some ⟨p, 0, none⟩))] = some (jnlC p hd0 none 0 0 false) := by kernel_rfl
theorem enters_open1 (caps : Array Value) : Enters 49 caps := fun w => by kernel_rfl
/-- What stands behind an Open. -/
structure Opened (w w' : World) (p : Nat) (h : HdV) (l : List (List UInt8)) (j : Nat) (bo : Option Addr) (bc : Nat) : Prop where
  newj : w.heap.size ≤ j
  rows : ∃ lo lc B, Has w' j 75 (jnlC p h lo l.length lc false) ∧ w'.ownsRow w.heap.size 9 1 (.slice lo l.length lc) l.length (SsV l) ∧ (∀ ad, lo = some ad → ad.block < B) ∧ j < B ∧ w'.ownsRow B 9 1 (.slice bo l.length bc) l.length (SsV l)
  below : Below w.heap.size w w'
set_option maxHeartbeats 8000000 in
theorem open_good (p kb mb n : Nat) (d : DskV) (h : HdV) (l : List (List UInt8)) (w : World) (hD : DiskAt w p kb mb n d) (ho : d.off = false) (hn : 8 ≤ n) (hN : ∀ k, k < 2 → isHd (writtenM d k) = true → (rdHd (writtenM d k)).num < 256) (hnew : newestTo (writtenM d) 2 = (h, true))
    (hok : HdOk h) (hh : h.half ≤ 1) (hlen : h.len = (sheetB l).length) (hsum : h.sum = sumM 0 l) (hlim : h.len ≤ limitM n) (hrec : ∀ r ∈ l, r.length ≤ 20000) (hbody : bodyM d (firstM n h.half) h.len = sheetB l) :
    Calls Tryz.prog 27 #[.pointer (some ⟨p, 0, none⟩)] w fun e w' => ∃ j bo bc, e = .returned (.tuple #[.pointer (some ⟨j, 0, none⟩), .slice bo l.length bc, .int .i64 0]) ∧ Opened w w' p h l j bo bc := by
  have hn1 := hD.n1
  obtain ⟨w0, hw0, hA, hJ, hV, hb0⟩ := three_vars w 28 75 40 #[.pointer (some ⟨p, 0, none⟩)] (jnlC p hd0 none 0 0 false) #[.pointer none]
  have hV1 := hV.set 0 (.pointer (some ⟨w.heap.size + 1, 0, none⟩))
  have hA1 := hA.set_other (a := ⟨w.heap.size + 1 + 1, 0, none⟩) (show w.heap.size ≠ w.heap.size + 1 + 1 by omega) (.pointer (some ⟨w.heap.size + 1, 0, none⟩))
  have hJ1 := hJ.set_other (a := ⟨w.heap.size + 1 + 1, 0, none⟩) (show w.heap.size + 1 ≠ w.heap.size + 1 + 1 by omega) (.pointer (some ⟨w.heap.size + 1, 0, none⟩))
  have hb1 := hb0.setCell (p := ⟨w.heap.size + 1 + 1, 0, none⟩) (show w.heap.size ≤ w.heap.size + 1 + 1 by omega) (.pointer (some ⟨w.heap.size + 1, 0, none⟩))
  have s0 : w0.heap.size = w.heap.size + 3 := by rw [← hw0]; simp
  obtain ⟨w1, hw1⟩ : ∃ W, w0.setCell ⟨w.heap.size + 1 + 1, 0, none⟩ (.pointer (some ⟨w.heap.size + 1, 0, none⟩)) = W := ⟨_, rfl⟩
  have s1 : w1.heap.size = w.heap.size + 3 := by rw [← hw1, ← s0]; simp
  rw [hw1] at hV1 hA1 hJ1 hb1
  have c0 : w0.cell? ⟨w.heap.size + 1 + 1, 0, none⟩ = some (.pointer none) := hV.cell 0
  have z0 := hV.free 0
  replace hV1 : Has w1 (w.heap.size + 1 + 1) 40 #[.pointer (some ⟨w.heap.size + 1, 0, none⟩)] := hV1
  have hD1 := hD.later hb1
  have hbt := try_below w1 (w.heap.size + 1) 49 #[.pointer (some ⟨w.heap.size, 0, none⟩), .pointer (some ⟨w.heap.size + 1 + 1, 0, none⟩)]
  have ho1 := open1_good p kb mb n d h l w.heap.size (w.heap.size + 1 + 1) (w.heap.size + 1) _ (hA1.later hbt) (hV1.later hbt) (hJ1.later hbt) (hD1.later hbt) ho hn hN hnew hok hh hlen hsum hlim hrec hbody
  obtain ⟨t0, t1, t2⟩ := try_has w1 (w.heap.size + 1) 49 #[.pointer (some ⟨w.heap.size, 0, none⟩), .pointer (some ⟨w.heap.size + 1 + 1, 0, none⟩)]
  have ts := try_size w1 (w.heap.size + 1) 49 #[.pointer (some ⟨w.heap.size, 0, none⟩), .pointer (some ⟨w.heap.size + 1 + 1, 0, none⟩)]
  have hat := attempt_ok 49 #[.pointer (some ⟨w.heap.size, 0, none⟩), .pointer (some ⟨w.heap.size + 1 + 1, 0, none⟩)] (enters_open1 _) (w.heap.size + 1) w1 _ (by omega) ((hJ1.cell 6).trans rfl) ho1 (fun v hv => by
    obtain ⟨bo, bc, hJv, _, hbv⟩ := hv
    exact ⟨hbv.has t0 (by omega), hbv.has t2 (by omega), ⟨_, (hJv.cell 6).trans rfl⟩, hJv.free 6⟩)
  replace hat : Hid _ := hat
  have hLb : Hid (l.length ≤ 1000000) := by
    show _ ≤ _
    have h1 := sheet_two l
    have h2 : limitM n ≤ 1000000 := by unfold limitM; omega
    omega
  have hts : Hid ((tryW w1 (w.heap.size + 1) 49 #[.pointer (some ⟨w.heap.size, 0, none⟩), .pointer (some ⟨w.heap.size + 1 + 1, 0, none⟩)]).heap.size = w1.heap.size + 3) := ts
  have hz : Hid (Has w1 (w.heap.size + 1 + 1) 40 #[.pointer (some ⟨w.heap.size + 1, 0, none⟩)] ∧ Below w.heap.size w w1 ∧ w1.heap.size = w.heap.size + 3) := ⟨hV1, hb1, s1⟩
  have hmf : ∀ (fn : Fn) (first cap : Array Value) (w : World), (Instr.makeFunc fn first cap).run Tryz.prog w = .ok (.func fn first cap) w := fun _ _ _ _ => rfl
  have cA := (hA.cell 0)
  have c1 := hV1.cell 0
  replace cA : w0.cell? ⟨w.heap.size, 0, none⟩ = some (.pointer (some ⟨p, 0, none⟩)) := cA
  clear hA hJ hV hb0 hA1 hJ1 hb1 hV1 hD hD1 hbt ho1 t0 t1 t2 ts s0 s1 hN hnew hbody hlen hsum hlim
  go_enter Tryz.func27, Tryz.ntmps27
  go_wp2_with (first
    | (refine wpList_build_has (by rfl) 75 #[(0, _)] rfl (jnlC p hd0 none 0 0 false) (by simpa using jnl_built p) ?_)
    | (refine Go.Great.wpList_boxTo rfl 75 _ rfl _ rfl (w.heap.size + 1) (by simp) (jnlC p hd0 none 0 0 false) rfl ?_)
    | fail)
  refine Calls.mono hat.out ?_
  rintro e w2 ⟨rfl, v, ⟨bo0, bc0, hJv, hov, hbv⟩, rfl⟩
  obtain ⟨hV1, hb1, s1⟩ := hz.out
  have hbt := try_below w1 (w.heap.size + 1) 49 #[.pointer (some ⟨w.heap.size, 0, none⟩), .pointer (some ⟨w.heap.size + 1 + 1, 0, none⟩)]
  have hts' := hts.out
  obtain ⟨T, hT⟩ : ∃ T, tryW w1 (w.heap.size + 1) 49 #[.pointer (some ⟨w.heap.size, 0, none⟩), .pointer (some ⟨w.heap.size + 1 + 1, 0, none⟩)] = T := ⟨_, rfl⟩
  rw [hT] at hbt hts' hov hbv
  have hVv := hbv.has (hV1.later hbt) (by omega)
  have hBv : Below w.heap.size w v := by
    have k1 := hb1.trans (hbt.mono hb1.size)
    exact ⟨hbv.os.trans k1.os, hbv.tape.trans k1.tape, hbv.output.trans k1.output, Nat.le_trans k1.size hbv.size, fun x hx => (hbv.block x (Nat.lt_of_lt_of_le hx k1.size) (by omega)).trans (k1.block x hx)⟩
  have hov2 := own_but (own_but hov (but_cell v 0 (.int .i64 0) (g := w1.heap.size + 2)) (by omega)) (but_cell (v.setCell ⟨w1.heap.size + 2, 0, none⟩ (.int .i64 0)) 6 (.bool false) (g := w.heap.size + 1)) (by omega)
  have hVw := (hVv.set_other (a := ⟨w1.heap.size + 2, 0, none⟩) (show w.heap.size + 1 + 1 ≠ w1.heap.size + 2 by omega) (.int .i64 0)).set_other (a := ⟨w.heap.size + 1, 6, none⟩) (show w.heap.size + 1 + 1 ≠ w.heap.size + 1 by omega) (.bool false)
  have hJw := (hJv.set_other (a := ⟨w1.heap.size + 2, 0, none⟩) (show w.heap.size + 1 ≠ w1.heap.size + 2 by omega) (.int .i64 0)).set 6 (.bool false)
  replace hJw : Has ((v.setCell ⟨w1.heap.size + 2, 0, none⟩ (.int .i64 0)).setCell ⟨w.heap.size + 1, 6, none⟩ (.bool false)) (w.heap.size + 1) 75 (jnlC p h bo0 l.length bc0 false) := hJw
  have hBw := (hBv.setCell (p := ⟨w1.heap.size + 2, 0, none⟩) (show w.heap.size ≤ w1.heap.size + 2 by omega) (.int .i64 0)).setCell (p := ⟨w.heap.size + 1, 6, none⟩) (show w.heap.size ≤ w.heap.size + 1 by omega) (.bool false)
  obtain ⟨x, hx⟩ : ∃ W, (v.setCell ⟨w1.heap.size + 2, 0, none⟩ (.int .i64 0)).setCell ⟨w.heap.size + 1, 6, none⟩ (.bool false) = W := ⟨_, rfl⟩
  rw [hx] at hov2 hVw hJw hBw ⊢
  obtain ⟨_, lo, lc, hv0, hst, hfar⟩ := strs_own hov2
  cases hv0
  have hdr : Below x.heap.size x x.drew := (Below.refl _ _).drew
  have hal := jall_any (w.heap.size + 1) p h bo0 bc0 l false x.drew (hJw.later hdr) (hst.later hdr) hLb.out
  have hTs : Hid (w.heap.size ≤ T.heap.size) := by show _ ≤ _; omega
  have hjx : Hid (w.heap.size + 1 < x.heap.size) := hJw.lt
  replace hal : Hid _ := hal
  replace hfar : Hid _ := hfar
  clear hat hz hts hts' hbt hT hov hbv hVv hBv hJv hx hst s1 hb1 hV1 c0 z0 c1 cA hmf hw0
  go_wp2_with fail
  refine wp_region_plan (fun W => Has W (w.heap.size + 1 + 1) 40 #[.pointer (some ⟨w.heap.size + 1, 0, none⟩)]) (Plan.of [(0, true), (1, true), (2, false), (3, true), (4, true), (5, true)] .done) (by kernel_rfl) (by kernel_rfl) (by kernel_rfl) (by kernel_rfl) hVw.drew ?_
  iterate 2
    first
      | (refine plan_pass _ rfl (by rfl) ?_)
      | (refine plan_take _ _ rfl (.inl ⟨by rfl, fun W hS => by have c0 := hS.cell 0; go_simp; try with_reducible rfl⟩) ?_)
    try simp only [Act.put, List.setIfInBounds_toArray, List.set_cons_zero, List.set_cons_succ]
  refine plan_run _ rfl (fun K hK => ?_)
  go_simp
  refine Calls.mono hal.out ?_
  rintro e w5 ⟨bo, bc, rfl, hown, hq⟩
  refine hK.out _ _ (hVw.drew.later hq) ?_
  clear hK K hal
  try simp only [Act.put, List.setIfInBounds_toArray, List.set_cons_zero, List.set_cons_succ]
  iterate 3
    first
      | (refine plan_pass _ rfl (by rfl) ?_)
      | (refine plan_take _ _ rfl (.inl ⟨by rfl, fun W hS => by clear hS; go_simp; try with_reducible rfl⟩) ?_)
    try simp only [Act.put, List.setIfInBounds_toArray, List.set_cons_zero, List.set_cons_succ]
  refine plan_done ?_
  have hJ5 := (hJw.later hdr).later hq
  have hr5 := own_mono (own_keptE (own_keptE hov2 hdr) hq) hTs.out
  have hB5 : Below w.heap.size w w5 := (hBw.drew).trans (hq.mono hBw.size)
  have hfin : Hid (Opened w w5 p h l (w.heap.size + 1) bo bc) := ⟨by omega, ⟨bo0, bc0, x.drew.heap.size, hJ5, hr5, fun ad had => (hfar.out ad had).2, hjx.out, hown⟩, hB5⟩
  clear hJ5 hr5 hB5 hown hq hJw hov2 hBw hVw hdr
  obtain ⟨L, hL⟩ : ∃ L, l.length = L := ⟨_, rfl⟩
  rw [hL]
  replace hL : Hid _ := hL
  go_wp2
  go_ret3
  have e1 := hL.out
  subst e1
  exact ⟨_, bo, bc, rfl, hfin.out⟩
end

section
set_option linter.unusedSimpArgs false
set_option linter.unusedVariables false
set_option maxRecDepth 100000
open Go.RowKit Go.MapKept

theorem enters_append1 (caps : Array Value) : Enters 66 caps := fun w => by kernel_rfl
theorem append1_long (s : List UInt8) (bs bj : Nat) (w : World) (hs : Has w bs 9 #[strV s]) (hl : 20000 < s.length) :
    Calls Tryz.prog 66 #[.pointer (some ⟨bs, 0, none⟩), .pointer (some ⟨bj, 0, none⟩)] w fun e w' => e = thrownJ 10 ∧ Below w.heap.size w w' := by
  have c0 := hs.cell 0
  replace c0 : w.cell? ⟨bs, 0, none⟩ = some (strV s) := c0
  have hr := isRecord_any s w
  rw [show decide (s.length ≤ 20000) = false from decide_eq_false (by omega)] at hr
  unfold strV at c0 hr
  replace hr : Hid _ := hr
  clear hs hl
  go_enter Tryz.func66, Tryz.ntmps66
  go_wp2_with fail
  refine Calls.mono hr.out ?_
  rintro e w0 ⟨rfl, h9⟩
  have h9' := h9.symm
  clear h9 hr
  subst h9'
  go_wp2_with (first
    | (go_at_call 33; refine (must_no 10 _).mono ?_; rintro e w9 ⟨rfl, h9⟩; have h9' := h9.symm; clear h9; subst h9'; unfold thrownJ)
    | fail)
  exact ⟨rfl, rfl, Below.refl _ _⟩
set_option maxHeartbeats 8000000 in
/-- Append, where its closure throws and nothing has changed. -/
theorem append_err (n : Nat) (b : Bool) (hn : ((n : Int) == 131) = b) (j p m c : Nat) (h : HdV) (lo : Option Addr) (s : List UInt8) (w : World) (hJ : Has w j 75 (jnlC p h lo m c false))
    (hO : ∀ (bs bj : Nat) (w' : World), Has w' bs 9 #[strV s] → Has w' bj 40 #[.pointer (some ⟨j, 0, none⟩)] → Below w.heap.size w w' → Calls Tryz.prog 66 #[.pointer (some ⟨bs, 0, none⟩), .pointer (some ⟨bj, 0, none⟩)] w' fun e w'' => e = thrownJ n ∧ Below w'.heap.size w' w'') :
    Calls Tryz.prog 40 #[.pointer (some ⟨j, 0, none⟩), strV s] w fun e w' => e = .returned (.int .i64 (n : Nat)) ∧ Has w' j 75 (jnlC p h lo m c b) ∧ But j w w' := by
  obtain ⟨w1, hw1, hA, hB, hb1⟩ := two_vars w 40 9 #[.pointer (some ⟨j, 0, none⟩)] #[strV s]
  have s1 : w1.heap.size = w.heap.size + 2 := by rw [← hw1]; simp
  have hjl := hJ.lt
  have hJ1 := hJ.later hb1
  have hbt := try_below w1 j 66 #[.pointer (some ⟨w.heap.size + 1, 0, none⟩), .pointer (some ⟨w.heap.size, 0, none⟩)]
  have ho1 := hO (w.heap.size + 1) w.heap.size _ (hB.later hbt) (hA.later hbt) (hb1.trans (hbt.mono hb1.size))
  obtain ⟨t0, t1, t2⟩ := try_has w1 j 66 #[.pointer (some ⟨w.heap.size + 1, 0, none⟩), .pointer (some ⟨w.heap.size, 0, none⟩)]
  have ts := try_size w1 j 66 #[.pointer (some ⟨w.heap.size + 1, 0, none⟩), .pointer (some ⟨w.heap.size, 0, none⟩)]
  have hat := attempt_err n b hn 66 #[.pointer (some ⟨w.heap.size + 1, 0, none⟩), .pointer (some ⟨w.heap.size, 0, none⟩)] (enters_append1 _) j w1 _ (by omega) ((hJ1.cell 6).trans rfl) ho1 (fun v hv => by
    have hJv := (hJ1.later hbt).later hv
    exact ⟨t0.later hv, t2.later hv, ⟨_, (hJv.cell 6).trans rfl⟩, hJv.free 6⟩)
  replace hat : Hid _ := hat
  have hz : Hid (Has w j 75 (jnlC p h lo m c false) ∧ Below w.heap.size w w1 ∧ w1.heap.size = w.heap.size + 2 ∧ j < w.heap.size) := ⟨hJ, hb1, s1, hjl⟩
  have hmf : ∀ (fn : Fn) (first cap : Array Value) (w : World), (Instr.makeFunc fn first cap).run Tryz.prog w = .ok (.func fn first cap) w := fun _ _ _ _ => rfl
  have c1 : w1.cell? ⟨w.heap.size, 0, none⟩ = some (.pointer (some ⟨j, 0, none⟩)) := hA.cell 0
  unfold strV at hw1
  unfold strV
  clear hA hB hb1 s1 hjl hJ hJ1 hbt ho1 t0 t1 t2 ts hO
  go_enter Tryz.func40, Tryz.ntmps40
  go_wp2_with fail
  refine Calls.mono hat.out ?_
  rintro e w2 ⟨rfl, v, hbv, rfl⟩
  obtain ⟨hJ, hb1, s1, hjl⟩ := hz.out
  have hbt := try_below w1 j 66 #[.pointer (some ⟨w.heap.size + 1, 0, none⟩), .pointer (some ⟨w.heap.size, 0, none⟩)]
  have ts := try_size w1 j 66 #[.pointer (some ⟨w.heap.size + 1, 0, none⟩), .pointer (some ⟨w.heap.size, 0, none⟩)]
  have hBv : Below w.heap.size w v := (hb1.trans (hbt.mono hb1.size)).trans (hbv.mono (by omega))
  have hBv2 := hBv.setCell (p := ⟨w1.heap.size + 2, 0, none⟩) (show w.heap.size ≤ w1.heap.size + 2 by omega) (.int .i64 (n : Nat))
  have hJw := (hJ.later hBv2).set 6 (.bool b)
  replace hJw : Has ((v.setCell ⟨w1.heap.size + 2, 0, none⟩ (.int .i64 (n : Nat))).setCell ⟨j, 6, none⟩ (.bool b)) j 75 (jnlC p h lo m c b) := hJw
  have hBw : But j w ((v.setCell ⟨w1.heap.size + 2, 0, none⟩ (.int .i64 (n : Nat))).setCell ⟨j, 6, none⟩ (.bool b)) := (But.of hBv2).trans (but_cell _ 6 (.bool b))
  obtain ⟨x, hx⟩ : ∃ W, (v.setCell ⟨w1.heap.size + 2, 0, none⟩ (.int .i64 (n : Nat))).setCell ⟨j, 6, none⟩ (.bool b) = W := ⟨_, rfl⟩
  rw [hx] at hBw hJw ⊢
  clear hat hz hbt ts hbv hBv hBv2 hx s1 hb1 hJ c1 hmf hw1 hjl
  go_wp2
  go_ret
  exact ⟨rfl, hJw, hBw⟩
set_option maxHeartbeats 8000000 in
/-- A broken journal does nothing. -/
theorem append_broken (j p m c : Nat) (h : HdV) (lo : Option Addr) (s : List UInt8) (w : World) (hJ : Has w j 75 (jnlC p h lo m c true)) :
    Calls Tryz.prog 40 #[.pointer (some ⟨j, 0, none⟩), strV s] w fun e w' => e = .returned (.int .i64 131) ∧ Has w' j 75 (jnlC p h lo m c true) ∧ But j w w' := by
  obtain ⟨w1, hw1, hA, hB, hb1⟩ := two_vars w 40 9 #[.pointer (some ⟨j, 0, none⟩)] #[strV s]
  have s1 : w1.heap.size = w.heap.size + 2 := by rw [← hw1]; simp
  have hjl := hJ.lt
  have hJ1 := hJ.later hb1
  have hbt := try_below w1 j 66 #[.pointer (some ⟨w.heap.size + 1, 0, none⟩), .pointer (some ⟨w.heap.size, 0, none⟩)]
  obtain ⟨t0, t1, t2⟩ := try_has w1 j 66 #[.pointer (some ⟨w.heap.size + 1, 0, none⟩), .pointer (some ⟨w.heap.size, 0, none⟩)]
  have ts := try_size w1 j 66 #[.pointer (some ⟨w.heap.size + 1, 0, none⟩), .pointer (some ⟨w.heap.size, 0, none⟩)]
  have hat := attempt_broken 66 #[.pointer (some ⟨w.heap.size + 1, 0, none⟩), .pointer (some ⟨w.heap.size, 0, none⟩)] j w1 (by omega) ((hJ1.cell 6).trans rfl) (hJ1.free 6)
  replace hat : Hid _ := hat
  have hz : Hid (Has w j 75 (jnlC p h lo m c true) ∧ Below w.heap.size w w1 ∧ w1.heap.size = w.heap.size + 2 ∧ j < w.heap.size) := ⟨hJ, hb1, s1, hjl⟩
  have hmf : ∀ (fn : Fn) (first cap : Array Value) (w : World), (Instr.makeFunc fn first cap).run Tryz.prog w = .ok (.func fn first cap) w := fun _ _ _ _ => rfl
  have c1 : w1.cell? ⟨w.heap.size, 0, none⟩ = some (.pointer (some ⟨j, 0, none⟩)) := hA.cell 0
  unfold strV at hw1
  unfold strV
  clear hA hB hb1 s1 hjl hJ hJ1 hbt t0 t1 t2 ts
  go_enter Tryz.func40, Tryz.ntmps40
  go_wp2_with fail
  refine Calls.mono hat.out ?_
  rintro e w2 ⟨rfl, v, hbv, rfl⟩
  obtain ⟨hJ, hb1, s1, hjl⟩ := hz.out
  have hbt := try_below w1 j 66 #[.pointer (some ⟨w.heap.size + 1, 0, none⟩), .pointer (some ⟨w.heap.size, 0, none⟩)]
  have ts := try_size w1 j 66 #[.pointer (some ⟨w.heap.size + 1, 0, none⟩), .pointer (some ⟨w.heap.size, 0, none⟩)]
  have hBv : Below w.heap.size w v := by rw [hbv]; exact hb1.trans (hbt.mono hb1.size)
  have hBv2 := hBv.setCell (p := ⟨w1.heap.size + 2, 0, none⟩) (show w.heap.size ≤ w1.heap.size + 2 by omega) (.int .i64 ((131 : Nat) : Int))
  have hJw := (hJ.later hBv2).set 6 (.bool true)
  replace hJw : Has ((v.setCell ⟨w1.heap.size + 2, 0, none⟩ (.int .i64 ((131 : Nat) : Int))).setCell ⟨j, 6, none⟩ (.bool true)) j 75 (jnlC p h lo m c true) := hJw
  have hBw : But j w ((v.setCell ⟨w1.heap.size + 2, 0, none⟩ (.int .i64 ((131 : Nat) : Int))).setCell ⟨j, 6, none⟩ (.bool true)) := (But.of hBv2).trans (but_cell _ 6 (.bool true))
  obtain ⟨x, hx⟩ : ∃ W, (v.setCell ⟨w1.heap.size + 2, 0, none⟩ (.int .i64 ((131 : Nat) : Int))).setCell ⟨j, 6, none⟩ (.bool true) = W := ⟨_, rfl⟩
  rw [hx] at hBw hJw ⊢
  clear hat hz hbt ts hbv hBv hBv2 hx s1 hb1 hJ c1 hmf hw1 hjl
  go_wp2
  go_ret
  exact ⟨rfl, hJw, hBw⟩
/-- What is no record is not appended. -/
theorem append_long (j p m c : Nat) (h : HdV) (lo : Option Addr) (s : List UInt8) (w : World) (hJ : Has w j 75 (jnlC p h lo m c false)) (hl : 20000 < s.length) :
    Calls Tryz.prog 40 #[.pointer (some ⟨j, 0, none⟩), strV s] w fun e w' => e = .returned (.int .i64 10) ∧ Has w' j 75 (jnlC p h lo m c false) ∧ But j w w' :=
  append_err 10 false (by decide) j p m c h lo s w hJ fun bs bj w' hs _ _ => append1_long s bs bj w' hs hl
end
end Go.Proofs.YtpnpjblohijajabGreat
