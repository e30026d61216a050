/- JnlApp, JnlOpenNo, JnlFormatNo, joined. -/
import Derived.Test.YtpnpjblohijajabGreatGrp28
import Derived.Test.YtpnpjblohijajabGreatGrp29
import Derived.Test.YtpnpjblohijajabGreatGrp30
namespace Go.Proofs.YtpnpjblohijajabGreat
section
set_option linter.unusedSimpArgs false
set_option linter.unusedVariables false
set_option maxRecDepth 100000
open Go.RowKit Go.MapKept

theorem JAt.flag {w : World} {j p kb mb n : Nat} {d : DskV} {h : HdV} {lo : Option Addr} {lc : Nat} {l : List (List UInt8)} {br : Bool} (H : JAt w j p kb mb n d h lo lc l br) (b : Bool) : JAt (w.setCell ⟨j, 6, none⟩ (.bool b)) j p kb mb n d h lo lc l b := by
  have hbt := but_cell w 6 (.bool b) (g := j)
  exact H.turn ((OffF.but hbt).more (fun k hk => .inl hk)) (H.disk.offs (OffF.but hbt) (fun z => H.jF (.inl z.symm)) (fun z => H.jF (.inr (.inl z.symm))) (fun z => H.jF (.inr (.inr z.symm)))) (H.jnl.set 6 (.bool b))
theorem OffF.setNew {F : Nat → Prop} {w v : World} (h : OffF F w v) {b : Nat} (hb : w.heap.size ≤ b ∨ F b) (o : Nat) (x : Value) : OffF F w (v.setCell ⟨b, o, none⟩ x) := by
  have hbt := but_cell v o x (g := b)
  exact ⟨hbt.os.trans h.os, hbt.tape.trans h.tape, hbt.output.trans h.output, Nat.le_trans h.size hbt.size, fun k hk hn => (hbt.block k (Nat.lt_of_lt_of_le hk h.size) (by rcases hb with z | z; omega; exact fun e => hn (e ▸ z))).trans (h.block k hk hn)⟩
theorem call_end {w T v : World} {j p kb mb n : Nat} {d' : DskV} {h' : HdV} {lo lo' : Option Addr} {lc' : Nat} {l' : List (List UInt8)} {br : Bool} (hwT : Below w.heap.size w T) (eb : Nat) (heb : w.heap.size ≤ eb) (heT : eb < T.heap.size) (H0 : ∀ k, FJ j p kb mb lo k → k < w.heap.size)
    (Hv : JAt v j p kb mb n d' h' lo' lc' l' br) (hg : ∀ k, FJ j p kb mb lo' k → FJ j p kb mb lo k ∨ T.heap.size ≤ k) (ho : OffF (FJ j p kb mb lo) T v) (x : Value) (b : Bool) :
    JAt ((v.setCell ⟨eb, 0, none⟩ x).setCell ⟨j, 6, none⟩ (.bool b)) j p kb mb n d' h' lo' lc' l' b ∧ (∀ k, FJ j p kb mb lo' k → FJ j p kb mb lo k ∨ w.heap.size ≤ k) ∧ OffF (FJ j p kb mb lo) w ((v.setCell ⟨eb, 0, none⟩ x).setCell ⟨j, 6, none⟩ (.bool b)) := by
  have hne : ∀ k, FJ j p kb mb lo' k → k ≠ eb := fun k hk e => by
    rcases hg k hk with z | z
    · have := H0 k z; omega
    · omega
  refine ⟨(Hv.off (OffF.but (but_cell v 0 x (g := eb))) hne).flag b, fun k hk => (hg k hk).imp id (fun z => Nat.le_trans hwT.size z), ?_⟩
  exact (((OffF.of hwT).trans ho).setNew (.inl heb) 0 x).setNew (.inr (.inl rfl)) 6 (.bool b)
set_option maxHeartbeats 8000000 in
theorem append_any (j p kb mb n : Nat) (d : DskV) (h : HdV) (lo : Option Addr) (lc : Nat) (l : List (List UInt8)) (s : List UInt8) (w : World)
    (H : JAt w j p kb mb n d h lo lc l false) (ho : d.off = false) (hp : d.pend = []) (hn : 8 ≤ n) (hh : h.half ≤ 1) (hnum : h.num < 255) (hsum : h.sum < 18446744073709551616)
    (hs20 : s.length ≤ 20000) (hroom : takenM l + (s.length + 16) ≤ limitM n) (hfit : 64 * firstM n h.half + h.len + (s.length + 2) + 64 ≤ 64 * n) :
    Calls Tryz.prog 40 #[.pointer (some ⟨j, 0, none⟩), strV s] w fun e w' =>
      (e = .returned (.int .i64 0) ∧ ∃ d' lo' lc', KeptAt n d h h [s] d' ∧ JAt w' j p kb mb n d' (nextM h h [s]) lo' lc' (l ++ [s]) false ∧ (∀ k, FJ j p kb mb lo' k → FJ j p kb mb lo k ∨ w.heap.size ≤ k) ∧ OffF (FJ j p kb mb lo) w w') ∨
      (e = .returned (.int .i64 ((131 : Nat) : Int)) ∧ d.left ≠ 0 ∧ ∃ d', CutAt n d h h [s] d' ∧ JAt w' j p kb mb n d' h lo lc l true ∧ OffF (FJ j p kb mb lo) w w') := by
  obtain ⟨w1, hw1, hA, hB, hb1⟩ := two_vars w 40 9 #[.pointer (some ⟨j, 0, none⟩)] #[strV s]
  have s1 : w1.heap.size = w.heap.size + 2 := by rw [← hw1]; simp
  have hjl := H.jnl.lt
  have H1 := H.later hb1
  have hbt := try_below w1 j 66 #[.pointer (some ⟨w.heap.size + 1, 0, none⟩), .pointer (some ⟨w.heap.size, 0, none⟩)]
  obtain ⟨t0, t1, t2⟩ := try_has w1 j 66 #[.pointer (some ⟨w.heap.size + 1, 0, none⟩), .pointer (some ⟨w.heap.size, 0, none⟩)]
  have ts := try_size w1 j 66 #[.pointer (some ⟨w.heap.size + 1, 0, none⟩), .pointer (some ⟨w.heap.size, 0, none⟩)]
  have hfl := H.lt
  have hnF : ∀ k, w.heap.size ≤ k → ¬ FJ j p kb mb lo k := fun k hk hf => by have := hfl k hf; omega
  obtain ⟨T, hT⟩ : ∃ T, tryW w1 j 66 #[.pointer (some ⟨w.heap.size + 1, 0, none⟩), .pointer (some ⟨w.heap.size, 0, none⟩)] = T := ⟨_, rfl⟩
  rw [hT] at hbt t0 t1 t2 ts
  have hwT := hb1.trans (hbt.mono hb1.size)
  have ho1 := append1_any j p kb mb n d h lo lc l s (w.heap.size + 1) w.heap.size T (hB.later hbt) (hA.later hbt) (H1.later hbt) ho hp hn hh hnum hsum hs20 hroom hfit (hnF _ (by omega)) (hnF _ (by omega))
  rw [← hT] at ho1
  have hat := attempt_any 66 #[.pointer (some ⟨w.heap.size + 1, 0, none⟩), .pointer (some ⟨w.heap.size, 0, none⟩)] (enters_append1 _) j w1 _ _ (by omega) ((H1.jnl.cell 6).trans rfl) ho1
    (fun v hv => by
      obtain ⟨d', lo', lc', _, Hv, _, hq⟩ := hv
      rw [hT] at hq
      exact ⟨hq.has t0 (hnF _ (by omega)), hq.has t2 (hnF _ (by omega)), ⟨_, (Hv.jnl.cell 6).trans rfl⟩, Hv.jnl.free 6⟩)
    (fun v hv => by
      obtain ⟨_, d', _, Hv, hq⟩ := hv
      rw [hT] at hq
      exact ⟨hq.has t0 (hnF _ (by omega)), hq.has t2 (hnF _ (by omega)), ⟨_, (Hv.jnl.cell 6).trans rfl⟩, Hv.jnl.free 6⟩)
  replace hat : Hid _ := hat
  have hz : Hid (Below w.heap.size w T ∧ T.heap.size = w1.heap.size + 3 ∧ w1.heap.size = w.heap.size + 2 ∧ (∀ k, FJ j p kb mb lo k → k < w.heap.size)) := ⟨hwT, ts, s1, hfl⟩
  have hT' : Hid _ := hT
  have hmf : ∀ (fn : Fn) (first cap : Array Value) (w : World), (Instr.makeFunc fn first cap).run Tryz.prog w = .ok (.func fn first cap) w := fun _ _ _ _ => rfl
  have c1 : w1.cell? ⟨w.heap.size, 0, none⟩ = some (.pointer (some ⟨j, 0, none⟩)) := hA.cell 0
  unfold strV at hw1
  unfold strV
  clear hA hB hb1 s1 hjl H H1 hbt ho1 t0 t1 t2 ts hfl hnF hwT hT
  go_enter Tryz.func40, Tryz.ntmps40
  go_wp2_with fail
  refine Calls.mono hat.out ?_
  rintro e w2 (⟨rfl, v, hv, rfl⟩ | ⟨rfl, v, hv, rfl⟩)
  · obtain ⟨d', lo', lc', hK, Hv, hg, hq⟩ := hv
    obtain ⟨hwT, ts, s1, hfl⟩ := hz.out
    rw [hT'.out] at hg hq
    obtain ⟨f1, f2, f3⟩ := call_end hwT (w1.heap.size + 2) (by omega) (by omega) hfl Hv hg hq (.int .i64 0) false
    replace f1 : Hid _ := f1
    replace f3 : Hid _ := f3
    clear hat hz hwT ts s1 hfl c1 hmf hw1 Hv hg hq
    go_wp2
    go_ret
    exact .inl ⟨rfl, d', lo', lc', hK, f1.out, f2, f3.out⟩
  · obtain ⟨hne, d', hK, Hv, hq⟩ := hv
    obtain ⟨hwT, ts, s1, hfl⟩ := hz.out
    rw [hT'.out] at hq
    obtain ⟨f1, f2, f3⟩ := call_end hwT (w1.heap.size + 2) (by omega) (by omega) hfl Hv (fun k hk => .inl hk) hq (.int .i64 ((131 : Nat) : Int)) true
    replace f1 : Hid _ := f1
    replace f3 : Hid _ := f3
    clear hat hz hwT ts s1 hfl c1 hmf hw1 Hv hq
    go_wp2
    go_ret
    exact .inr ⟨rfl, hne, d', hK, f1.out, f3.out⟩
end

section
set_option linter.unusedSimpArgs false
set_option linter.unusedVariables false
set_option maxRecDepth 100000
open Go.RowKit Go.MapKept

set_option maxHeartbeats 2000000 in
theorem open1_few (p kb mb n : Nat) (d : DskV) (bd bj : Nat) (w : World) (hd : Has w bd 28 #[.pointer (some ⟨p, 0, none⟩)]) (hD : DiskAt w p kb mb n d) (hn : n < 8) :
    Calls Tryz.prog 49 #[.pointer (some ⟨bd, 0, none⟩), .pointer (some ⟨bj, 0, none⟩)] w fun e w' => e = thrownJ 10 ∧ Below w.heap.size w w' := by
  have hle := dlen_any p kb mb n d w hD
  have d1 := hd.cell 0
  have hnD : decide ((8 : Int) ≤ (n : Int)) = false := decide_eq_false (by omega)
  replace hle : Hid _ := hle
  go_enter Tryz.func49, Tryz.ntmps49
  go_wp2_with fail
  refine Calls.mono hle.out ?_
  rintro e w0 ⟨rfl, h9⟩
  have h9' := h9.symm
  clear h9 hle
  subst h9'
  go_wp2_with (first
    | (go_at_call 33; refine (must_no 10 _).mono ?_; rintro e w9 ⟨rfl, h9⟩; have h9' := h9.symm; clear h9; subst h9'; unfold thrownJ)
    | fail)
  exact ⟨rfl, rfl, Below.refl _ _⟩
set_option maxHeartbeats 2000000 in
theorem open1_none (p kb mb n : Nat) (d : DskV) (h : HdV) (bd bj : Nat) (w : World) (hd : Has w bd 28 #[.pointer (some ⟨p, 0, none⟩)]) (hD : DiskAt w p kb mb n d) (ho : d.off = false) (hn : 8 ≤ n) (hN : ∀ k, k < 2 → isHd (writtenM d k) = true → (rdHd (writtenM d k)).num < 256) (hnew : newestTo (writtenM d) 2 = (h, false)) :
    Calls Tryz.prog 49 #[.pointer (some ⟨bd, 0, none⟩), .pointer (some ⟨bj, 0, none⟩)] w fun e w' => e = thrownJ 10 ∧ Below w.heap.size w w' := by
  have hle := dlen_any p kb mb n d w hD
  have hnw := newest_any p kb mb n d w hD ho (by omega) hN
  rw [hnew] at hnw
  have d1 := hd.cell 0
  have hnI : (8 : Int) ≤ (n : Int) := by omega
  replace hle : Hid _ := hle
  replace hnw : Hid _ := hnw
  clear hN hnew
  go_enter Tryz.func49, Tryz.ntmps49
  go_wp2_with fail
  refine Calls.mono hle.out ?_
  rintro e w0 ⟨rfl, h9⟩
  have h9' := h9.symm
  clear h9 hle
  subst h9'
  go_wp2_with (first
    | (go_at_call 33; refine (must_yes 10 _).mono ?_; rintro e w9 ⟨rfl, h9⟩; have h9' := h9.symm; clear h9; subst h9')
    | fail)
  refine Calls.mono hnw.out ?_
  rintro e w1 ⟨rfl, hq⟩
  clear hnw
  obtain ⟨w2, hw2, hT, hq2⟩ := new_var w1 73 (hdC hd0) (hdC h)
  have hb2 : Below w.heap.size w w2 := hq.trans (hq2.mono hq.size)
  clear hq hq2
  go_wp2_with (first
    | (refine wpList_alloc_has (by rfl) 73 rfl (hdC hd0) hd_zero ?_)
    | (refine wpList_store_to (by rfl) 73 _ _ rfl w1.heap.size rfl (hdC h) rfl 73 (hdC hd0) (hd_size _) rfl (hd_one _) ?hg w2 ?hW ?_; (case hg => exact Has.new _ _ _); (case hW => exact hw2); clear hw2)
    | (go_at_call 33; refine (must_no 10 _).mono ?_; rintro e w9 ⟨rfl, h9⟩; have h9' := h9.symm; clear h9; subst h9'; unfold thrownJ)
    | fail)
  exact ⟨rfl, rfl, hb2⟩
set_option maxHeartbeats 8000000 in
/-- Open, where its closure throws ErrForm. -/
theorem open_err (p kb mb n : Nat) (d : DskV) (w : World) (hD : DiskAt w p kb mb n d)
    (hO : ∀ (bd bj : Nat) (w' : World), Has w' bd 28 #[.pointer (some ⟨p, 0, none⟩)] → DiskAt w' p kb mb n d → Calls Tryz.prog 49 #[.pointer (some ⟨bd, 0, none⟩), .pointer (some ⟨bj, 0, none⟩)] w' fun e w'' => e = thrownJ 10 ∧ Below w'.heap.size w' w'') :
    Calls Tryz.prog 27 #[.pointer (some ⟨p, 0, none⟩)] w fun e w' => e = .returned (.tuple #[.pointer none, .slice none 0 0, .int .i64 10]) ∧ Below w.heap.size w w' := by
  obtain ⟨w0, hw0, hA, hJ, hV, hb0⟩ := three_vars w 28 75 40 #[.pointer (some ⟨p, 0, none⟩)] (jnlC p hd0 none 0 0 false) #[.pointer none]
  have hV1 := hV.set 0 (.pointer (some ⟨w.heap.size + 1, 0, none⟩))
  have hA1 := hA.set_other (a := ⟨w.heap.size + 1 + 1, 0, none⟩) (show w.heap.size ≠ w.heap.size + 1 + 1 by omega) (.pointer (some ⟨w.heap.size + 1, 0, none⟩))
  have hJ1 := hJ.set_other (a := ⟨w.heap.size + 1 + 1, 0, none⟩) (show w.heap.size + 1 ≠ w.heap.size + 1 + 1 by omega) (.pointer (some ⟨w.heap.size + 1, 0, none⟩))
  have hb1 := hb0.setCell (p := ⟨w.heap.size + 1 + 1, 0, none⟩) (show w.heap.size ≤ w.heap.size + 1 + 1 by omega) (.pointer (some ⟨w.heap.size + 1, 0, none⟩))
  have s0 : w0.heap.size = w.heap.size + 3 := by rw [← hw0]; simp
  obtain ⟨w1, hw1⟩ : ∃ W, w0.setCell ⟨w.heap.size + 1 + 1, 0, none⟩ (.pointer (some ⟨w.heap.size + 1, 0, none⟩)) = W := ⟨_, rfl⟩
  have s1 : w1.heap.size = w.heap.size + 3 := by rw [← hw1, ← s0]; simp
  rw [hw1] at hV1 hA1 hJ1 hb1
  have c0 : w0.cell? ⟨w.heap.size + 1 + 1, 0, none⟩ = some (.pointer none) := hV.cell 0
  have z0 := hV.free 0
  replace hV1 : Has w1 (w.heap.size + 1 + 1) 40 #[.pointer (some ⟨w.heap.size + 1, 0, none⟩)] := hV1
  have hD1 := hD.later hb1
  have hbt := try_below w1 (w.heap.size + 1) 49 #[.pointer (some ⟨w.heap.size, 0, none⟩), .pointer (some ⟨w.heap.size + 1 + 1, 0, none⟩)]
  have ho1 := hO w.heap.size (w.heap.size + 1 + 1) _ (hA1.later hbt) (hD1.later hbt)
  obtain ⟨t0, t1, t2⟩ := try_has w1 (w.heap.size + 1) 49 #[.pointer (some ⟨w.heap.size, 0, none⟩), .pointer (some ⟨w.heap.size + 1 + 1, 0, none⟩)]
  have ts := try_size w1 (w.heap.size + 1) 49 #[.pointer (some ⟨w.heap.size, 0, none⟩), .pointer (some ⟨w.heap.size + 1 + 1, 0, none⟩)]
  have hat := attempt_err 10 false (by decide) 49 #[.pointer (some ⟨w.heap.size, 0, none⟩), .pointer (some ⟨w.heap.size + 1 + 1, 0, none⟩)] (enters_open1 _) (w.heap.size + 1) w1 _ (by omega) ((hJ1.cell 6).trans rfl) ho1 (fun v hv => by
    have hJv := (hJ1.later hbt).later hv
    exact ⟨t0.later hv, t2.later hv, ⟨_, (hJv.cell 6).trans rfl⟩, hJv.free 6⟩)
  replace hat : Hid _ := hat
  have hts : Hid ((tryW w1 (w.heap.size + 1) 49 #[.pointer (some ⟨w.heap.size, 0, none⟩), .pointer (some ⟨w.heap.size + 1 + 1, 0, none⟩)]).heap.size = w1.heap.size + 3) := ts
  have hz : Hid (Has w1 (w.heap.size + 1 + 1) 40 #[.pointer (some ⟨w.heap.size + 1, 0, none⟩)] ∧ Below w.heap.size w w1 ∧ w1.heap.size = w.heap.size + 3) := ⟨hV1, hb1, s1⟩
  have hmf : ∀ (fn : Fn) (first cap : Array Value) (w : World), (Instr.makeFunc fn first cap).run Tryz.prog w = .ok (.func fn first cap) w := fun _ _ _ _ => rfl
  have cA := (hA.cell 0)
  have c1 := hV1.cell 0
  replace cA : w0.cell? ⟨w.heap.size, 0, none⟩ = some (.pointer (some ⟨p, 0, none⟩)) := cA
  clear hA hJ hV hb0 hA1 hJ1 hb1 hV1 hD hD1 hbt ho1 t0 t1 t2 ts s0 s1 hO
  go_enter Tryz.func27, Tryz.ntmps27
  go_wp2_with (first
    | (refine wpList_build_has (by rfl) 75 #[(0, _)] rfl (jnlC p hd0 none 0 0 false) (by simpa using jnl_built p) ?_)
    | (refine Go.Great.wpList_boxTo rfl 75 _ rfl _ rfl (w.heap.size + 1) (by simp) (jnlC p hd0 none 0 0 false) rfl ?_)
    | fail)
  refine Calls.mono hat.out ?_
  rintro e w2 ⟨rfl, v, hbv, rfl⟩
  obtain ⟨hV1, hb1, s1⟩ := hz.out
  have hbt := try_below w1 (w.heap.size + 1) 49 #[.pointer (some ⟨w.heap.size, 0, none⟩), .pointer (some ⟨w.heap.size + 1 + 1, 0, none⟩)]
  have hBv : Below w.heap.size w v := (hb1.trans (hbt.mono hb1.size)).trans (hbv.mono (by have := hts.out; omega))
  have hBw := (hBv.setCell (p := ⟨w1.heap.size + 2, 0, none⟩) (show w.heap.size ≤ w1.heap.size + 2 by omega) (.int .i64 ((10 : Nat) : Int))).setCell (p := ⟨w.heap.size + 1, 6, none⟩) (show w.heap.size ≤ w.heap.size + 1 by omega) (.bool false)
  obtain ⟨x, hx⟩ : ∃ W, (v.setCell ⟨w1.heap.size + 2, 0, none⟩ (.int .i64 ((10 : Nat) : Int))).setCell ⟨w.heap.size + 1, 6, none⟩ (.bool false) = W := ⟨_, rfl⟩
  rw [hx] at hBw ⊢
  clear hat hz hts hbt hbv hBv hx s1 hb1 hV1 c0 z0 c1 cA hmf hw0
  go_wp2
  go_ret3
  exact ⟨rfl, hBw⟩
end

section
set_option linter.unusedSimpArgs false
set_option linter.unusedVariables false
set_option maxRecDepth 100000
open Go.RowKit Go.MapKept

theorem enters_format1 (caps : Array Value) : Enters 32 caps := fun w => by kernel_rfl
set_option maxHeartbeats 2000000 in
theorem format1_few (p kb mb n : Nat) (d : DskV) (bd bj : Nat) (w : World) (hd : Has w bd 28 #[.pointer (some ⟨p, 0, none⟩)]) (hD : DiskAt w p kb mb n d) (hn : n < 8) :
    Calls Tryz.prog 32 #[.pointer (some ⟨bd, 0, none⟩), .pointer (some ⟨bj, 0, none⟩)] w fun e w' => e = thrownJ 140 ∧ Below w.heap.size w w' := by
  have hle := dlen_any p kb mb n d w hD
  have d1 := hd.cell 0
  have hnD : decide ((8 : Int) ≤ (n : Int)) = false := decide_eq_false (by omega)
  replace hle : Hid _ := hle
  go_enter Tryz.func32, Tryz.ntmps32
  go_wp2_with fail
  refine Calls.mono hle.out ?_
  rintro e w0 ⟨rfl, h9⟩
  have h9' := h9.symm
  clear h9 hle
  subst h9'
  go_wp2_with (first
    | (go_at_call 33; refine (must_no 140 _).mono ?_; rintro e w9 ⟨rfl, h9⟩; have h9' := h9.symm; clear h9; subst h9'; unfold thrownJ)
    | fail)
  exact ⟨rfl, rfl, Below.refl _ _⟩
set_option maxHeartbeats 8000000 in
/-- Format, where its closure throws ErrRoom. -/
theorem format_err (p kb mb n : Nat) (d : DskV) (w : World) (hD : DiskAt w p kb mb n d)
    (hO : ∀ (bd bj : Nat) (w' : World), Has w' bd 28 #[.pointer (some ⟨p, 0, none⟩)] → DiskAt w' p kb mb n d → Calls Tryz.prog 32 #[.pointer (some ⟨bd, 0, none⟩), .pointer (some ⟨bj, 0, none⟩)] w' fun e w'' => e = thrownJ 140 ∧ Below w'.heap.size w' w'') :
    Calls Tryz.prog 15 #[.pointer (some ⟨p, 0, none⟩)] w fun e w' => e = .returned (.tuple #[.pointer none, .int .i64 140]) ∧ Below w.heap.size w w' := by
  obtain ⟨w0, hw0, hA, hJ, hV, hb0⟩ := three_vars w 28 75 40 #[.pointer (some ⟨p, 0, none⟩)] (jnlC p hd0 none 0 0 false) #[.pointer none]
  have hV1 := hV.set 0 (.pointer (some ⟨w.heap.size + 1, 0, none⟩))
  have hA1 := hA.set_other (a := ⟨w.heap.size + 1 + 1, 0, none⟩) (show w.heap.size ≠ w.heap.size + 1 + 1 by omega) (.pointer (some ⟨w.heap.size + 1, 0, none⟩))
  have hJ1 := hJ.set_other (a := ⟨w.heap.size + 1 + 1, 0, none⟩) (show w.heap.size + 1 ≠ w.heap.size + 1 + 1 by omega) (.pointer (some ⟨w.heap.size + 1, 0, none⟩))
  have hb1 := hb0.setCell (p := ⟨w.heap.size + 1 + 1, 0, none⟩) (show w.heap.size ≤ w.heap.size + 1 + 1 by omega) (.pointer (some ⟨w.heap.size + 1, 0, none⟩))
  have s0 : w0.heap.size = w.heap.size + 3 := by rw [← hw0]; simp
  obtain ⟨w1, hw1⟩ : ∃ W, w0.setCell ⟨w.heap.size + 1 + 1, 0, none⟩ (.pointer (some ⟨w.heap.size + 1, 0, none⟩)) = W := ⟨_, rfl⟩
  have s1 : w1.heap.size = w.heap.size + 3 := by rw [← hw1, ← s0]; simp
  rw [hw1] at hV1 hA1 hJ1 hb1
  have c0 : w0.cell? ⟨w.heap.size + 1 + 1, 0, none⟩ = some (.pointer none) := hV.cell 0
  have z0 := hV.free 0
  replace hV1 : Has w1 (w.heap.size + 1 + 1) 40 #[.pointer (some ⟨w.heap.size + 1, 0, none⟩)] := hV1
  have hD1 := hD.later hb1
  have hbt := try_below w1 (w.heap.size + 1) 32 #[.pointer (some ⟨w.heap.size, 0, none⟩), .pointer (some ⟨w.heap.size + 1 + 1, 0, none⟩)]
  have ho1 := hO w.heap.size (w.heap.size + 1 + 1) _ (hA1.later hbt) (hD1.later hbt)
  obtain ⟨t0, t1, t2⟩ := try_has w1 (w.heap.size + 1) 32 #[.pointer (some ⟨w.heap.size, 0, none⟩), .pointer (some ⟨w.heap.size + 1 + 1, 0, none⟩)]
  have ts := try_size w1 (w.heap.size + 1) 32 #[.pointer (some ⟨w.heap.size, 0, none⟩), .pointer (some ⟨w.heap.size + 1 + 1, 0, none⟩)]
  have hat := attempt_err 140 false (by decide) 32 #[.pointer (some ⟨w.heap.size, 0, none⟩), .pointer (some ⟨w.heap.size + 1 + 1, 0, none⟩)] (enters_format1 _) (w.heap.size + 1) w1 _ (by omega) ((hJ1.cell 6).trans rfl) ho1 (fun v hv => by
    have hJv := (hJ1.later hbt).later hv
    exact ⟨t0.later hv, t2.later hv, ⟨_, (hJv.cell 6).trans rfl⟩, hJv.free 6⟩)
  replace hat : Hid _ := hat
  have hts : Hid ((tryW w1 (w.heap.size + 1) 32 #[.pointer (some ⟨w.heap.size, 0, none⟩), .pointer (some ⟨w.heap.size + 1 + 1, 0, none⟩)]).heap.size = w1.heap.size + 3) := ts
  have hz : Hid (Has w1 (w.heap.size + 1 + 1) 40 #[.pointer (some ⟨w.heap.size + 1, 0, none⟩)] ∧ Below w.heap.size w w1 ∧ w1.heap.size = w.heap.size + 3) := ⟨hV1, hb1, s1⟩
  have hmf : ∀ (fn : Fn) (first cap : Array Value) (w : World), (Instr.makeFunc fn first cap).run Tryz.prog w = .ok (.func fn first cap) w := fun _ _ _ _ => rfl
  have cA := (hA.cell 0)
  have c1 := hV1.cell 0
  replace cA : w0.cell? ⟨w.heap.size, 0, none⟩ = some (.pointer (some ⟨p, 0, none⟩)) := cA
  clear hA hJ hV hb0 hA1 hJ1 hb1 hV1 hD hD1 hbt ho1 t0 t1 t2 ts s0 s1 hO
  go_enter Tryz.func15, Tryz.ntmps15
  go_wp2_with (first
    | (refine wpList_build_has (by rfl) 75 #[(0, _)] rfl (jnlC p hd0 none 0 0 false) (by simpa using jnl_built p) ?_)
    | (refine Go.Great.wpList_boxTo rfl 75 _ rfl _ rfl (w.heap.size + 1) (by simp) (jnlC p hd0 none 0 0 false) rfl ?_)
    | fail)
  refine Calls.mono hat.out ?_
  rintro e w2 ⟨rfl, v, hbv, rfl⟩
  obtain ⟨hV1, hb1, s1⟩ := hz.out
  have hbt := try_below w1 (w.heap.size + 1) 32 #[.pointer (some ⟨w.heap.size, 0, none⟩), .pointer (some ⟨w.heap.size + 1 + 1, 0, none⟩)]
  have hBv : Below w.heap.size w v := (hb1.trans (hbt.mono hb1.size)).trans (hbv.mono (by have := hts.out; omega))
  have hBw := (hBv.setCell (p := ⟨w1.heap.size + 2, 0, none⟩) (show w.heap.size ≤ w1.heap.size + 2 by omega) (.int .i64 ((140 : Nat) : Int))).setCell (p := ⟨w.heap.size + 1, 6, none⟩) (show w.heap.size ≤ w.heap.size + 1 by omega) (.bool false)
  obtain ⟨x, hx⟩ : ∃ W, (v.setCell ⟨w1.heap.size + 2, 0, none⟩ (.int .i64 ((140 : Nat) : Int))).setCell ⟨w.heap.size + 1, 6, none⟩ (.bool false) = W := ⟨_, rfl⟩
  rw [hx] at hBw ⊢
  clear hat hz hts hbt hbv hBv hx s1 hb1 hV1 c0 z0 c1 cA hmf hw0
  go_wp2
  go_ret2
  exact ⟨rfl, hBw⟩
end
end Go.Proofs.YtpnpjblohijajabGreat
