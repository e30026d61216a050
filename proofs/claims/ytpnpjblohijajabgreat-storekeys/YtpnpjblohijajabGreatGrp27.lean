/- JnlKeep, JnlAt, joined. -/
import Derived.Test.YtpnpjblohijajabGreatGrp22
import Derived.Test.YtpnpjblohijajabGreatGrp26
import Derived.Test.YtpnpjblohijajabGreatGrp9
namespace Go.Proofs.YtpnpjblohijajabGreat
section
set_option linter.unusedSimpArgs false
set_option linter.unusedVariables false
set_option maxRecDepth 100000
open Go.RowKit Go.MapKept

/-- The header that keep writes. -/
def nextM (h f : HdV) (l : List (List UInt8)) : HdV := ⟨h.num + 1, f.half, f.len + (sheetB l).length, sumM f.sum l⟩
/-- What is laid ahead of it, and where. -/
def layB (d : DskV) (n : Nat) (f : HdV) (l : List (List UInt8)) : List UInt8 := (sec d.dat (firstM n f.half + f.len / 64)).take (f.len % 64) ++ sheetB l
def layI (n : Nat) (f : HdV) : Nat := firstM n f.half + f.len / 64
def slotP (D : List UInt8) (h : HdV) : PendL := [(h.num % 2, hdB h ++ (sec D (h.num % 2)).drop 44)]
/-- A keep that the power cut off. -/
structure CutAt (n : Nat) (d : DskV) (h f : HdV) (l : List (List UInt8)) (d' : DskV) : Prop where
  off : d'.off = true
  way : (d'.dat = d.dat ∧ ∃ k, k ≤ chunkN (layB d n f l) ∧ d'.pend = layP d.dat (layB d n f l) (layI n f) k) ∨
    (Full n d.dat (layP d.dat (layB d n f l) (layI n f) (chunkN (layB d n f l))) d'.dat ∧ (d'.pend = [] ∨ d'.pend = slotP d'.dat (nextM h f l)))
/-- A keep that came to its end. -/
structure KeptAt (n : Nat) (d : DskV) (h f : HdV) (l : List (List UInt8)) (d' : DskV) : Prop where
  off : d'.off = false
  pend : d'.pend = []
  left : d'.left ≤ d.left
  way : ∃ D1, Full n d.dat (layP d.dat (layB d n f l) (layI n f) (chunkN (layB d n f l))) D1 ∧ Full n D1 (slotP D1 (nextM h f l)) d'.dat
theorem step_off {d : DskV} (ho : d.off = false) (h : (stepM d).off = true) : d.left ≠ 0 := by
  intro hz
  unfold stepM at h
  rw [if_pos hz, ho] at h
  cases h
theorem step_left (d : DskV) : (stepM d).left ≤ d.left := by
  unfold stepM
  split
  · exact Nat.le_refl _
  · show d.left - 1 ≤ d.left; omega
theorem jflush_any (p kb mb n : Nat) (d : DskV) (w : World) (h : DiskAt w p kb mb n d) :
    Calls Tryz.prog 62 #[.pointer (some ⟨p, 0, none⟩)] w fun e w' => (e = .returned (.tuple #[]) ∧ ∃ E l, l ≤ d.left ∧ Full n d.dat d.pend E ∧ DiskAt w' p kb mb n ⟨E, [], l, false⟩ ∧ OffF (DF p kb mb) w w') ∨
      (e = thrownJ 131 ∧ (stepM d).off = true ∧ DiskAt w' p kb mb n (stepM d) ∧ OffF (DF p kb mb) w w') := by
  cases ho : (stepM d).off with
  | true =>
    refine (jflush_off p kb mb n d w h ho).mono ?_
    rintro e w' ⟨rfl, h1, h2⟩
    exact .inr ⟨rfl, rfl, h1, (OffF.but h2).more (fun x hx => .inl hx)⟩
  | false =>
    refine (jflush_on p kb mb n d w h ho).mono ?_
    rintro e w' ⟨rfl, E, hF, h1, h2⟩
    exact .inl ⟨rfl, E, _, step_left d, hF, h1, h2⟩
theorem jwrite_any (p kb mb n i : Nat) (ao : Option Addr) (k c : Nat) (xs : List UInt8) (d : DskV) (w : World) (h : DiskAt w p kb mb n d) (hi : i < n) (hB : By w ao c xs) (hk : k = xs.length) (hk64 : k ≤ 64) (hnp : ∀ ad, ao = some ad → ad.block ≠ p) (hlt : ∀ ad, ao = some ad → ad.block < w.heap.size) (hf : findP d.pend i = none) :
    Calls Tryz.prog 63 #[.pointer (some ⟨p, 0, none⟩), .int .i64 (i : Nat), .slice ao k c] w fun e w' => (e = .returned (.tuple #[]) ∧ ∃ l, l ≤ d.left ∧ DiskAt w' p kb mb n ⟨d.dat, d.pend ++ [(i, overB (sec d.dat i) 0 xs)], l, false⟩ ∧ OffF (DF p kb mb) w w') ∨
      (e = thrownJ 131 ∧ (stepM d).off = true ∧ DiskAt w' p kb mb n (stepM d) ∧ OffF (DF p kb mb) w w') := by
  cases ho : (stepM d).off with
  | true =>
    refine (jwrite_off p kb mb n i ao k c d w h ho).mono ?_
    rintro e w' ⟨rfl, h1, h2⟩
    exact .inr ⟨rfl, rfl, h1, (OffF.but h2).more (fun x hx => .inl hx)⟩
  | false =>
    refine (jwrite_on p kb mb n i ao k c xs d w h ho hi hB hk hk64 hnp hlt hf).mono ?_
    rintro e w' ⟨rfl, h1, h2⟩
    exact .inl ⟨rfl, _, step_left d, h1, h2⟩
/-- What a keep that was cut off leaves. -/
def CutX (w : World) (j p kb mb n : Nat) (d : DskV) (h f : HdV) (l : List (List UInt8)) (ro : Option Addr) (rn rc : Nat) (br : Bool) (W : World) : Prop :=
  d.left ≠ 0 ∧ ∃ d', CutAt n d h f l d' ∧ DiskAt W p kb mb n d' ∧ Has W j 75 (jnlC p h ro rn rc br) ∧ OffF (fun k => k = j ∨ DF p kb mb k) w W
set_option maxHeartbeats 8000000 in
theorem keep_any (j p kb mb n : Nat) (d : DskV) (h f : HdV) (ro : Option Addr) (rn rc : Nat) (br : Bool) (ao : Option Addr) (c : Nat) (l : List (List UInt8)) (w : World)
    (hJ : Has w j 75 (jnlC p h ro rn rc br)) (hD : DiskAt w p kb mb n d) (ho : d.off = false) (hp : d.pend = []) (hn : 8 ≤ n) (hh : f.half ≤ 1) (hnum : h.num < 255) (hsum : f.sum < 18446744073709551616)
    (hS : Strs w ao c l) (hlt : ∀ ad, ao = some ad → ad.block < w.heap.size ∧ ad.block ≠ j ∧ ¬ DF p kb mb ad.block) (hjF : ¬ DF p kb mb j) (hl : ∀ r ∈ l, r.length ≤ 20000) (hfit : 64 * firstM n f.half + f.len + (sheetB l).length + 64 ≤ 64 * n) :
    Calls Tryz.prog 35 #[.pointer (some ⟨j, 0, none⟩), .agg (hdC f), .slice ao l.length c] w fun e w' =>
      (e = .returned (.tuple #[]) ∧ ∃ d', KeptAt n d h f l d' ∧ DiskAt w' p kb mb n d' ∧ Has w' j 75 (jnlC p (nextM h f l) ro rn rc br) ∧ OffF (fun k => k = j ∨ DF p kb mb k) w w') ∨
      (e = thrownJ 131 ∧ CutX w j p kb mb n d h f l ro rn rc br w') := by
  have hn1 := hD.n1
  obtain ⟨w1, hw1, hX, hb1⟩ := one_var w 73 (hdC f)
  have s1 : w1.heap.size = w.heap.size + 1 := by rw [← hw1]; simp
  obtain ⟨w2, hw2, hY, hq2⟩ := new_var w1 73 (hdC hd0) (hdC f)
  have s2 : w1.heap.size < w2.heap.size := hY.lt
  have hX2 := hX.later hq2
  have hb2 := hb1.trans (hq2.mono hb1.size)
  obtain ⟨lp1, lp2, lp3⟩ := hD.lp
  have hjl := hJ.lt
  have hle := hS.le
  have hcap := hS.cap
  obtain ⟨L, hL⟩ : ∃ L, l.length = L := ⟨_, rfl⟩
  rw [hL] at hle ⊢
  have hlb : (sheetB l).length ≤ 1000000 := by omega
  have hflen : f.len ≤ 1000000 := by omega
  have hwith : ∀ k, k < l.length → ∀ W, ∃ r, l[k]? = some r ∧ Calls Tryz.prog 59 #[.agg (hdC (withAll f (l.take k))), strV r] W fun e w' => e = .returned (.agg (hdC (withAll f (l.take (k + 1))))) ∧ Below W.heap.size W w' := fun k hk W => by
    refine ⟨l[k], List.getElem?_eq_getElem hk, ?_⟩
    have e1 : withAll f (l.take (k + 1)) = withM (withAll f (l.take k)) l[k] := by
      unfold withAll
      rw [List.take_succ_eq_append_getElem hk, List.foldl_append]
      rfl
    rw [e1]
    have e2 := with_all (l.take k) f
    have e3 := sheet_le l k
    refine with_any _ _ W ?_ ?_ ?_
    · rw [e2]; show f.len + _ ≤ _; omega
    · have := hl _ (List.getElem_mem hk); omega
    · rw [e2]; exact sum_lt _ _ hsum
  replace hL : Hid _ := hL
  replace hwith : Hid _ := hwith
  clear hq2
  replace hlb : Hid _ := hlb
  replace hflen : Hid _ := hflen
  replace hfit : Hid _ := hfit
  replace hl : Hid _ := hl
  have hXk : Has w1 w.heap.size 73 (hdC f) := hX
  clear hX
  go_enter Tryz.func35, Tryz.ntmps35
  go_wp2_with (first
    | (refine Go.Great.wpList_boxTo rfl 73 _ rfl _ rfl w.heap.size rfl (hdC f) rfl ?_; rw [hw1]; clear hw1)
    | (refine wpList_load_has (by rfl) 73 _ rfl w.heap.size rfl 73 (hdC f) _ Tryz.underlying73 rfl (hd_size _) ?hg ?_; (case hg => exact hXk))
    | (refine wpList_alloc_has (by rfl) 73 rfl (hdC hd0) hd_zero ?_)
    | (refine wpList_store_to (by rfl) 73 _ _ rfl w1.heap.size rfl (hdC f) rfl 73 (hdC hd0) (hd_size _) rfl (hd_one _) ?hg w2 ?hW ?_; (case hg => exact Has.new _ _ _); (case hW => exact hw2); clear hw2)
    | fail)
  rw [s1] at hY s2
  clear hXk
  go_loopw [12] (fun iv wr => ∃ k, k ≤ L ∧ iv = .int .i64 (k : Nat) ∧ Has wr (w.heap.size + 1) 73 (hdC (withAll f (l.take k))) ∧ Has wr w.heap.size 73 (hdC f) ∧ Below w.heap.size w wr ∧ w.heap.size + 1 < wr.heap.size) (fun iv _ => L - (intOf iv).toNat)
  case atStart => exact ⟨0, Nat.zero_le _, rfl, hY, hX2, hb2, s2⟩
  case round =>
    clear hY hX2 hb2 s2
    obtain ⟨k, hk, rfl, hY, hX, hb, hsz⟩ := hrel
    by_cases hkL : k < L
    · have hkl : k < l.length := by rw [hL.out]; exact hkL
      cases ao with
      | none => have := hS.nil rfl; omega
      | some ad =>
        have hS2 := hS.same (b := wr) (fun ad' had => hb.block _ (hlt ad' had).1)
        have hc := hS2.cell ad rfl k hkl
        obtain ⟨r, hr, hw⟩ := hwith.out k hkl wr
        rw [List.getElem?_eq_getElem hkl] at hr
        injection hr with hr
        rw [hr] at hc
        unfold strV at hc hw
        obtain ⟨H1, hH1⟩ : ∃ H, withAll f (l.take k) = H := ⟨_, rfl⟩
        obtain ⟨H2, hH2⟩ : ∃ H, withAll f (l.take (k + 1)) = H := ⟨_, rfl⟩
        rw [hH1] at hY hw
        rw [hH2] at hw
        have hltI : (k : Int) < (L : Int) := by omega
        replace hw : Hid _ := hw
        have hH2' : Hid _ := hH2
        have hY' : Hid _ := hY
        have hX' : Hid _ := hX
        clear hS2 hr hH1 hH2 hkl
        go_wp2_with (first
          | (refine wpList_load_has (by rfl) 73 _ rfl (w.heap.size + 1) rfl 73 (hdC H1) _ Tryz.underlying73 rfl (hd_size _) ?hg ?_; (case hg => exact hY))
          | fail)
        refine Calls.mono hw.out ?_
        rintro e w5 ⟨rfl, hq⟩
        have hsw : w.heap.size ≤ wr.heap.size := hb.size
        have hY5 := Has.later hY'.out hq
        have hX5 := Has.later hX'.out hq
        have hb5 := hb.trans (hq.mono hsw)
        have hs5 : w.heap.size + 1 < w5.heap.size := Nat.lt_of_lt_of_le hsz hq.size
        have hY6 := hY5.row (hdC H2)
        have hX6 := hX5.row_other (show w.heap.size ≠ w.heap.size + 1 by omega) (hdC H2)
        have hb6 := below_setRow hb5 (show w.heap.size ≤ w.heap.size + 1 by omega) (hdC H2)
        obtain ⟨w6, hw6⟩ : ∃ W, w5.setRow (w.heap.size + 1) (hdC H2) = W := ⟨_, rfl⟩
        rw [hw6] at hY6 hX6 hb6
        have hs6 : w.heap.size + 1 < w6.heap.size := hY6.lt
        clear hw hY hY' hX' hq hb hX5 hb5
        go_wp2_with (first
          | (refine wpList_store_to (by rfl) 73 _ _ rfl (w.heap.size + 1) rfl (hdC H2) rfl 73 (hdC H1) (hd_size _) rfl (hd_one _) ?hg w6 ?hW ?_; (case hg => exact hY5); (case hW => exact hw6); clear hw6 hY5)
          | fail)
        go_roundw
        case rel => exact ⟨k + 1, by omega, by go_num, by rw [hH2'.out]; exact hY6, hX6, hb6, hs6⟩
        case measure => simp [intOf]; omega
    · have hkL' : k = L := by omega
      subst hkL'
      rw [← hL.out, List.take_length, with_all] at hY
      have hJr := hJ.later hb
      have hDr := hD.later hb
      have hSr := hS.later hb
      have hY8 := hY.set 0 (.int .u64 ((h.num + 1 : Nat) : Int))
      rw [hset_num] at hY8
      have hbt : But (w.heap.size + 1) wr (wr.setCell ⟨w.heap.size + 1, 0, none⟩ (.int .u64 ((h.num + 1 : Nat) : Int))) := but_cell wr 0 _
      have hX8 := hbt.has hX (by omega)
      have hJ8 := hbt.has hJr (by omega)
      have hD8 := hDr.offs (OffF.but hbt) (by omega) (by omega) (by omega)
      have hS8 := hSr.same (fun ad had => hbt.block _ (Nat.lt_of_lt_of_le (hlt ad had).1 hb.size) (by have := (hlt ad had).1; omega))
      have hb8 := hb.setCell (p := ⟨w.heap.size + 1, 0, none⟩) (show w.heap.size ≤ w.heap.size + 1 by omega) (.int .u64 ((h.num + 1 : Nat) : Int))
      have cN : wr.cell? ⟨j, 1, none⟩ = some (.int .u64 (h.num : Int)) := (hJr.cell 1).trans rfl
      have cY : wr.cell? ⟨w.heap.size + 1, 0, none⟩ = some (.int .u64 (f.num : Int)) := hY.hd_num
      have zY := hY.free 0
      have hNx : Hid ((⟨h.num + 1, f.half, f.len + (sheetB l).length, sumM f.sum l⟩ : HdV) = nextM h f l) := rfl
      rw [hNx.out] at hY8
      obtain ⟨N0, hN0⟩ : ∃ N, h.num = N := ⟨_, rfl⟩
      rw [hN0] at cN hY8 hX8 hJ8 hD8 hS8 hb8 hnum
      have e1 : IntKind.u64.wrap ((N0 : Int) + 1) = (N0 : Int) + 1 := by rw [IntKind.wrap_u64]; omega
      have e2 : (((N0 + 1 : Nat) : Int)) = (N0 : Int) + 1 := by omega
      rw [e2] at hY8 hX8 hJ8 hD8 hS8 hb8
      obtain ⟨w8, hw8⟩ : ∃ W, wr.setCell ⟨w.heap.size + 1, 0, none⟩ (.int .u64 ((N0 : Int) + 1)) = W := ⟨_, rfl⟩
      rw [hw8] at hY8 hX8 hJ8 hD8 hS8 hb8
      have hw8s : w.heap.size + 1 < w8.heap.size := hY8.lt
      replace hN0 : Hid _ := hN0
      clear hbt hY hX hb hJr hDr hSr hwith e2
      go_wp2_with fail
      have hnX : ¬ DF p kb mb w.heap.size := fun hf => by rcases hf with z | z | z <;> omega
      have hnY : ¬ DF p kb mb (w.heap.size + 1) := fun hf => by rcases hf with z | z | z <;> omega
      have o8 : OffF (DF p kb mb) w w8.drew := OffF.of hb8.drew
      have hX9 := hX8.drew
      have hY9 := hY8.drew
      have hJ9 := hJ8.drew
      have hD9 := hD8.drew
      have hS9 : Strs w8.drew ao c l := hS8.later (Below.refl _ _).drew
      have hlt9 : ∀ ad, ao = some ad → ad.block < w8.drew.heap.size := fun ad had => by
        have := (hlt ad had).1
        show ad.block < w8.heap.size
        omega
      have hsh := sheetOf_any ao c l w8.drew hS9 hlt9 hlb.out (fun r hr => by have := hl.out r hr; omega)
      rw [hL.out] at hsh
      have hsz9 : w.heap.size + 1 < w8.drew.heap.size := hw8s
      replace hsh : Hid _ := hsh
      refine wp_region_plan_p (fun W => OffF (DF p kb mb) w8.drew W) (Plan.of [(0, true), (1, true), (2, true), (3, true), (4, true), (5, true), (6, false), (7, false)] .done) (fun ch W => ch = [{ v := .iface 25 (.int .i64 131), recovered := false }] ∧ CutX w j p kb mb n d h f l ro rn rc br W) (by kernel_rfl) (by kernel_rfl) (by kernel_rfl) (by kernel_rfl) (OffF.of (Below.refl _ _)) ?_ ?_
      · rintro ch a' w' ⟨rfl, hx⟩ hd
        exact ⟨hd, .inr ⟨rfl, hx⟩⟩
      generalize w8.drew = w9 at *
      clear hX8 hY8 hJ8 hD8 hS8 hb8 hw8 hw8s cN cY zY e1
      iterate 3
        first
          | (refine plan_pass _ rfl (by rfl) ?_)
          | (refine plan_take _ _ rfl (.inl ⟨by rfl, fun W hS => by clear hS; go_simp; try with_reducible rfl⟩) ?_)
        try simp only [Act.put, List.setIfInBounds_toArray, List.set_cons_zero, List.set_cons_succ]
      iterate 1
        first
          | (refine plan_pass _ rfl (by rfl) ?_)
          | (refine plan_take _ _ rfl (.inl ⟨by rfl, fun W hS => by have z : W.cell? ⟨j, 0, none⟩ = some (.pointer (some ⟨p, 0, none⟩)) := ((hS.has hJ9 hjF).cell 0).trans rfl; go_simp; try with_reducible rfl⟩) ?_)
        try simp only [Act.put, List.setIfInBounds_toArray, List.set_cons_zero, List.set_cons_succ]
      refine plan_take _ _ rfl (yields_load_has (by rfl) 73 _ rfl w.heap.size rfl 73 (hdC f) _ Tryz.underlying73 rfl (hd_size _) (fun W hS => hS.has hX9 hnX)) ?_
      try simp only [Act.put, List.setIfInBounds_toArray, List.set_cons_zero, List.set_cons_succ]
      iterate 1
        first
          | (refine plan_pass _ rfl (by rfl) ?_)
          | (refine plan_take _ _ rfl (.inl ⟨by rfl, fun W hS => by clear hS; go_simp; try with_reducible rfl⟩) ?_)
        try simp only [Act.put, List.setIfInBounds_toArray, List.set_cons_zero, List.set_cons_succ]
      refine plan_run _ rfl (fun K' hK' => ?_)
      go_simp
      refine Calls.mono hsh.out ?_
      rintro e w10 ⟨bo, bc, rfl, hown, hBB, hq10⟩
      refine hK'.out _ _ (OffF.of hq10) ?_
      clear hK' K' hsh
      try simp only [Act.put, List.setIfInBounds_toArray, List.set_cons_zero, List.set_cons_succ]
      have hfar : ∀ ad, bo = some ad → ad.block < w10.heap.size := fun ad had => (own_far hown rfl ad had).2
      have hly := lay_any p kb mb n d f bo bc (sheetB l) w10 (hD9.later hq10) ho hp hn hh hBB hlb.out hfit.out hfar
      have o10 := o8.trans (OffF.of hq10)
      have o9 : OffF (DF p kb mb) w9 w10 := OffF.of hq10
      obtain ⟨SL, hSL⟩ : ∃ x, (sheetB l).length = x := ⟨_, rfl⟩
      rw [hSL] at hly ⊢
      replace hly : Hid _ := hly
      replace hSL : Hid _ := hSL
      clear hown hBB hq10 hfar
      refine plan_run _ rfl (fun K' hK' => ?_)
      go_simp
      refine Calls.mono hly.out ?_
      rintro e w11 ⟨B, i0, hB, hi0, hh11⟩
      have hB' : Hid (B = layB d n f l) := by show _ = _; rw [hB, hi0]; rfl
      have hi0' : Hid (i0 = layI n f) := hi0
      clear hB hi0
      replace hh11 := hh11.symm
      rcases hh11 with ⟨rfl, k2, hk2, hdl, hD11, hoff⟩ | ⟨rfl, hD11, hgo, hoff⟩
      · unfold thrownJ
        refine pan_here ⟨rfl, by omega, ⟨d.dat, layP d.dat B i0 k2, 0, true⟩, ⟨rfl, .inl ⟨rfl, k2, ?_, ?_⟩⟩, hD11, ?_, ?_⟩ rfl
        · rw [← hB'.out]; omega
        · rw [← hB'.out, ← hi0'.out]
        · exact hoff.has (o9.has hJ9 hjF) hjF
        · exact (o10.trans hoff).more (fun x hx => .inr hx)
      have o11 := o10.trans hoff
      have o911 := o9.trans hoff
      refine hK'.out _ _ o911 ?_
      clear hK' K' hly hoff o10 o9 o8
      try simp only [Act.put, List.setIfInBounds_toArray, List.set_cons_zero, List.set_cons_succ]
      refine plan_done_p ?_
      have hJ11 := o911.has hJ9 hjF
      have hY11 := o911.has hY9 hnY
      have cj11 : w11.cell? ⟨j, 0, none⟩ = some (.pointer (some ⟨p, 0, none⟩)) := (hJ11.cell 0).trans rfl
      obtain ⟨d1, hd1⟩ : ∃ d1 : DskV, d1 = ⟨d.dat, layP d.dat B i0 (chunkN B), d.left - chunkN B, false⟩ := ⟨_, rfl⟩
      rw [← hd1] at hD11
      have hd1p : Hid (d1.dat = d.dat ∧ d1.pend = layP d.dat (layB d n f l) (layI n f) (chunkN (layB d n f l)) ∧ d1.left ≤ d.left ∧ d1.off = false) := by
        show _ ∧ _
        rw [hd1, ← hB'.out, ← hi0'.out]
        exact ⟨rfl, rfl, by show d.left - _ ≤ _; omega, rfl⟩
      have hfl := jflush_any p kb mb n d1 w11 hD11
      have hz11 : w.heap.size + 1 < w11.heap.size := hY11.lt
      replace hfl : Hid _ := hfl
      clear hd1 hB' hi0' hD11 hJ9 hX9 hY9 hD9 hS9 hlt9 hgo o911 hsz9
      go_wp2_with fail
      refine Calls.mono hfl.out ?_
      rintro e w12 hh12
      replace hh12 := hh12.symm
      obtain ⟨hd1a, hd1b, hd1c, hd1d⟩ := hd1p.out
      rcases hh12 with ⟨rfl, hso, hD12, hoff⟩ | ⟨rfl, D1, l2, hl2, hF1, hD12, hoff⟩
      · unfold thrownJ
        have hne := step_off hd1d hso
        refine ⟨rfl, .inr ⟨rfl, by omega, stepM d1, ⟨hso, .inl ⟨by rw [stepM_dat, hd1a], _, Nat.le_refl _, by rw [stepM_pend, hd1b]⟩⟩, hD12, hoff.has hJ11 hjF, (o11.trans hoff).more (fun x hx => .inr hx)⟩⟩
      rw [hd1a, hd1b] at hF1
      have o12 := o11.trans hoff
      have hJ12 := (hoff.has hJ11 hjF).drew
      have hY12 := (hoff.has hY11 hnY).drew
      have hD12' := hD12.drew
      have o12' : OffF (DF p kb mb) w w12.drew := o12.trans (OffF.of (Below.refl _ _).drew)
      have hz12 : w.heap.size + 1 < w12.drew.heap.size := Nat.lt_of_lt_of_le hz11 hoff.size
      obtain ⟨Nx, hNx2⟩ : ∃ Nx, nextM h f l = Nx := ⟨_, rfl⟩
      rw [hNx2] at hY12
      have hok : HdOk Nx := by
        have q1 := hN0.out
        have q2 := hfit.out
        rw [← hNx2]
        refine ⟨?_, ?_, ?_, sum_lt _ _ hsum⟩
        · show h.num + 1 < _; omega
        · show f.half < 256; omega
        · show f.len + _ < _; omega
      have hi2 : Nx.num % 2 < n := by omega
      have hslot := fun W => slot_any Nx W hok.num
      have hsheet := fun W => sheet_any Nx W hok
      have hNx3 : Hid (nextM h f l = Nx) := hNx2
      replace hd1c : Hid _ := hd1c
      replace hl2 : Hid _ := hl2
      replace hslot : Hid _ := hslot
      replace hsheet : Hid _ := hsheet
      replace hF1 : Hid _ := hF1
      clear hfl hd1p hd1a hd1b hd1d hD12 hJ11 hY11 hNx2 hNx hoff o11 cj11 hz11 o12
      go_wp2_with fail
      refine wp_region_plan_p (fun W => OffF (DF p kb mb) w12.drew W) (Plan.of [(0, true), (1, true), (2, true), (3, true), (4, true), (6, true), (5, false), (7, false), (8, false)] .done) (fun ch W => ch = [{ v := .iface 25 (.int .i64 131), recovered := false }] ∧ CutX w j p kb mb n d h f l ro rn rc br W) (by kernel_rfl) (by kernel_rfl) (by kernel_rfl) (by kernel_rfl) (OffF.of (Below.refl _ _)) ?_ ?_
      · rintro ch a' w' ⟨rfl, hx⟩ hd
        exact ⟨hd, .inr ⟨rfl, hx⟩⟩
      generalize w12.drew = w13 at *
      iterate 3
        first
          | (refine plan_pass _ rfl (by rfl) ?_)
          | (refine plan_take _ _ rfl (.inl ⟨by rfl, fun W hS => by clear hS; go_simp; try with_reducible rfl⟩) ?_)
        try simp only [Act.put, List.setIfInBounds_toArray, List.set_cons_zero, List.set_cons_succ]
      iterate 1
        first
          | (refine plan_pass _ rfl (by rfl) ?_)
          | (refine plan_take _ _ rfl (.inl ⟨by rfl, fun W hS => by have z : W.cell? ⟨j, 0, none⟩ = some (.pointer (some ⟨p, 0, none⟩)) := ((hS.has hJ12 hjF).cell 0).trans rfl; go_simp; try with_reducible rfl⟩) ?_)
        try simp only [Act.put, List.setIfInBounds_toArray, List.set_cons_zero, List.set_cons_succ]
      refine plan_take _ _ rfl (yields_load_has (by rfl) 73 _ rfl (w.heap.size + 1) rfl 73 (hdC Nx) _ Tryz.underlying73 rfl (hd_size _) (fun W hS => hS.has hY12 hnY)) ?_
      try simp only [Act.put, List.setIfInBounds_toArray, List.set_cons_zero, List.set_cons_succ]
      refine plan_take _ _ rfl (yields_load_has (by rfl) 73 _ rfl (w.heap.size + 1) rfl 73 (hdC Nx) _ Tryz.underlying73 rfl (hd_size _) (fun W hS => hS.has hY12 hnY)) ?_
      try simp only [Act.put, List.setIfInBounds_toArray, List.set_cons_zero, List.set_cons_succ]
      refine plan_run _ rfl (fun K' hK' => ?_)
      go_simp
      refine Calls.mono (hslot.out _) ?_
      rintro e w14 ⟨rfl, hq14⟩
      refine hK'.out _ _ (OffF.of hq14) ?_
      clear hK' K' hslot
      try simp only [Act.put, List.setIfInBounds_toArray, List.set_cons_zero, List.set_cons_succ]
      refine plan_run _ rfl (fun K' hK' => ?_)
      go_simp
      refine Calls.mono (hsheet.out _) ?_
      rintro e w15 ⟨g, gc, rfl, hB15, hg1, hg2, hq15⟩
      refine hK'.out _ _ ((OffF.of hq14).trans (OffF.of hq15)) ?_
      clear hK' K' hsheet
      try simp only [Act.put, List.setIfInBounds_toArray, List.set_cons_zero, List.set_cons_succ]
      have o1315 : OffF (DF p kb mb) w13 w15 := (OffF.of hq14).trans (OffF.of hq15)
      have hD15 := (hD12'.later hq14).later hq15
      have hg3 : w.heap.size ≤ g := by have := hq14.size; omega
      have hwr := jwrite_any p kb mb n (Nx.num % 2) (some ⟨g, 0, none⟩) 44 gc (hdB Nx) ⟨D1, [], l2, false⟩ w15 hD15 hi2 hB15 (hdB_length Nx).symm (by decide) (fun ad had => by cases had; show g ≠ p; omega) (fun ad had => by cases had; exact hg2) rfl
      obtain ⟨sl, hsl⟩ : ∃ sl, Nx.num % 2 = sl := ⟨_, rfl⟩
      have hcast : ((Nx.num : Int) % 2) = (sl : Int) := by omega
      rw [hsl] at hwr
      replace hwr : Hid _ := hwr
      replace hsl : Hid _ := hsl
      clear hi2 hB15 hg1 hg2 hq14 hq15 hD12'
      refine plan_run _ rfl (fun K' hK' => ?_)
      go_simp
      refine Calls.mono hwr.out ?_
      rintro e w16 hh16
      replace hh16 := hh16.symm
      have hF1' : Full n d.dat (layP d.dat (layB d n f l) (layI n f) (chunkN (layB d n f l))) D1 := hF1.out
      have hlq : l2 ≤ d.left := Nat.le_trans hl2.out hd1c.out
      rcases hh16 with ⟨rfl, hso, hD16, hoff⟩ | ⟨rfl, l3, hl3, hD16, hoff⟩
      · unfold thrownJ
        have hne := step_off (d := ⟨D1, [], l2, false⟩) rfl hso
        replace hne : l2 ≠ 0 := hne
        refine pan_here ⟨rfl, by omega, stepM ⟨D1, [], l2, false⟩, ⟨hso, .inr ⟨by rw [stepM_dat]; exact hF1', .inl (by rw [stepM_pend])⟩⟩, hD16, hoff.has (o1315.has hJ12 hjF) hjF, ((o12'.trans o1315).trans hoff).more (fun x hx => .inr hx)⟩ rfl
      have o16 := o1315.trans hoff
      refine hK'.out _ _ o16 ?_
      clear hK' K' hwr
      try simp only [Act.put, List.setIfInBounds_toArray, List.set_cons_zero, List.set_cons_succ]
      refine plan_done_p ?_
      have hP : ([] ++ [(sl, overB (sec D1 sl) 0 (hdB Nx))] : PendL) = slotP D1 Nx := by
        unfold slotP
        rw [hsl.out, overB_zero, hdB_length]
        rfl
      replace hD16 : DiskAt w16 p kb mb n ⟨D1, slotP D1 Nx, l3, false⟩ := by rw [← hP]; exact hD16
      have hJ16 := o16.has hJ12 hjF
      have hY16 := o16.has hY12 hnY
      have oo16 := o12'.trans o16
      have hl3' : l3 ≤ d.left := Nat.le_trans hl3 hlq
      have hz16 : w.heap.size + 1 < w16.heap.size := hY16.lt
      have cj16 : w16.cell? ⟨j, 0, none⟩ = some (.pointer (some ⟨p, 0, none⟩)) := (hJ16.cell 0).trans rfl
      have hfl := jflush_any p kb mb n ⟨D1, slotP D1 Nx, l3, false⟩ w16 hD16
      replace hfl : Hid _ := hfl
      replace hl3' : Hid _ := hl3'
      clear hP hD16 hJ12 hY12 o16 o12' o1315 hoff hD15 hlq hl3 hz12
      go_wp2_with fail
      refine Calls.mono hfl.out ?_
      rintro e w17 hh17
      replace hh17 := hh17.symm
      rcases hh17 with ⟨rfl, hso, hD17, hoff⟩ | ⟨rfl, D2, l4, hl4, hF2, hD17, hoff⟩
      · unfold thrownJ
        have hne := step_off (d := ⟨D1, slotP D1 Nx, l3, false⟩) rfl hso
        replace hne : l3 ≠ 0 := hne
        have hl9 : l3 ≤ d.left := hl3'.out
        refine ⟨rfl, .inr ⟨rfl, by omega, stepM ⟨D1, slotP D1 Nx, l3, false⟩, ⟨hso, .inr ⟨by rw [stepM_dat]; exact hF1', .inr (by rw [stepM_pend, stepM_dat, hNx3.out])⟩⟩, hD17, hoff.has hJ16 hjF, (oo16.trans hoff).more (fun x hx => .inr hx)⟩⟩
      have hJ17 := hoff.has hJ16 hjF
      have hY17 := hoff.has hY16 hnY
      have oo17 := oo16.trans hoff
      have hth := hJ17.there 1 4 (show 1 + 4 ≤ 7 by decide)
      have hJ18 : Has (w17.setCells j 1 (hdC Nx).toList) j 75 (jnlC p Nx ro rn rc br) := Has.putL (l := (jnlC p h ro rn rc br).toList) hJ17 (hdC Nx).toList 1 (show 1 + 4 ≤ 7 by decide)
      have hbt : But j w17 (w17.setCells j 1 (hdC Nx).toList) := but_cells _ _ _
      have hD18 := hD17.offs (OffF.but hbt) (fun z => hjF (.inl (Eq.symm z))) (fun z => hjF (.inr (.inl (Eq.symm z)))) (fun z => hjF (.inr (.inr (Eq.symm z))))
      have oo18 : OffF (fun k => k = j ∨ DF p kb mb k) w (w17.setCells j 1 (hdC Nx).toList) := (oo17.more (fun x hx => .inr hx)).trans ((OffF.but hbt).more (fun x hx => .inl hx))
      have hfin : Hid (KeptAt n d h f l ⟨D2, [], l4, false⟩) := ⟨rfl, rfl, Nat.le_trans hl4 hl3'.out, D1, hF1', by rw [hNx3.out]; exact hF2⟩
      obtain ⟨w18, hw18⟩ : ∃ W, w17.setCells j 1 (hdC Nx).toList = W := ⟨_, rfl⟩
      rw [hw18] at hJ18 hD18 oo18
      have hw18' : Hid (w17.setCells j 1 (hdC Nx).toList = w18) := hw18
      replace hth : Hid _ := hth
      have hJf : Hid (Has w18 j 75 (jnlC p (nextM h f l) ro rn rc br)) := by
        show Has _ _ _ _
        rw [hNx3.out]
        exact hJ18
      replace hD18 : Hid _ := hD18
      replace oo18 : Hid _ := oo18
      clear hfl hJ16 hY16 oo16 hl3' hoff hF2 hl4 hD17 hJ17 oo17 hJ18 hbt hw18 hF1 hF1' cj16 hz16
      go_wp2_with (first
        | (refine wpList_load_has (by rfl) 73 _ rfl (w.heap.size + 1) rfl 73 (hdC Nx) _ Tryz.underlying73 rfl (hd_size _) ?hg ?_; (case hg => exact hY17))
        | (refine wpList_store_mid' (by rfl) 73 _ _ rfl j 1 (hdC Nx) rfl rfl hth.out (hd_size _) (hd_one _) ?_; rw [hw18'.out])
        | fail)
      go_end0
      exact .inl ⟨rfl, _, hfin.out, hD18.out, hJf.out, oo18.out⟩
end

section
set_option linter.unusedSimpArgs false
set_option linter.unusedVariables false
set_option maxRecDepth 100000
open Go.RowKit Go.MapKept

/-- The blocks that belong to a journal and its disk. -/
abbrev FJ (j p kb mb : Nat) (lo : Option Addr) : Nat → Prop := fun k => k = j ∨ DF p kb mb k ∨ ∃ ad, lo = some ad ∧ ad.block = k
structure JAt (w : World) (j p kb mb n : Nat) (d : DskV) (h : HdV) (lo : Option Addr) (lc : Nat) (l : List (List UInt8)) (br : Bool) : Prop where
  disk : DiskAt w p kb mb n d
  jnl : Has w j 75 (jnlC p h lo l.length lc br)
  row : w.ownsRow 0 9 1 (.slice lo l.length lc) l.length (SsV l)
  rowF : ∀ ad, lo = some ad → ad.block ≠ j ∧ ¬ DF p kb mb ad.block
  jF : ¬ DF p kb mb j
theorem JAt.strs {w : World} {j p kb mb n : Nat} {d : DskV} {h : HdV} {lo : Option Addr} {lc : Nat} {l : List (List UInt8)} {br : Bool} (H : JAt w j p kb mb n d h lo lc l br) : Strs w lo lc l ∧ ∀ ad, lo = some ad → ad.block < w.heap.size := by
  obtain ⟨_, ao, c, hv, hS, hf⟩ := strs_own H.row
  cases hv
  exact ⟨hS, fun ad had => (hf ad had).2⟩
theorem JAt.lt {w : World} {j p kb mb n : Nat} {d : DskV} {h : HdV} {lo : Option Addr} {lc : Nat} {l : List (List UInt8)} {br : Bool} (H : JAt w j p kb mb n d h lo lc l br) : ∀ k, FJ j p kb mb lo k → k < w.heap.size := fun k hk => by
  obtain ⟨a, b, c⟩ := H.disk.lp
  rcases hk with rfl | (rfl | rfl | rfl) | ⟨ad, had, rfl⟩
  · exact H.jnl.lt
  · exact a
  · exact b
  · exact c
  · exact H.strs.2 ad had
theorem own_off {F : Nat → Prop} {w w' : World} {base n : Nat} {e : TypeId} {k : Nat} {v : Value} {xs : List Value} (h : w.ownsRow base e k v n xs) (hq : OffF F w w') (hf : ∀ g, v.ownBlock = some g → ¬ F g) : w'.ownsRow base e k v n xs := by
  obtain ⟨h1, h2⟩ := h
  refine ⟨h1, h2.imp id ?_⟩
  rintro ⟨g, cap, cur, hv, hb, hg, hr⟩
  refine ⟨g, cap, cur, hv, hb, ?_, hr⟩
  rw [hq.block g (Array.getElem?_eq_some_iff.1 hg).1 (hf g (by rw [hv]; rfl))]
  exact hg
theorem own_block {lo : Option Addr} {n c g : Nat} (h : (Value.slice lo n c).ownBlock = some g) : ∃ ad, lo = some ad ∧ ad.block = g := by
  cases lo with
  | none => cases h
  | some ad => exact ⟨ad, rfl, by cases h; rfl⟩
theorem JAt.off {G : Nat → Prop} {w w' : World} {j p kb mb n : Nat} {d : DskV} {h : HdV} {lo : Option Addr} {lc : Nat} {l : List (List UInt8)} {br : Bool} (H : JAt w j p kb mb n d h lo lc l br) (hq : OffF G w w') (hG : ∀ k, FJ j p kb mb lo k → ¬ G k) : JAt w' j p kb mb n d h lo lc l br where
  disk := H.disk.offs hq (hG _ (.inr (.inl (.inl rfl)))) (hG _ (.inr (.inl (.inr (.inl rfl))))) (hG _ (.inr (.inl (.inr (.inr rfl)))))
  jnl := hq.has H.jnl (hG _ (.inl rfl))
  row := own_off H.row hq (fun g hg => by
    obtain ⟨ad, had, e⟩ := own_block hg
    exact hG _ (.inr (.inr ⟨ad, had, e⟩)))
  rowF := H.rowF
  jF := H.jF
theorem JAt.later {w w' : World} {j p kb mb n : Nat} {d : DskV} {h : HdV} {lo : Option Addr} {lc : Nat} {l : List (List UInt8)} {br : Bool} (H : JAt w j p kb mb n d h lo lc l br) (hb : Below w.heap.size w w') : JAt w' j p kb mb n d h lo lc l br :=
  H.off (G := fun _ => False) (OffF.of hb) (fun _ _ hf => hf)
theorem JAt.drew {w : World} {j p kb mb n : Nat} {d : DskV} {h : HdV} {lo : Option Addr} {lc : Nat} {l : List (List UInt8)} {br : Bool} (H : JAt w j p kb mb n d h lo lc l br) : JAt w.drew j p kb mb n d h lo lc l br := H.later (Below.refl _ _).drew
/-- A journal of which the disk and the head have changed. -/
theorem JAt.turn {w w' : World} {j p kb mb n : Nat} {d d' : DskV} {h h' : HdV} {lo : Option Addr} {lc : Nat} {l : List (List UInt8)} {br br' : Bool} (H : JAt w j p kb mb n d h lo lc l br) (hq : OffF (fun k => k = j ∨ DF p kb mb k) w w') (hD : DiskAt w' p kb mb n d') (hJ : Has w' j 75 (jnlC p h' lo l.length lc br')) : JAt w' j p kb mb n d' h' lo lc l br' where
  disk := hD
  jnl := hJ
  row := own_off H.row hq (fun g hg => by
    obtain ⟨ad, had, e⟩ := own_block hg
    obtain ⟨a, b⟩ := H.rowF ad had
    rintro (z | z)
    · exact a (e.trans z)
    · exact b (e ▸ z))
  rowF := H.rowF
  jF := H.jF
theorem hd_range {w : World} {j p : Nat} {h : HdV} {lo : Option Addr} {n lc : Nat} {br : Bool} (hJ : Has w j 75 (jnlC p h lo n lc br)) : w.rangeAt j 1 (hdC h).toList := hJ.range 1 _ fun i v hi => by
  match i, hi with
  | 0, hi => exact hi
  | 1, hi => exact hi
  | 2, hi => exact hi
  | 3, hi => exact hi
  | i + 4, hi => cases hi
theorem hd_size' (h : HdV) : (Tryz.prog.info? 73).map (·.size) = some (hdC h).toList.length := by show _ = some 4; kernel_rfl
theorem run_appS2 (w : World) (ty : TypeId) (base : Nat) (v : Value) (n : Nat) (l : List (List UInt8)) (hv : w.ownsRow base 9 1 v n (SsV l)) (ad : Addr) (k c : Nat) (m : List (List UInt8)) (h : Strs w (some ad) c m) (hk : k = m.length) (hl : n + k ≤ 1000000000) (hbase : base ≤ w.heap.size) :
    ∃ ao' c' w', (Builtin.append_ #[22, 22] ty #[v, .slice (some ad) k c]).run Tryz.prog w = .ok (.slice ao' (n + k) c') w' ∧ w'.ownsRow base 9 1 (.slice ao' (n + k) c') (n + k) (SsV (l ++ m)) ∧ w.grownBy w' v.ownBlock ∧ ((Value.slice ao' (n + k) c').ownBlock = v.ownBlock ∨ (Value.slice ao' (n + k) c').ownBlock = some w.heap.size) := by
  obtain ⟨i0, hi, hz0, hz1, hz2⟩ := str_info
  subst hk
  obtain ⟨v', w', hr, ho, hg, _, hw⟩ := run_append_own_at (P := Tryz.prog) (w := w) base 22 ty 9 i0 (.string ⟨#[]⟩) 1 16 Tryz.underlying22 hi hz0 hz1 hz2 rfl (by decide) v n (SsV l) hv ad m.length c (SsV m) (by rw [SsV_len, Nat.mul_one]) h.at' (SsV_one _) (by unfold maxLen; omega) (by omega) hbase
  rw [← SsV_app] at ho
  obtain ⟨_, ao', c', rfl, _, _⟩ := strs_own ho
  exact ⟨ao', c', w', hr, ho, hg, hw⟩
section
variable {ops : Array Oper} {Q : Exit → Act → World → Prop} {S : World → Prop} {i : Nat} {p : Plan} {a : Act} {w : World}
theorem plan_appS2 (o : Oper) (ho : nth ops.toList i = some o) (hw : Region.wanted o (yielded ops a.tmps) = true) (s x : Operand)
    (hop : o.op = Op.call { callee := Callee.builtin Builtin.append, args := #[s, x], argTypes := #[22, 22] })
    (base : Nat) (v : Value) (n : Nat) (l : List (List UInt8)) (hs : a.eval s = v) (ad : Addr) (k c : Nat) (m : List (List UInt8)) (hx : a.eval x = .slice (some ad) k c) (hv : w.ownsRow base 9 1 v n (SsV l)) (h : Strs w (some ad) c m) (hk : k = m.length) (hl : n + k ≤ 1000000000) (hbase : base ≤ w.heap.size)
    (hK : ∀ ao' c' w', w'.ownsRow base 9 1 (.slice ao' (n + k) c') (n + k) (SsV (l ++ m)) → w.grownBy w' v.ownBlock → ((Value.slice ao' (n + k) c').ownBlock = v.ownBlock ∨ (Value.slice ao' (n + k) c').ownBlock = some w.heap.size) → S w' ∧ wpPlan Tryz.prog ops Q S p (a.put o.dst (.slice ao' (n + k) c')) w') : wpPlan Tryz.prog ops Q S (Plan.run i p) a w := by
  refine plan_run o ho fun K hK' => ?_
  rw [if_pos hw]
  obtain ⟨ao', c', w', hr, hown, hgr, hbl⟩ := run_appS2 w o.type base v n l hv ad k c m h hk hl hbase
  obtain ⟨h1, h2⟩ := hK ao' c' w' hown hgr hbl
  unfold Oper.wp
  simp [execOp, hop, resolve, invoke, builtin, hs, hx, hr, Result.andThen]
  exact hK'.out _ _ h1 h2
end
end
end Go.Proofs.YtpnpjblohijajabGreat
