/- JnlClone, JnlCloned, JnlOpen, joined. -/
import Derived.Test.YtpnpjblohijajabGreatGrp25
import Derived.Shelf.Pu.Clone
import Derived.Test.YtpnpjblohijajabGreatChecked
import Derived.Test.YtpnpjblohijajabGreatGrp6
namespace Go.Proofs.YtpnpjblohijajabGreat
section
set_option linter.unusedSimpArgs false
set_option linter.unusedVariables false
set_option maxRecDepth 100000
open Go.RowKit Go.MapKept

def cloneRen : Go.Shelf.Ren := ⟨fun | 25 => 94 | n => n, fun | 37 => 60 | 47 => 160 | n => n, fun n => n⟩
theorem layClone : LaysPu.n25 Tryz.prog cloneRen where
  mixed := by kernel_rfl
  f25 := Tryz.func94.trans (congrArg some (by kernel_rfl))
  t0 := Tryz.underlying0
  a0 := Tryz.isAgg0
  z0 := Tryz.sizeOf0
  v0 := Tryz.zeroValue0
  i0 := by kernel_rfl
  t3 := Tryz.underlying3
  a3 := Tryz.isAgg3
  z3 := Tryz.sizeOf3
  v3 := Tryz.zeroValue3
  i3 := by kernel_rfl
  t4 := Tryz.underlying4
  a4 := Tryz.isAgg4
  z4 := Tryz.sizeOf4
  v4 := Tryz.zeroValue4
  i4 := by kernel_rfl
  t5 := Tryz.underlying5
  a5 := Tryz.isAgg5
  z5 := Tryz.sizeOf5
  v5 := Tryz.zeroValue5
  i5 := by kernel_rfl
  t9 := Tryz.underlying9
  a9 := Tryz.isAgg9
  z9 := Tryz.sizeOf9
  v9 := Tryz.zeroValue9
  i9 := by kernel_rfl
  t37 := Tryz.underlying60
  a37 := Tryz.isAgg60
  z37 := Tryz.sizeOf60
  v37 := Tryz.zeroValue60
  i37 := by kernel_rfl
  t47 := Tryz.underlying160
  a47 := Tryz.isAgg160
  z47 := Tryz.sizeOf160
  v47 := Tryz.zeroValue160
  i47 := by kernel_rfl
theorem sclone_any (s : List UInt8) (w : World) (h : s.length ≤ 1000000) : Calls Tryz.prog 65 #[strV s] w fun e w' => e = .returned (strV s) ∧ Below w.heap.size w w' := by
  have hc : Calls Tryz.prog 94 #[strV s] w fun e w' => e = .returned (strV s) ∧ Below w.heap.size w w' := AnyPu.stringslite_Clone layClone (mkS s) w (by rw [mkS_size]; omega)
  replace hc : Hid _ := hc
  go_enter Tryz.func65, Tryz.ntmps65
  go_wp2_with fail
  refine Calls.mono hc.out ?_
  rintro e w' ⟨rfl, hq⟩
  clear hc
  go_wp2
  go_ret
  exact ⟨rfl, hq⟩
end

section
set_option linter.unusedSimpArgs false
set_option linter.unusedVariables false
set_option maxRecDepth 100000
open Go.RowKit Go.MapKept

theorem madeSt (n : Nat) : (madeCells (Value.string ⟨#[]⟩).cells (n * 1)).toList = SsV (List.replicate n []) := by
  apply List.ext_getElem?
  intro i
  unfold madeCells SsV
  simp only [Array.toList_map, Array.toList_range, Nat.mul_one]
  rw [List.getElem?_map, List.getElem?_map]
  by_cases h : i < n
  · rw [List.getElem?_range h, List.getElem?_replicate, if_pos h]
    show some ((Value.string ⟨#[]⟩).cells[i % 1]!) = some (strV [])
    rw [Nat.mod_one]
    rfl
  · rw [List.getElem?_eq_none (by simpa using h), List.getElem?_eq_none (by simpa using h)]
    rfl
theorem strs_has {w : World} {b g n : Nat} {l : List (List UInt8)} (hn : n = l.length) (h : w.ownsRow b 9 1 (.slice (some ⟨g, 0, none⟩) n n) n (SsV l)) : Has w g 9 (SsV l).toArray := by
  rcases h.2 with ⟨h0, _⟩ | ⟨g', cap, cur, hv, hb, hg, hle, hm, hs, ht⟩
  · cases h0
  · cases hv
    have e : cur = (SsV l).toArray := by
      rw [← ht, List.take_of_length_le (by rw [Array.length_toList]; omega)]
    rw [← e]
    exact hg
theorem own_of_strs {w : World} {b g n : Nat} {l : List (List UInt8)} (hn : n = l.length) (hb : b ≤ g) (hl : n ≤ 1000000000) (h : Has w g 9 (SsV l).toArray) : w.ownsRow b 9 1 (.slice (some ⟨g, 0, none⟩) n n) n (SsV l) := by
  refine ⟨by rw [SsV_len]; omega, .inr ⟨g, n, (SsV l).toArray, rfl, hb, h, Nat.le_refl _, by unfold maxLen; omega, by rw [List.size_toArray, SsV_len]; omega, ?_⟩⟩
  show (SsV l).toArray.toList.take (n * 1) = SsV l
  rw [List.take_of_length_le (by rw [Array.length_toList, List.size_toArray, SsV_len]; omega)]
def partM (l : List (List UInt8)) (k : Nat) : List (List UInt8) := l.take k ++ List.replicate (l.length - k) []
theorem part_len (l : List (List UInt8)) (k : Nat) (h : k ≤ l.length) : (partM l k).length = l.length := by
  unfold partM
  rw [List.length_append, List.length_take, List.length_replicate]
  omega
theorem part_set (l : List (List UInt8)) (k : Nat) (h : k < l.length) : (SsV (partM l k)).toArray.setIfInBounds k (strV l[k]) = (SsV (partM l (k + 1))).toArray := by
  apply Array.ext'
  rw [Array.toList_setIfInBounds]
  unfold SsV
  show ((partM l k).map strV).set k (strV l[k]) = (partM l (k + 1)).map strV
  rw [← List.map_set]
  congr 1
  unfold partM
  have e : l.length - k = (l.length - (k + 1)) + 1 := by omega
  rw [e, List.replicate_succ, List.set_append_right _ _ (by rw [List.length_take]; omega)]
  rw [List.length_take, Nat.min_eq_left (by omega), Nat.sub_self, List.set_cons_zero, List.take_succ_eq_append_getElem h, List.append_assoc]
  rfl
set_option maxHeartbeats 4000000 in
theorem cloned_any (ao : Option Addr) (c : Nat) (l : List (List UInt8)) (w : World) (h : Strs w ao c l) (hlt : ∀ ad, ao = some ad → ad.block < w.heap.size) (hl : l.length ≤ 1000000) (he : ∀ r ∈ l, r.length ≤ 1000000) :
    Calls Tryz.prog 74 #[.slice ao l.length c] w fun e w' => ∃ bo bc, e = .returned (.slice bo l.length bc) ∧ w'.ownsRow w.heap.size 9 1 (.slice bo l.length bc) l.length (SsV l) ∧ Below w.heap.size w w' := by
  have hle := h.le
  have hcap := h.cap
  obtain ⟨L, hL⟩ : ∃ L, l.length = L := ⟨_, rfl⟩
  rw [hL] at hle hl ⊢
  replace hL : Hid _ := hL
  replace he : Hid _ := he
  obtain ⟨i0, hi0, hz0, hz1, hz2⟩ := str_info
  go_enter Tryz.func74, Tryz.ntmps74
  go_wp2_with (first
    | (refine wpList_make_full _ rfl _ _ 22 rfl w.heap.size 9 i0 (.string ⟨#[]⟩) 1 Tryz.underlying22 hi0 hz0 hz1 _ _ _ _ L rfl rfl rfl rfl (by rw [hz2]; omega) (by unfold maxLen; omega) (Nat.le_refl _) ?_)
    | fail)
  intro w4 hown hgrow
  have hb4 : Below w.heap.size w w4 := (Below.refl w.heap.size w).grown hgrow (Nat.le_refl _) (fun k hk => by cases hk)
  replace hown : w4.ownsRow w.heap.size 9 1 (.slice (some ⟨w.heap.size, 0, none⟩) L L) L (madeCells (Value.string ⟨#[]⟩).cells (L * 1)).toList := by rw [Nat.mul_one]; exact hown
  rw [madeSt] at hown
  have hG : Has w4 w.heap.size 9 (SsV (partM l 0)).toArray := by
    have := strs_has (by simp) hown
    unfold partM
    rw [List.take_zero, List.nil_append, Nat.sub_zero, hL.out]
    exact this
  clear hown hgrow
  go_wp2
  go_loopw [11] (fun iv wr => ∃ k, k ≤ L ∧ iv = .int .i64 (k : Nat) ∧ Has wr w.heap.size 9 (SsV (partM l k)).toArray ∧ Below w.heap.size w wr) (fun iv _ => L - (intOf iv).toNat)
  case atStart => exact ⟨0, Nat.zero_le _, rfl, hG, hb4⟩
  case round =>
    clear hG hb4
    obtain ⟨k, hk, rfl, hG, hb⟩ := hrel
    by_cases hkL : k < L
    · have hkl : k < l.length := by rw [hL.out]; exact hkL
      cases ao with
      | none => have := h.nil rfl; omega
      | some ad =>
        have hc := (h.same (b := wr) (fun ad' had => hb.block _ (hlt ad' had))).cell ad rfl k hkl
        have hs := part_set l k hkl
        have hsz : w.heap.size ≤ wr.heap.size := hb.size
        have hcl := sclone_any l[k] wr (he.out _ (List.getElem_mem hkl))
        have hltI : (k : Int) < (L : Int) := by omega
        obtain ⟨s, hss⟩ : ∃ s, l[k] = s := ⟨_, rfl⟩
        rw [hss] at hc hs hcl
        replace hs : Hid _ := hs
        replace hcl : Hid _ := hcl
        unfold strV at hc hcl
        clear hss hkl
        go_wp2_with fail
        refine Calls.mono hcl.out ?_
        rintro e w5 ⟨rfl, hq⟩
        clear hcl
        have hG5 := hG.later hq
        have hb5 := hb.trans (hq.mono hsz)
        have c5 : ∃ v, w5.cell? ⟨w.heap.size, k, none⟩ = some v := by
          have := hG5.cell k
          rw [this]
          exact ⟨_, Array.getElem?_eq_getElem (by rw [List.size_toArray, SsV_len, part_len _ _ (by rw [hL.out]; exact hk), hL.out]; exact hkL)⟩
        obtain ⟨v5, c5⟩ := c5
        have z5 := hG5.free k
        have hG6 := hG5.set k (strV s)
        rw [hs.out] at hG6
        have hb6 := hb5.setCell (p := ⟨w.heap.size, k, none⟩) (Nat.le_refl _) (strV s)
        unfold strV at hG6 hb6
        clear hG5 hb5 hq hG hb
        trace_state
        go_wp2
        go_roundw
        case rel => exact ⟨k + 1, by omega, by go_num, hG6, hb6⟩
        case measure => simp [intOf]; omega
    · have hkk : k = L := by omega
      subst hkk
      have hP : partM l k = l := by
        unfold partM
        rw [← hL.out, List.take_length, Nat.sub_self]
        simp
      rw [hP] at hG
      have hfin : Hid _ := own_of_strs (b := w.heap.size) hL.out.symm (Nat.le_refl _) (by omega) hG
      clear hG hP h hlt
      go_wp2
      go_ret
      exact ⟨_, _, rfl, hfin.out, hb⟩
end

section
set_option linter.unusedSimpArgs false
set_option linter.unusedVariables false
set_option maxRecDepth 100000
open Go.RowKit Go.MapKept

theorem put_head (p : Nat) (h0 h : HdV) (lo : Option Addr) (n c : Nat) (br : Bool) : putL (jnlC p h0 lo n c br).toList 1 (hdC h).toList = (jnlC p h lo n c br).toList := rfl
theorem put_rows (p : Nat) (h : HdV) (lo ro : Option Addr) (n c m e : Nat) (br : Bool) : (jnlC p h lo n c br).setIfInBounds 5 (.slice ro m e) = jnlC p h ro m e br := rfl
set_option maxHeartbeats 8000000 in
theorem open1_good (p kb mb n : Nat) (d : DskV) (h : HdV) (l : List (List UInt8)) (bd bj j : Nat) (w : World) (hd : Has w bd 28 #[.pointer (some ⟨p, 0, none⟩)]) (hj : Has w bj 40 #[.pointer (some ⟨j, 0, none⟩)])
    (hJ : Has w j 75 (jnlC p hd0 none 0 0 false)) (hD : DiskAt w p kb mb n d) (ho : d.off = false) (hn : 8 ≤ n) (hN : ∀ k, k < 2 → isHd (writtenM d k) = true → (rdHd (writtenM d k)).num < 256) (hnew : newestTo (writtenM d) 2 = (h, true))
    (hok : HdOk h) (hh : h.half ≤ 1) (hlen : h.len = (sheetB l).length) (hsum : h.sum = sumM 0 l) (hlim : h.len ≤ limitM n) (hrec : ∀ r ∈ l, r.length ≤ 20000) (hbody : bodyM d (firstM n h.half) h.len = sheetB l) :
    Calls Tryz.prog 49 #[.pointer (some ⟨bd, 0, none⟩), .pointer (some ⟨bj, 0, none⟩)] w fun e w' => e = .returned (.tuple #[]) ∧ ∃ bo bc, Has w' j 75 (jnlC p h bo l.length bc false) ∧ w'.ownsRow w.heap.size 9 1 (.slice bo l.length bc) l.length (SsV l) ∧ But j w w' := by
  have hn1 := hD.n1
  have hle := dlen_any p kb mb n d w hD
  have hnw := newest_any p kb mb n d w hD ho (by omega) hN
  rw [hnew] at hnw
  have hjl := hJ.lt
  have hdl := hd.lt
  have hbl := hj.lt
  have d1 := hd.cell 0
  have d2 := hj.cell 0
  have hnI : (8 : Int) ≤ (n : Int) := by omega
  have nJd : j ≠ bd := has_apart hJ hd (by decide)
  have nJj : j ≠ bj := has_apart hJ hj (by decide)
  replace hle : Hid _ := hle
  replace hnw : Hid _ := hnw
  replace hlen : Hid _ := hlen
  replace hsum : Hid _ := hsum
  replace hlim : Hid _ := hlim
  replace hbody : Hid _ := hbody
  replace hh : Hid _ := hh
  clear hN hnew
  go_enter Tryz.func49, Tryz.ntmps49
  go_wp2_with fail
  refine Calls.mono hle.out ?_
  rintro e w0 ⟨rfl, h9⟩
  have h9' := h9.symm
  clear h9 hle
  subst h9'
  go_wp2_with (first
    | (go_at_call 33; refine (must_yes 10 _).mono ?_; rintro e w9 ⟨rfl, h9⟩; have h9' := h9.symm; clear h9; subst h9')
    | fail)
  refine Calls.mono hnw.out ?_
  rintro e w1 ⟨rfl, hq⟩
  clear hnw
  obtain ⟨w2, hw2, hT, hq2⟩ := new_var w1 73 (hdC hd0) (hdC h)
  have hb2 : Below w.heap.size w w2 := hq.trans (hq2.mono hq.size)
  have hsz : w.heap.size ≤ w1.heap.size := hq.size
  clear hq hq2
  go_wp2_with (first
    | (refine wpList_alloc_has (by rfl) 73 rfl (hdC hd0) hd_zero ?_)
    | (refine wpList_store_to (by rfl) 73 _ _ rfl w1.heap.size rfl (hdC h) rfl 73 (hdC hd0) (hd_size _) rfl (hd_one _) ?hg w2 ?hW ?_; (case hg => exact Has.new _ _ _); (case hW => exact hw2); clear hw2)
    | (go_at_call 33; refine (must_yes 10 _).mono ?_; rintro e w9 ⟨rfl, h9⟩; have h9' := h9.symm; clear h9; subst h9')
    | fail)
  have hJ2 := (hJ.later hb2).drew
  have hd2 := (hd.later hb2).drew
  have hj2 := (hj.later hb2).drew
  have hT2 := hT.drew
  have hD2 := (hD.later hb2).drew
  have hb3 := hb2.drew
  have hro := recordsOf_good p kb mb n d h l w2.drew hD2 ho hn hok hh.out hlen.out hsum.out hlim.out hrec hbody.out
  replace hro : Hid _ := hro
  refine wp_region_plan (fun W => Has W bd 28 #[.pointer (some ⟨p, 0, none⟩)] ∧ Has W bj 40 #[.pointer (some ⟨j, 0, none⟩)] ∧ Has W w1.heap.size 73 (hdC h)) (Plan.of [(0, true), (1, true), (2, true), (3, true), (4, true), (5, false), (6, true), (7, true), (8, false), (9, true), (10, true), (11, false)] .done) (by kernel_rfl) (by kernel_rfl) (by kernel_rfl) (by kernel_rfl) ⟨hd2, hj2, hT2⟩ ?_
  clear d1 d2 hJ hd hj hD hT hb2
  iterate 2
    first
      | (refine plan_pass _ rfl (by rfl) ?_)
      | (refine plan_take _ _ rfl (.inl ⟨by rfl, fun W hS => by have d2' := hS.2.1.cell 0; go_simp; try with_reducible rfl⟩) ?_)
    try simp only [Act.put, List.setIfInBounds_toArray, List.set_cons_zero, List.set_cons_succ]
  refine plan_take _ _ rfl (yields_load_has (by rfl) 73 _ rfl w1.heap.size rfl 73 (hdC h) _ Tryz.underlying73 rfl (hd_size _) (fun _ hS => hS.2.2)) ?_
  try simp only [Act.put, List.setIfInBounds_toArray, List.set_cons_zero, List.set_cons_succ]
  iterate 1
    first
      | (refine plan_pass _ rfl (by rfl) ?_)
      | (refine plan_take _ _ rfl (.inl ⟨by rfl, fun W hS => by have d1' := hS.1.cell 0; go_simp; try with_reducible rfl⟩) ?_)
    try simp only [Act.put, List.setIfInBounds_toArray, List.set_cons_zero, List.set_cons_succ]
  refine plan_take _ _ rfl (yields_load_has (by rfl) 73 _ rfl w1.heap.size rfl 73 (hdC h) _ Tryz.underlying73 rfl (hd_size _) (fun _ hS => hS.2.2)) ?_
  try simp only [Act.put, List.setIfInBounds_toArray, List.set_cons_zero, List.set_cons_succ]
  refine plan_run _ rfl (fun K hK => ?_)
  go_simp
  refine Calls.mono hro.out ?_
  rintro e w4 ⟨bo, bc, rfl, hown, hq⟩
  have hJ4 := hJ2.later hq
  have hd4 := hd2.later hq
  have hj4 := hj2.later hq
  have hT4 := hT2.later hq
  have hb4 : Below w.heap.size w w4 := hb3.trans (hq.mono hb3.size)
  have hwb : w.heap.size ≤ w2.drew.heap.size := hb3.size
  refine hK.out _ _ ⟨hd4, hj4, hT4⟩ ?_
  clear hK K hro hq hJ2 hd2 hj2 hT2 hD2 hb3
  try simp only [Act.put, List.setIfInBounds_toArray, List.set_cons_zero, List.set_cons_succ]
  iterate 2
    first
      | (refine plan_pass _ rfl (by rfl) ?_)
      | (refine plan_take _ _ rfl (.inl ⟨by rfl, fun W hS => by clear hS; go_simp; try with_reducible rfl⟩) ?_)
    try simp only [Act.put, List.setIfInBounds_toArray, List.set_cons_zero, List.set_cons_succ]
  have nJT : w1.heap.size ≠ j := by omega
  have hth := hJ4.there 1 4 (show 1 + 4 ≤ 7 by decide)
  have hJ5 : Has (w4.setCells j 1 (hdC h).toList) j 75 (jnlC p h none 0 0 false) := Has.putL (l := (jnlC p hd0 none 0 0 false).toList) hJ4 (hdC h).toList 1 (show 1 + 4 ≤ 7 by decide)
  have hbt : But j w4 (w4.setCells j 1 (hdC h).toList) := but_cells _ _ _
  have hd5 := hbt.has hd4 (fun z => nJd z.symm)
  have hj5 := hbt.has hj4 (fun z => nJj z.symm)
  have hT5 := hbt.has hT4 nJT
  have hown5 := own_but hown hbt (Nat.lt_of_lt_of_le hjl hwb)
  have hB5 : But j w (w4.setCells j 1 (hdC h).toList) := (show But j w w4 from ⟨hb4.os, hb4.tape, hb4.output, hb4.size, fun k hk _ => hb4.block k hk⟩).trans hbt
  refine plan_store_midJ rfl (by rfl) 73 _ _ rfl j 1 (hdC h) rfl rfl hth (hd_size _) (hd_one _) ⟨hd5, hj5, hT5⟩ ?_
  try simp only [Act.put, List.setIfInBounds_toArray, List.set_cons_zero, List.set_cons_succ]
  obtain ⟨w5, hw5⟩ : ∃ W, w4.setCells j 1 (hdC h).toList = W := ⟨_, rfl⟩
  rw [hw5] at hJ5 hd5 hj5 hT5 hown5 hB5 ⊢
  clear hw5 hbt hth hJ4 hd4 hj4 hT4 hown hb4
  iterate 2
    first
      | (refine plan_pass _ rfl (by rfl) ?_)
      | (refine plan_take _ _ rfl (.inl ⟨by rfl, fun W hS => by clear hS; go_simp; try with_reducible rfl⟩) ?_)
    try simp only [Act.put, List.setIfInBounds_toArray, List.set_cons_zero, List.set_cons_succ]
  obtain ⟨L, hL⟩ : ∃ L, l.length = L := ⟨_, rfl⟩
  rw [hL] at hown5 ⊢
  have c5 : w5.cell? ⟨j, 5, none⟩ = some (.slice none 0 0) := (hJ5.cell 5).trans rfl
  have z5 := hJ5.free 5
  have hJ6 := hJ5.set 5 (.slice bo L bc)
  rw [put_rows] at hJ6
  have hbt := but_cell w5 5 (.slice bo L bc) (g := j)
  have hd6 := hbt.has hd5 (fun z => nJd z.symm)
  have hj6 := hbt.has hj5 (fun z => nJj z.symm)
  have hT6 := hbt.has hT5 nJT
  have hown6 := own_mono (own_but hown5 hbt (Nat.lt_of_lt_of_le hjl hwb)) hwb
  have hB6 := hB5.trans hbt
  replace hown6 : Hid _ := hown6
  replace hL : Hid _ := hL
  refine plan_run _ rfl (fun K hK => ?_)
  go_simp
  refine hK.out _ _ ⟨hd6, hj6, hT6⟩ ?_
  clear hK K hbt hd5 hj5 hT5 hown5 hB5 hJ5
  refine plan_done ?_
  go_wp2
  go_end0
  have e1 := hL.out
  subst e1
  exact ⟨rfl, bo, bc, hJ6, hown6.out, hB6⟩
end
end Go.Proofs.YtpnpjblohijajabGreat
