/- DiskFl, joined. -/
import Derived.Test.YtpnpjblohijajabGreatGrp6
namespace Go.Proofs.YtpnpjblohijajabGreat
section
set_option linter.unusedSimpArgs false
set_option linter.unusedVariables false
set_option maxRecDepth 100000
open Go.RowKit Go.MapKept

/-- Some of the pending sectors are kept. -/
structure Part (n : Nat) (D : List UInt8) (l : PendL) (c : Nat) (seen : Array Nat) (E : List UInt8) : Prop where
  len : E.length = 64 * n
  kept : ∀ j y, l[j]? = some y → (c + j) ∈ seen → sec E y.1 = y.2
  same : ∀ i, i < n → (∀ j y, l[j]? = some y → (c + j) ∈ seen → y.1 ≠ i) → sec E i = sec D i
theorem Part.start {n c : Nat} {D : List UInt8} {l : PendL} (h : D.length = 64 * n) : Part n D l c #[] D := ⟨h, fun j y _ hs => by simp at hs, fun i _ _ => rfl⟩
theorem Part.next {n c j : Nat} {D E : List UInt8} {l : PendL} {seen : Array Nat} {y : Nat × List UInt8} (h : Part n D l c seen E) (hj : l[j]? = some y) (hn : (c + j) ∉ seen) (hy : y.1 < n ∧ y.2.length = 64) (hap : (l.map (·.1)).Nodup) : Part n D l c (seen.push (c + j)) (overB E (y.1 * 64) y.2) := by
  have hlt : ∀ {k z}, l[k]? = some z → k < l.length := fun hk => (List.getElem?_eq_some_iff.1 hk).1
  have huniq : ∀ k z, l[k]? = some z → z.1 = y.1 → k = j := fun k z hk hz => by
    have h1 : (l.map (·.1))[k]? = some y.1 := by rw [List.getElem?_map, hk, ← hz]; rfl
    have h2 : (l.map (·.1))[j]? = some y.1 := by rw [List.getElem?_map, hj]; rfl
    have hkl : k < (l.map (·.1)).length := by rw [List.length_map]; exact hlt hk
    have := (List.getElem?_inj hkl hap).1 (h1.trans h2.symm)
    exact this
  refine ⟨by rw [overB_length _ _ _ (by have := h.len; omega)]; exact h.len, fun k z hk hs => ?_, fun i hi hall => ?_⟩
  · rw [Array.mem_push] at hs
    by_cases hkj : k = j
    · subst hkj
      rw [hj] at hk
      obtain rfl := Option.some.inj hk
      exact sec_over_same h.len hy.2 hy.1
    · have hsk : (c + k) ∈ seen := by
        rcases hs with hs | hs
        · exact hs
        · omega
      have hne : z.1 ≠ y.1 := fun hz => hkj (huniq k z hk hz)
      by_cases hzn : z.1 < n
      · rw [sec_over_other h.len hy.2 hy.1 hzn hne]
        exact h.kept k z hk hsk
      · have e := h.kept k z hk hsk
        have e1 : sec E z.1 = [] := List.eq_nil_of_length_eq_zero (by unfold sec; rw [List.length_take, List.length_drop, h.len]; omega)
        have e2 : sec (overB E (y.1 * 64) y.2) z.1 = [] := List.eq_nil_of_length_eq_zero (by unfold sec; rw [List.length_take, List.length_drop, overB_length _ _ _ (by have := h.len; omega), h.len]; omega)
        rw [e2, ← e1]
        exact e
  · have hiy : i ≠ y.1 := fun z => hall j y hj (by rw [Array.mem_push]; exact .inr rfl) z.symm
    rw [sec_over_other h.len hy.2 hy.1 hi hiy]
    exact h.same i hi fun k z hk hs => hall k z hk (by rw [Array.mem_push]; exact .inl hs)
theorem Part.done {n c : Nat} {D E : List UInt8} {l : PendL} {seen : Array Nat} (h : Part n D l c seen E) (hall : ∀ j y, l[j]? = some y → (c + j) ∈ seen) : Full n D l E := by
  refine ⟨h.len, fun i hi hno => h.same i hi fun j y hj _ z => ?_, fun i s hs => ?_⟩
  · exact hno y.2 (by rw [← z]; exact List.mem_of_getElem? hj)
  · obtain ⟨j, hj⟩ := List.mem_iff_getElem?.1 hs
    exact h.kept j (i, s) hj (hall j _ hj)
theorem dflush_off (p kb mb n : Nat) (d : DskV) (w : World) (h : DiskAt w p kb mb n d) (ho : (stepM d).off = true) :
    Calls Tryz.prog 92 #[.pointer (some ⟨p, 0, none⟩)] w fun e w' => e = .returned (.int .i64 131) ∧ DiskAt w' p kb mb n (stepM d) ∧ But p w w' := by
  have hs := step_any p kb mb n d w h
  rw [show errM (stepM d) = 131 by unfold errM; rw [ho]; rfl] at hs
  replace hs : Hid _ := hs
  clear h
  go_enter Tryz.func92, Tryz.ntmps92
  go_wp2_with fail
  refine Calls.mono hs.out ?_
  rintro e w1 ⟨rfl, h1, hb⟩
  clear hs
  go_wp2
  go_ret
  exact ⟨rfl, h1, hb⟩
set_option maxHeartbeats 4000000 in
theorem dflush_on (p kb mb n : Nat) (d : DskV) (w : World) (h : DiskAt w p kb mb n d) (ho : (stepM d).off = false) :
    Calls Tryz.prog 92 #[.pointer (some ⟨p, 0, none⟩)] w fun e w' => e = .returned (.int .i64 0) ∧ ∃ E, Full n d.dat d.pend E ∧ DiskAt w' p kb mb n ⟨E, [], (stepM d).left, false⟩ ∧ OffF (DF p kb mb) w w' := by
  have hs := step_any p kb mb n d w h
  rw [show errM (stepM d) = 0 by unfold errM; rw [ho]; rfl] at hs
  have hlen := h.len
  have hap := h.apart
  have hse := h.sect
  have hn0 := h.n0
  have hn1 := h.n1
  have hdat := stepM_dat d
  have hpend := stepM_pend d
  obtain ⟨D2, hD2⟩ : ∃ D2, stepM d = D2 := ⟨_, rfl⟩
  rw [hD2] at hs ho hdat hpend ⊢
  replace hs : Hid _ := hs
  replace hse : Hid _ := hse
  clear hD2 h
  go_enter Tryz.func92, Tryz.ntmps92
  go_wp2_with fail
  refine Calls.mono hs.out ?_
  rintro e w1 ⟨rfl, h1, hb1⟩
  clear hs
  obtain ⟨st, hX⟩ := h1.disk
  have c0 : w1.cell? ⟨p, 0, none⟩ = some (.slice (some ⟨kb, 0, none⟩) n n) := (hX.cell 0).trans rfl
  have c1 : w1.cell? ⟨p, 1, none⟩ = some (.map (some mb)) := (hX.cell 1).trans rfl
  have hP := h1.pend
  have hdd := h1.dat
  have hl0 := h1.left
  have hpk := h1.pk
  have hpm := h1.pm
  have hkm := h1.km
  rw [hpend] at hP
  rw [hdat] at hdd
  have o1 : Hid (OffF (DF p kb mb) w w1) := (OffF.but hb1).more (fun k hk => .inl hk)
  have hw1 : w.heap.size ≤ w1.heap.size := hb1.size
  clear h1 hb1
  go_wp2_with (first
    | (at_range; refine wpList_rangeP rfl _ rfl mb d.pend rfl hP ?_; intro c w2 hI hq)
    | fail)
  replace hX := hX.later hq
  replace hdd := hdd.later hq
  replace o1 : Hid (OffF (DF p kb mb) w w2) := o1.out.trans (OffF.of hq)
  have hsz : w1.heap.size < w2.heap.size := hI.rlt
  have hpr : p ≠ w1.heap.size := fun z => by
    have := hX
    rw [z] at this
    unfold Has at this
    rw [hI.it] at this
    cases this
  have hkr : kb ≠ w1.heap.size := fun z => by
    have := hdd
    rw [z] at this
    unfold Has at this
    rw [hI.it] at this
    cases this
  clear hq hP c0 c1
  go_frame
  go_loopw [] (fun wr => ∃ seen E, IterAt wr w1.heap.size mb d.pend c seen ∧ Part n d.dat d.pend c seen E ∧ Has wr kb 66 (Bs E).toArray ∧ Has wr p 47 (diskC kb mb n st D2.left D2.off) ∧ Hid (OffF (DF p kb mb) w wr)) (fun wr => wr.rangeLeft mb w1.heap.size)
  case atStart => exact ⟨#[], d.dat, hI, Part.start hlen, hdd, hX, o1⟩
  case round =>
    clear hI hdd hX o1
    obtain ⟨seen, E, hI, hPt, hdd, hX, o1⟩ := hrel
    have hse' := hse.out
    replace hPt : Hid _ := hPt
    go_wp2_with (first
      | (at_next; refine wpList_nextP rfl _ rfl w1.heap.size mb c d.pend seen rfl hI ?_ ?_)
      | fail)
    · intro hall
      have hF : Hid (Full n d.dat d.pend E) := hPt.out.done hall
      have hP : PendAt wr mb d.pend := ⟨c, hI.map⟩
      have c1 : wr.cell? ⟨p, 1, none⟩ = some (.map (some mb)) := (hX.cell 1).trans rfl
      replace hdd : Hid _ := hdd
      replace hX : Hid _ := hX
      clear hall hPt hI hse'
      go_wp2_with (first
        | (refine wpList_clearP rfl _ rfl rfl hP ?_)
        | fail)
      intro ob hP2
      have hfin : Hid (DiskAt (putBlock wr mb ob) p kb mb n ⟨E, [], D2.left, false⟩ ∧ OffF (DF p kb mb) w (putBlock wr mb ob)) := by
        refine ⟨⟨⟨st, ?_⟩, (show Has wr kb 66 (Bs E).toArray from hdd.out).put_other hkm ob, hF.out.len, hP2, hn0, hn1, hl0, (fun x hx => by cases hx), by simp⟩, o1.out.trans (offPut wr ob (.inr (.inr rfl)))⟩
        have := (show Has wr p 47 (diskC kb mb n st D2.left D2.off) from hX.out).put_other hpm ob
        rw [ho] at this
        exact this
      clear hP c1 hP2
      go_wp2
      go_ret
      exact ⟨rfl, E, hF.out, hfin.out.1, hfin.out.2⟩
    · intro j i s w3 hM
      have hen := hM.entry
      obtain ⟨hyn, hyl⟩ := hse' (i, s) (List.mem_of_getElem? hM.at')
      have hI3 := hM.iter
      have hless := hM.less
      replace hdd := hM.but.has hdd hkr
      replace hX := hM.but.has hX hpr
      replace o1 : Hid (OffF (DF p kb mb) w w3) := by
        have h1 := o1.out
        have h2 := hM.but
        exact ⟨h2.os.trans h1.os, h2.tape.trans h1.tape, h2.output.trans h1.output, Nat.le_trans h1.size h2.size, fun k hk hn => (h2.block k (Nat.lt_of_lt_of_le hk h1.size) (by omega)).trans (h1.block k hk hn)⟩
      have hPn : Hid (Part n d.dat d.pend c (seen.push (c + j)) (overB E (i * 64) s)) := Part.next (y := (i, s)) hPt.out hM.at' hM.new ⟨hyn, hyl⟩ hap
      have hEl := hPt.out.len
      clear hM hse' hPt
      replace hyn : i < n := hyn
      replace hyl : s.length = 64 := hyl
      obtain ⟨w4, hw4, hS, hq⟩ := new_var w3 66 (secC sec0) (secC s)
      have hdd4 := hdd.later hq
      have hX4 := hX.later hq
      have hI4 : IterAt w4 w1.heap.size mb d.pend c (seen.push (c + j)) := hI3.later fun k hk _ => hq.block k hk
      replace o1 : Hid (OffF (DF p kb mb) w w4) := o1.out.trans (OffF.of hq)
      have hml4 : w4.rangeLeft mb w1.heap.size < wr.rangeLeft mb w1.heap.size := by rw [hI4.left, ← hI3.left]; exact hless
      have hs0 : sec0.length = 64 := by decide
      have z1 : Hid _ := sec_size s hyl
      have z2 : Hid _ := sec_one s
      have z3 : Hid _ := secC_same s sec0 hyl hs0
      have hl3 : kb < w3.heap.size := hdd.lt
      have hl4 : p < w3.heap.size := hX.lt
      have hl5 : w1.heap.size < w3.heap.size := hI3.rlt
      have hl6 : mb < w3.heap.size := hI3.blt
      replace hPn : Hid _ := hPn
      clear hdd hX hI3 hless hq
      go_wp2_with (first
        | (refine wpList_alloc_has (by rfl) 66 rfl (secC sec0) sec_zeroI ?_)
        | (refine wpList_store_to (by rfl) 66 _ _ rfl w3.heap.size rfl (secC s) rfl 66 (secC sec0) z1.out z3.out.symm z2.out ?hg w4 ?hW ?_; (case hg => exact Has.new _ _ _); (case hW => exact hw4); clear hw4)
        | fail)
      clear hen
      have hX5 := hX4.drew
      have hS5 := hS.drew
      have hdd5 := hdd4.drew
      have o5 : Hid (OffF (DF p kb mb) w w4.drew) := o1.out.trans (OffF.of (Below.refl _ _).drew)
      have hI5 : IterAt w4.drew w1.heap.size mb d.pend c (seen.push (c + j)) := hI4.later fun k hk _ => ((Below.refl _ w4).drew).block k hk
      have hml5 : w4.drew.rangeLeft mb w1.heap.size < wr.rangeLeft mb w1.heap.size := by rw [hI5.left, ← hI4.left]; exact hml4
      clear hX4 hS hdd4 o1 hI4 hml4
      have hiI : (i : Int) < (n : Int) := by omega
      have hi0 : (0 : Int) ≤ (i : Int) := by omega
      refine wp_region_plan (fun W => Has W p 47 (diskC kb mb n st D2.left D2.off) ∧ Has W w3.heap.size 66 (secC s)) (Plan.of [(0, true), (1, true), (2, true), (3, true), (4, true), (5, true), (6, true), (7, false)] .done) (by kernel_rfl) (by kernel_rfl) (by kernel_rfl) (by kernel_rfl) ⟨hX5, hS5⟩ ?_
      generalize w4.drew = w5 at *
      iterate 3
        first
          | (refine plan_pass _ rfl (by rfl) ?_)
          | (refine plan_take _ _ rfl (.inl ⟨by rfl, fun W hS => by clear hS; go_simp; try with_reducible rfl⟩) ?_)
        try simp only [Act.put, List.setIfInBounds_toArray, List.set_cons_zero, List.set_cons_succ]
      iterate 1
        first
          | (refine plan_pass _ rfl (by rfl) ?_)
          | (refine plan_take _ _ rfl (.inl ⟨by rfl, fun W hS => by have z : W.cell? ⟨p, 0, none⟩ = some (.slice (some ⟨kb, 0, none⟩) n n) := (hS.1.cell 0).trans rfl; go_simp; try with_reducible rfl⟩) ?_)
        try simp only [Act.put, List.setIfInBounds_toArray, List.set_cons_zero, List.set_cons_succ]
      iterate 1
        first
          | (refine plan_pass _ rfl (by rfl) ?_)
          | (refine plan_take _ _ rfl (.inl ⟨by rfl, fun W hS => by clear hS; go_simp; try with_reducible rfl⟩) ?_)
        try simp only [Act.put, List.setIfInBounds_toArray, List.set_cons_zero, List.set_cons_succ]
      refine plan_take _ _ rfl (yields_load_has (by rfl) 66 _ rfl w3.heap.size rfl 66 (secC s) _ Tryz.underlying66 rfl z1.out (fun W hW => hW.2)) ?_
      try simp only [Act.put, List.setIfInBounds_toArray, List.set_cons_zero, List.set_cons_succ]
      refine plan_take _ (.pointer (some ⟨kb, i * 64, none⟩)) rfl (.inl ⟨by rfl, fun W hS => by clear hS; go_simp; try with_reducible rfl⟩) ?_
      try simp only [Act.put, List.setIfInBounds_toArray, List.set_cons_zero, List.set_cons_succ]
      have hov : (overB E (i * 64) s).length = 64 * n := by rw [overB_length _ _ _ (by omega)]; exact hEl
      have hbt : But kb w5 (w5.setCells kb (i * 64) (secC s).toList) := but_cells _ _ _
      have hdd6 : Has (w5.setCells kb (i * 64) (secC s).toList) kb 66 (Bs (overB E (i * 64) s)).toArray := by
        have := hdd5.putL (Bs s) (i * 64) (by rw [Bs_length, Bs_length]; omega)
        rw [Bs_putL] at this
        exact this
      have hX6 := hbt.has hX5 hpk
      have hI6 : IterAt (w5.setCells kb (i * 64) (secC s).toList) w1.heap.size mb d.pend c (seen.push (c + j)) := hI5.later fun k hk hor => hbt.block k hk (by rcases hor with rfl | rfl <;> omega)
      have hml6 : (w5.setCells kb (i * 64) (secC s).toList).rangeLeft mb w1.heap.size < wr.rangeLeft mb w1.heap.size := by rw [hI6.left, ← hI5.left]; exact hml5
      have o6 : Hid (OffF (DF p kb mb) w (w5.setCells kb (i * 64) (secC s).toList)) := o5.out.trans ((OffF.but hbt).more (fun k hk => .inr (.inl hk)))
      have hth := hdd5.there (i * 64) 64 (by rw [List.size_toArray, Bs_length]; omega)
      refine plan_store_midJ rfl (by rfl) 66 _ _ rfl kb (i * 64) (secC s) rfl rfl ?_ z1.out z2.out ⟨hX6, hbt.has hS5 (by omega)⟩ ?_
      · rw [secC_size, hyl]; exact hth
      try simp only [Act.put, List.setIfInBounds_toArray, List.set_cons_zero, List.set_cons_succ]
      refine plan_done ?_
      generalize w5.setCells kb (i * 64) (secC s).toList = w6 at *
      clear hX5 hS5 hdd5 o5 hI5 hml5 hbt hth
      replace hI6 : Hid _ := hI6
      replace hml6 : Hid _ := hml6
      replace hdd6 : Hid _ := hdd6
      go_wp2
      go_roundw
      case rel => exact ⟨_, _, hI6.out, hPn.out, hdd6.out, hX6, o6⟩
      case measure => exact hml6.out
end
end Go.Proofs.YtpnpjblohijajabGreat
