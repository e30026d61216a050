/- The contract of Add, at the landed code. -/
import Derived.Test.YtlbokkbngbpmiaaHistIs
import Derived.Test.YtlbokkbngbpmiaaPackMaps
import Derived.Test.YtlbokkbngbpmiaaPackTools
namespace Go.Proofs.Ytlbokkbngbpmiaa
set_option linter.unusedSimpArgs false
set_option linter.unusedVariables false
set_option maxRecDepth 100000
open Go.RowKit

theorem off_put {F : Nat → Prop} (w : World) (b : Nat) (hb : F b) (o : Obj) : Off F w (putBlock w b o) :=
  ⟨rfl, rfl, rfl, by rw [putBlock_size]; exact Nat.le_refl _, fun k _ hn => putBlock_other w o (fun e => hn (e ▸ hb))⟩

set_option maxHeartbeats 4000000 in
theorem add_at (p b c : Nat) (xs : List IncV) (e : Nat) (x : IncV) (w : World) (h : IsAt w p b c xs) (heb : e < 4294967296) (hx : IncOk x) :
    Calls Try.prog 27 #[ptr p, .int .u32 e, .agg (incC x)] w fun en w' => en = .returned (.int .i64 (addH xs e x).1) ∧ IsAt w' p b c (addH xs e x).2 ∧ Off (fun k => k = p ∨ k = b ∨ k = c) w w' := by
  have hpt : ptr p = .pointer (some ⟨p, 0, none⟩) := rfl
  have hl := lenH h.good
  have hX := Has.new w 73 (incC x)
  have hb0 := (Below.refl w.heap.size w).alloc (Nat.le_refl _) (.cells (incC x) 73)
  have hh := h.later hb0
  have hw1 : w.heap.size < (w.alloc (.cells (incC x) 73)).heap.size := by simp
  obtain ⟨m, hm⟩ : ∃ m, m = xs.length + 1 := ⟨_, rfl⟩
  have hlast := last_at p b c xs _ hh
  rw [← hm, hpt] at hlast
  have hlook : lookN 1 (xs.length + 1) (epF xs) (.agg (mapC zeroM)) m = .agg (mapC (mapH xs xs.length)) := by
    rw [look_ep, mapE_yes (by omega)]
    subst hm
    rfl
  have hm' : Hid (m = xs.length + 1) := hm
  have hm60 : m ≤ 60 := by omega
  have hmI : (m : Int) ≤ 60 := by omega
  clear hm
  rw [hpt]
  go_enter Try.func27, Try.ntmps27
  go_wp2_with fail
  refine hlast.mono ?_
  rintro en w1 ⟨rfl, rfl⟩
  clear hlast
  generalize w.alloc (.cells (incC x) 73) = w1 at *
  by_cases h1 : e ≤ m
  · have h1I : (e : Int) ≤ (m : Int) := by omega
    have hA : Hid (addH xs e x = (51, xs)) := addH_old (by have := hm'.out; omega)
    clear h1
    go_wp2
    go_ret
    exact ⟨by rw [hA.out]; rfl, by rw [hA.out]; exact hh, Off.of hb0⟩
  · have h1I : (m : Int) < (e : Int) := by omega
    by_cases h2 : m + 1 < e
    · have h2I : (m : Int) + 1 < (e : Int) := by omega
      have hA : Hid (addH xs e x = (50, xs)) := addH_gap (by have := hm'.out; omega)
      clear h1 h2
      go_wp2
      go_ret
      exact ⟨by rw [hA.out]; rfl, by rw [hA.out]; exact hh, Off.of hb0⟩
    · have h2I : (e : Int) ≤ (m : Int) + 1 := by omega
      have he : Hid (e = xs.length + 2) := by have := hm'.out; show e = xs.length + 2; omega
      clear h1 h2
      have hS0 : ∀ W, Below w1.heap.size w1 W → IsAt W p b c xs ∧ Has W w.heap.size 73 (incC x) := fun W hW => ⟨hh.later hW, hX.later hW⟩
      have hok := okH h.good xs.length (Nat.le_refl _)
      go_wp2
      refine wp_region_plan (fun W => Below w1.heap.size w1 W) (Plan.of [(0, true), (1, true), (2, true), (3, true), (4, true), (5, true), (6, true)] (.either 7 (Plan.of [(8, true), (9, true), (10, true), (11, false), (12, false), (13, true)] .done) 11 (Plan.of [(7, false), (8, true), (9, true), (10, true), (12, false), (13, true)] .done))) (by kernel_rfl) (by kernel_rfl) (by kernel_rfl) (by kernel_rfl) (Below.refl _ w1).drew ?_
      iterate 3
        first
          | (refine plan_pass _ rfl (by rfl) ?_)
          | (refine plan_take _ _ rfl (.inl ⟨by rfl, fun W hS => by clear hS; go_simp; try with_reducible rfl⟩) ?_)
        try simp only [Act.put, List.setIfInBounds_toArray, List.set_cons_zero, List.set_cons_succ]
      iterate 1
        first
          | (refine plan_pass _ rfl (by rfl) ?_)
          | (refine plan_take _ _ rfl (.inl ⟨by rfl, fun W hS => by have z1 := (hS0 W hS).1.c0; go_simp; try with_reducible rfl⟩) ?_)
        try simp only [Act.put, List.setIfInBounds_toArray, List.set_cons_zero, List.set_cons_succ]
      iterate 1
        first
          | (refine plan_pass _ rfl (by rfl) ?_)
          | (refine plan_take _ _ rfl (.inl ⟨by rfl, fun W hS => by clear hS; go_simp; try with_reducible rfl⟩) ?_)
        try simp only [Act.put, List.setIfInBounds_toArray, List.set_cons_zero, List.set_cons_succ]
      refine plan_take _ _ rfl (yields_look (by rfl) 108 _ _ rfl rfl m rfl (fun W hS => (hS0 W hS).1.eps) _ _ under_mm Try.underlying25 _ zero_map _ hlook) ?_
      try simp only [Act.put, List.setIfInBounds_toArray, List.set_cons_zero, List.set_cons_succ]
      refine plan_take _ _ rfl (yields_inc x (by rfl) _ rfl (w.heap.size) rfl (fun W hS => (hS0 W hS).2)) ?_
      try simp only [Act.put, List.setIfInBounds_toArray, List.set_cons_zero, List.set_cons_succ]
      refine plan_either ?_ ?_
      · refine plan_run _ rfl (fun K hK => ?_)
        go_simp
        refine (apply_any (mapH xs xs.length) x _ hok hx).mono ?_
        rintro en w2 ⟨rfl, hq⟩
        have hb2 : Below w1.heap.size w1 w2 := (Below.refl _ w1).drew.trans (hq.mono (Nat.le_refl _))
        refine hK.out _ _ hb2 ?_
        clear hK K hq
        iterate 3
          first
            | (refine plan_pass _ rfl (by rfl) ?_)
            | (refine plan_take _ _ rfl (.inl ⟨by rfl, fun W hS => by clear hS; go_simp; try with_reducible rfl⟩) ?_)
          try simp only [Act.put, List.setIfInBounds_toArray, List.set_cons_zero, List.set_cons_succ]
        refine plan_alloc_has _ rfl (by rfl) 106 rfl (mapC zeroM) map_zero (hb2.alloc hb2.size _) ?_
        try simp only [Act.put, List.setIfInBounds_toArray, List.set_cons_zero, List.set_cons_succ]
        have hs2 := hb2.size
        have hbW := below_setRow (hb2.alloc hb2.size (.cells (mapC zeroM) 106)) hs2 (mapC (applyM (mapH xs xs.length) x))
        refine plan_store_has _ rfl (by rfl) 106 _ _ rfl w2.heap.size rfl (mapC (applyM (mapH xs xs.length) x)) rfl 106 (mapC zeroM) (map_size _) (by rw [mapC_size, mapC_size]) (mapC_one _) (Has.new _ _ _) hbW ?_
        try simp only [Act.put, List.setIfInBounds_toArray, List.set_cons_zero, List.set_cons_succ]
        have hM := (Has.new w2 106 (mapC zeroM)).row (mapC (applyM (mapH xs xs.length) x))
        generalize (w2.alloc (.cells (mapC zeroM) 106)).setRow w2.heap.size (mapC (applyM (mapH xs xs.length) x)) = w5 at *
        iterate 1
          first
            | (refine plan_pass _ rfl (by rfl) ?_)
            | (refine plan_take _ _ rfl (.inl ⟨by rfl, fun W hS => by clear hS; go_simp; try with_reducible rfl⟩) ?_)
          try simp only [Act.put, List.setIfInBounds_toArray, List.set_cons_zero, List.set_cons_succ]
        refine plan_done ?_
        generalize w2.heap.size = g at *
        cases hok : okA (mapH xs xs.length) x with
        | false =>
          have hno := addH_no (x := x) he.out hok
          have hA : Hid (addH xs e x = (40, xs)) := hno
          clear hno
          have hI2 := (hS0 _ hbW).1
          go_wp2
          go_ret
          exact ⟨by rw [hA.out]; rfl, by rw [hA.out]; exact hI2, Off.of (hb0.trans (hbW.mono hb0.size))⟩
        | true =>
          have hyes := addH_yes (x := x) he.out hok
          have hA : Hid (addH xs e x = (0, xs ++ [x])) := hyes
          clear hyes
          obtain ⟨hI2, hX2⟩ := hS0 _ hbW
          have hgb : g ≠ b := by have := hh.eps.lt; omega
          have hgc : g ≠ c := by have := hh.ins.lt; omega
          have hgx : w.heap.size ≠ b := by have := h.eps.lt; omega
          have hgy : w.heap.size ≠ c := by have := h.ins.lt; omega
          have ha1 : applyM (mapH xs xs.length) x = nextM (mapH xs xs.length) x := by unfold applyM; rw [hok]; rfl
          have hv1 : epF (xs ++ [x]) (xs.length + 1) = .agg (mapC (applyM (mapH xs xs.length) x)) := by unfold epF; rw [mapH_snoc, ha1]
          have hg1 : ∀ k, k < xs.length + 1 → epF xs k = epF (xs ++ [x]) k := fun k hk => by unfold epF; rw [mapH_app xs [x] (by omega)]
          have hv2 : inF (xs ++ [x]) xs.length = .agg (incC x) := by unfold inF; simp [List.getD]
          have hg2 : ∀ k, k < xs.length → inF xs k = inF (xs ++ [x]) k := fun k hk => by unfold inF; simp only [List.getD]; rw [List.getElem?_append_left hk]
          have hgood := Good.snoc hI2.good hok hx
          go_wp2
          refine wp_region_plan (fun V => Has V p 111 #[.map (some b), .map (some c)] ∧ Has V g 106 (mapC (applyM (mapH xs xs.length) x))) (Plan.of [(0, true), (1, true), (2, true), (3, true), (4, true), (5, true), (6, false)] .done) (by kernel_rfl) (by kernel_rfl) (by kernel_rfl) (by kernel_rfl) ⟨hI2.has.drew, hM.drew⟩ ?_
          iterate 3
            first
              | (refine plan_pass _ rfl (by rfl) ?_)
              | (refine plan_take _ _ rfl (.inl ⟨by rfl, fun W hS => by clear hS; go_simp; try with_reducible rfl⟩) ?_)
            try simp only [Act.put, List.setIfInBounds_toArray, List.set_cons_zero, List.set_cons_succ]
          iterate 1
            first
              | (refine plan_pass _ rfl (by rfl) ?_)
              | (refine plan_take _ _ rfl (.inl ⟨by rfl, fun W hS => by have z1 := (hS.1.cell 0).trans rfl; go_simp; try with_reducible rfl⟩) ?_)
            try simp only [Act.put, List.setIfInBounds_toArray, List.set_cons_zero, List.set_cons_succ]
          iterate 1
            first
              | (refine plan_pass _ rfl (by rfl) ?_)
              | (refine plan_take _ _ rfl (.inl ⟨by rfl, fun W hS => by clear hS; go_simp; try with_reducible rfl⟩) ?_)
            try simp only [Act.put, List.setIfInBounds_toArray, List.set_cons_zero, List.set_cons_succ]
          refine plan_take _ _ rfl (yields_map _ (by rfl) _ rfl (g) rfl (fun _ h => h.2)) ?_
          try simp only [Act.put, List.setIfInBounds_toArray, List.set_cons_zero, List.set_cons_succ]
          refine plan_next _ rfl (by rfl) 108 _ _ _ rfl rfl e rfl _ rfl hI2.eps.drew _ _ under_mm Try.underlying25 he.out (epF (xs ++ [x])) hg1 hv1 ⟨hI2.has.drew.put_other hI2.pb _, hM.drew.put_other hgb _⟩ ?_
          try simp only [Act.put, List.setIfInBounds_toArray, List.set_cons_zero, List.set_cons_succ]
          refine plan_done ?_
          have hE3 := hI2.eps.drew.put (m := xs.length + 1 + 1) (g := epF (xs ++ [x]))
          have hP3 := hI2.has.drew.put_other hI2.pb (.map (rowN 1 (epF (xs ++ [x])) 0 (xs.length + 1 + 1)).toArray (xs.length + 1 + 1))
          have hC3 := hI2.ins.drew.put_other (Ne.symm hI2.bc) (.map (rowN 1 (epF (xs ++ [x])) 0 (xs.length + 1 + 1)).toArray (xs.length + 1 + 1))
          have hX3 := hX2.drew.put_other hgx (.map (rowN 1 (epF (xs ++ [x])) 0 (xs.length + 1 + 1)).toArray (xs.length + 1 + 1))
          have hO3 : Off (fun k => k = p ∨ k = b ∨ k = c) w (putBlock w5.drew b (.map (rowN 1 (epF (xs ++ [x])) 0 (xs.length + 1 + 1)).toArray (xs.length + 1 + 1))) := (Off.of (hb0.trans (hbW.drew.mono hb0.size))).trans (off_put _ _ (.inr (.inl rfl)) _)
          generalize putBlock w5.drew b (.map (rowN 1 (epF (xs ++ [x])) 0 (xs.length + 1 + 1)).toArray (xs.length + 1 + 1)) = w6 at *
          go_wp2
          refine wp_region_plan (fun V => Has V p 111 #[.map (some b), .map (some c)] ∧ Has V w.heap.size 73 (incC x)) (Plan.of [(0, true), (1, true), (2, true), (3, true), (4, true), (5, true), (6, false)] .done) (by kernel_rfl) (by kernel_rfl) (by kernel_rfl) (by kernel_rfl) ⟨hP3.drew, hX3.drew⟩ ?_
          iterate 3
            first
              | (refine plan_pass _ rfl (by rfl) ?_)
              | (refine plan_take _ _ rfl (.inl ⟨by rfl, fun W hS => by clear hS; go_simp; try with_reducible rfl⟩) ?_)
            try simp only [Act.put, List.setIfInBounds_toArray, List.set_cons_zero, List.set_cons_succ]
          iterate 1
            first
              | (refine plan_pass _ rfl (by rfl) ?_)
              | (refine plan_take _ _ rfl (.inl ⟨by rfl, fun W hS => by have z1 := (hS.1.cell 1).trans rfl; go_simp; try with_reducible rfl⟩) ?_)
            try simp only [Act.put, List.setIfInBounds_toArray, List.set_cons_zero, List.set_cons_succ]
          iterate 1
            first
              | (refine plan_pass _ rfl (by rfl) ?_)
              | (refine plan_take _ _ rfl (.inl ⟨by rfl, fun W hS => by clear hS; go_simp; try with_reducible rfl⟩) ?_)
            try simp only [Act.put, List.setIfInBounds_toArray, List.set_cons_zero, List.set_cons_succ]
          refine plan_take _ _ rfl (yields_inc _ (by rfl) _ rfl (w.heap.size) rfl (fun _ h => h.2)) ?_
          try simp only [Act.put, List.setIfInBounds_toArray, List.set_cons_zero, List.set_cons_succ]
          refine plan_next _ rfl (by rfl) 109 _ _ _ rfl rfl e rfl _ rfl hC3.drew _ _ under_mi Try.underlying25 (by have := he.out; omega) (inF (xs ++ [x])) hg2 hv2 ⟨hP3.drew.put_other hI2.pc _, hX3.drew.put_other hgy _⟩ ?_
          try simp only [Act.put, List.setIfInBounds_toArray, List.set_cons_zero, List.set_cons_succ]
          refine plan_done ?_
          have hC4 := hC3.drew.put (m := xs.length + 1) (g := inF (xs ++ [x]))
          have hP4 := hP3.drew.put_other hI2.pc (.map (rowN 2 (inF (xs ++ [x])) 0 (xs.length + 1)).toArray (xs.length + 1))
          have hE4 := hE3.drew.put_other hI2.bc (.map (rowN 2 (inF (xs ++ [x])) 0 (xs.length + 1)).toArray (xs.length + 1))
          have hO4 : Off (fun k => k = p ∨ k = b ∨ k = c) w (putBlock w6.drew c (.map (rowN 2 (inF (xs ++ [x])) 0 (xs.length + 1)).toArray (xs.length + 1))) := (hO3.trans (Off.of (Below.refl _ _).drew)).trans (off_put _ _ (.inr (.inr rfl)) _)
          generalize putBlock w6.drew c (.map (rowN 2 (inF (xs ++ [x])) 0 (xs.length + 1)).toArray (xs.length + 1)) = w7 at *
          have hlen : (xs ++ [x]).length = xs.length + 1 := by simp
          go_wp2
          go_ret
          exact ⟨by rw [hA.out]; rfl, by rw [hA.out]; exact ⟨hgood, hP4, by rw [hlen]; exact hE4, by rw [hlen]; exact hC4, hI2.bc, hI2.pb, hI2.pc⟩, hO4⟩
      · refine plan_alloc_has _ rfl (by rfl) 106 rfl (mapC zeroM) map_zero ((Below.refl _ w1).drew.alloc (Nat.le_refl _) _) ?_
        try simp only [Act.put, List.setIfInBounds_toArray, List.set_cons_zero, List.set_cons_succ]
        have hM0 := Has.new w1.drew 106 (mapC zeroM)
        have hb1 : Below w1.heap.size w1 (w1.drew.alloc (.cells (mapC zeroM) 106)) := (Below.refl _ w1).drew.alloc (Nat.le_refl _) (.cells (mapC zeroM) 106)
        have hs2 : w1.heap.size ≤ w1.drew.heap.size := Nat.le_refl _
        generalize w1.drew.alloc (.cells (mapC zeroM) 106) = w2 at *
        generalize w1.drew.heap.size = g at *
        refine plan_run _ rfl (fun K hK => ?_)
        go_simp
        refine (apply_any (mapH xs xs.length) x _ hok hx).mono ?_
        rintro en w3 ⟨rfl, hq⟩
        have hb2 := hb1.trans (hq.mono hb1.size)
        replace hM0 := hM0.later hq
        refine hK.out _ _ hb2 ?_
        clear hK K hq
        iterate 3
          first
            | (refine plan_pass _ rfl (by rfl) ?_)
            | (refine plan_take _ _ rfl (.inl ⟨by rfl, fun W hS => by clear hS; go_simp; try with_reducible rfl⟩) ?_)
          try simp only [Act.put, List.setIfInBounds_toArray, List.set_cons_zero, List.set_cons_succ]
        have hbW := below_setRow hb2 hs2 (mapC (applyM (mapH xs xs.length) x))
        refine plan_store_has _ rfl (by rfl) 106 _ _ rfl g rfl (mapC (applyM (mapH xs xs.length) x)) rfl 106 (mapC zeroM) (map_size _) (by rw [mapC_size, mapC_size]) (mapC_one _) hM0 hbW ?_
        try simp only [Act.put, List.setIfInBounds_toArray, List.set_cons_zero, List.set_cons_succ]
        have hM := hM0.row (mapC (applyM (mapH xs xs.length) x))
        generalize w3.setRow g (mapC (applyM (mapH xs xs.length) x)) = w5 at *
        iterate 1
          first
            | (refine plan_pass _ rfl (by rfl) ?_)
            | (refine plan_take _ _ rfl (.inl ⟨by rfl, fun W hS => by clear hS; go_simp; try with_reducible rfl⟩) ?_)
          try simp only [Act.put, List.setIfInBounds_toArray, List.set_cons_zero, List.set_cons_succ]
        refine plan_done ?_
        cases hok : okA (mapH xs xs.length) x with
        | false =>
          have hno := addH_no (x := x) he.out hok
          have hA : Hid (addH xs e x = (40, xs)) := hno
          clear hno
          have hI2 := (hS0 _ hbW).1
          go_wp2
          go_ret
          exact ⟨by rw [hA.out]; rfl, by rw [hA.out]; exact hI2, Off.of (hb0.trans (hbW.mono hb0.size))⟩
        | true =>
          have hyes := addH_yes (x := x) he.out hok
          have hA : Hid (addH xs e x = (0, xs ++ [x])) := hyes
          clear hyes
          obtain ⟨hI2, hX2⟩ := hS0 _ hbW
          have hgb : g ≠ b := by have := hh.eps.lt; omega
          have hgc : g ≠ c := by have := hh.ins.lt; omega
          have hgx : w.heap.size ≠ b := by have := h.eps.lt; omega
          have hgy : w.heap.size ≠ c := by have := h.ins.lt; omega
          have ha1 : applyM (mapH xs xs.length) x = nextM (mapH xs xs.length) x := by unfold applyM; rw [hok]; rfl
          have hv1 : epF (xs ++ [x]) (xs.length + 1) = .agg (mapC (applyM (mapH xs xs.length) x)) := by unfold epF; rw [mapH_snoc, ha1]
          have hg1 : ∀ k, k < xs.length + 1 → epF xs k = epF (xs ++ [x]) k := fun k hk => by unfold epF; rw [mapH_app xs [x] (by omega)]
          have hv2 : inF (xs ++ [x]) xs.length = .agg (incC x) := by unfold inF; simp [List.getD]
          have hg2 : ∀ k, k < xs.length → inF xs k = inF (xs ++ [x]) k := fun k hk => by unfold inF; simp only [List.getD]; rw [List.getElem?_append_left hk]
          have hgood := Good.snoc hI2.good hok hx
          go_wp2
          refine wp_region_plan (fun V => Has V p 111 #[.map (some b), .map (some c)] ∧ Has V g 106 (mapC (applyM (mapH xs xs.length) x))) (Plan.of [(0, true), (1, true), (2, true), (3, true), (4, true), (5, true), (6, false)] .done) (by kernel_rfl) (by kernel_rfl) (by kernel_rfl) (by kernel_rfl) ⟨hI2.has.drew, hM.drew⟩ ?_
          iterate 3
            first
              | (refine plan_pass _ rfl (by rfl) ?_)
              | (refine plan_take _ _ rfl (.inl ⟨by rfl, fun W hS => by clear hS; go_simp; try with_reducible rfl⟩) ?_)
            try simp only [Act.put, List.setIfInBounds_toArray, List.set_cons_zero, List.set_cons_succ]
          iterate 1
            first
              | (refine plan_pass _ rfl (by rfl) ?_)
              | (refine plan_take _ _ rfl (.inl ⟨by rfl, fun W hS => by have z1 := (hS.1.cell 0).trans rfl; go_simp; try with_reducible rfl⟩) ?_)
            try simp only [Act.put, List.setIfInBounds_toArray, List.set_cons_zero, List.set_cons_succ]
          iterate 1
            first
              | (refine plan_pass _ rfl (by rfl) ?_)
              | (refine plan_take _ _ rfl (.inl ⟨by rfl, fun W hS => by clear hS; go_simp; try with_reducible rfl⟩) ?_)
            try simp only [Act.put, List.setIfInBounds_toArray, List.set_cons_zero, List.set_cons_succ]
          refine plan_take _ _ rfl (yields_map _ (by rfl) _ rfl (g) rfl (fun _ h => h.2)) ?_
          try simp only [Act.put, List.setIfInBounds_toArray, List.set_cons_zero, List.set_cons_succ]
          refine plan_next _ rfl (by rfl) 108 _ _ _ rfl rfl e rfl _ rfl hI2.eps.drew _ _ under_mm Try.underlying25 he.out (epF (xs ++ [x])) hg1 hv1 ⟨hI2.has.drew.put_other hI2.pb _, hM.drew.put_other hgb _⟩ ?_
          try simp only [Act.put, List.setIfInBounds_toArray, List.set_cons_zero, List.set_cons_succ]
          refine plan_done ?_
          have hE3 := hI2.eps.drew.put (m := xs.length + 1 + 1) (g := epF (xs ++ [x]))
          have hP3 := hI2.has.drew.put_other hI2.pb (.map (rowN 1 (epF (xs ++ [x])) 0 (xs.length + 1 + 1)).toArray (xs.length + 1 + 1))
          have hC3 := hI2.ins.drew.put_other (Ne.symm hI2.bc) (.map (rowN 1 (epF (xs ++ [x])) 0 (xs.length + 1 + 1)).toArray (xs.length + 1 + 1))
          have hX3 := hX2.drew.put_other hgx (.map (rowN 1 (epF (xs ++ [x])) 0 (xs.length + 1 + 1)).toArray (xs.length + 1 + 1))
          have hO3 : Off (fun k => k = p ∨ k = b ∨ k = c) w (putBlock w5.drew b (.map (rowN 1 (epF (xs ++ [x])) 0 (xs.length + 1 + 1)).toArray (xs.length + 1 + 1))) := (Off.of (hb0.trans (hbW.drew.mono hb0.size))).trans (off_put _ _ (.inr (.inl rfl)) _)
          generalize putBlock w5.drew b (.map (rowN 1 (epF (xs ++ [x])) 0 (xs.length + 1 + 1)).toArray (xs.length + 1 + 1)) = w6 at *
          go_wp2
          refine wp_region_plan (fun V => Has V p 111 #[.map (some b), .map (some c)] ∧ Has V w.heap.size 73 (incC x)) (Plan.of [(0, true), (1, true), (2, true), (3, true), (4, true), (5, true), (6, false)] .done) (by kernel_rfl) (by kernel_rfl) (by kernel_rfl) (by kernel_rfl) ⟨hP3.drew, hX3.drew⟩ ?_
          iterate 3
            first
              | (refine plan_pass _ rfl (by rfl) ?_)
              | (refine plan_take _ _ rfl (.inl ⟨by rfl, fun W hS => by clear hS; go_simp; try with_reducible rfl⟩) ?_)
            try simp only [Act.put, List.setIfInBounds_toArray, List.set_cons_zero, List.set_cons_succ]
          iterate 1
            first
              | (refine plan_pass _ rfl (by rfl) ?_)
              | (refine plan_take _ _ rfl (.inl ⟨by rfl, fun W hS => by have z1 := (hS.1.cell 1).trans rfl; go_simp; try with_reducible rfl⟩) ?_)
            try simp only [Act.put, List.setIfInBounds_toArray, List.set_cons_zero, List.set_cons_succ]
          iterate 1
            first
              | (refine plan_pass _ rfl (by rfl) ?_)
              | (refine plan_take _ _ rfl (.inl ⟨by rfl, fun W hS => by clear hS; go_simp; try with_reducible rfl⟩) ?_)
            try simp only [Act.put, List.setIfInBounds_toArray, List.set_cons_zero, List.set_cons_succ]
          refine plan_take _ _ rfl (yields_inc _ (by rfl) _ rfl (w.heap.size) rfl (fun _ h => h.2)) ?_
          try simp only [Act.put, List.setIfInBounds_toArray, List.set_cons_zero, List.set_cons_succ]
          refine plan_next _ rfl (by rfl) 109 _ _ _ rfl rfl e rfl _ rfl hC3.drew _ _ under_mi Try.underlying25 (by have := he.out; omega) (inF (xs ++ [x])) hg2 hv2 ⟨hP3.drew.put_other hI2.pc _, hX3.drew.put_other hgy _⟩ ?_
          try simp only [Act.put, List.setIfInBounds_toArray, List.set_cons_zero, List.set_cons_succ]
          refine plan_done ?_
          have hC4 := hC3.drew.put (m := xs.length + 1) (g := inF (xs ++ [x]))
          have hP4 := hP3.drew.put_other hI2.pc (.map (rowN 2 (inF (xs ++ [x])) 0 (xs.length + 1)).toArray (xs.length + 1))
          have hE4 := hE3.drew.put_other hI2.bc (.map (rowN 2 (inF (xs ++ [x])) 0 (xs.length + 1)).toArray (xs.length + 1))
          have hO4 : Off (fun k => k = p ∨ k = b ∨ k = c) w (putBlock w6.drew c (.map (rowN 2 (inF (xs ++ [x])) 0 (xs.length + 1)).toArray (xs.length + 1))) := (hO3.trans (Off.of (Below.refl _ _).drew)).trans (off_put _ _ (.inr (.inr rfl)) _)
          generalize putBlock w6.drew c (.map (rowN 2 (inF (xs ++ [x])) 0 (xs.length + 1)).toArray (xs.length + 1)) = w7 at *
          have hlen : (xs ++ [x]).length = xs.length + 1 := by simp
          go_wp2
          go_ret
          exact ⟨by rw [hA.out]; rfl, by rw [hA.out]; exact ⟨hgood, hP4, by rw [hlen]; exact hE4, by rw [hlen]; exact hC4, hI2.bc, hI2.pb, hI2.pc⟩, hO4⟩
end Go.Proofs.Ytlbokkbngbpmiaa
