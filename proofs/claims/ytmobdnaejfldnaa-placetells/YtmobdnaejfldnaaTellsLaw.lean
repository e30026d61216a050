/- paddocklaw4.PlaceTells returns true, for whatever maps and group, where package place answers as it has to. -/
import Derived.Test.YtmobdnaejfldnaaPlaceKnown
import Derived.Test.YtmobdnaejfldnaaRefActing
import Derived.Test.YtmobdnaejfldnaaEqMore
import Derived.Test.YtmobdnaejfldnaaPlaceMoved
namespace Go.Proofs.Ytmobdnaejfldnaa
set_option linter.unusedSimpArgs false
set_option linter.unusedVariables false
open Go.RowKit

theorem ints_eq (l : List Int) : decide (l = l) = true := decide_eq_true rfl

set_option maxRecDepth 100000 in
set_option maxHeartbeats 4000000 in
theorem ptells_rest (S : PlaceSpec) (m n : MapV) (g : Nat) (w : World) (hm : MapOk m) (hn : MapOk n) (hg : g < 256) :
    Calls Try.prog 4 #[.agg (mapC m), .agg (mapC n), .int .u8 g] w fun e w' => e = .returned (.bool true) ∧ Below w.heap.size w w' := by
  have hM0 : Has ((w.alloc (.cells (mapC m) 27)).alloc (.cells (mapC n) 27)) w.heap.size 27 (mapC m) := (Has.new _ _ _).alloc _
  have hN0 : Has ((w.alloc (.cells (mapC m) 27)).alloc (.cells (mapC n) 27)) (w.heap.size + 1) 27 (mapC n) := by
    have := Has.new (w.alloc (.cells (mapC m) 27)) 27 (mapC n)
    simpa using this
  have hb0 : Below w.heap.size w ((w.alloc (.cells (mapC m) 27)).alloc (.cells (mapC n) 27)) := ((Below.refl _ _).alloc (Nat.le_refl _) _).alloc (by simp) _
  go_enter Try.func4, Try.ntmps4
  go_wp2_with (first
    | (go_at_call 9; refine (pknown_any S _).mono ?_; rintro e w1 ⟨rfl, hb1⟩; have hM := hM0.later hb1; have hN := hN0.later hb1; have hb := hb0.trans (hb1.mono hb0.size); clear hb1 hN0 hM0 hb0)
    | (refine load_map m (by rfl) _ rfl w.heap.size rfl ?hg ?_; (case hg => exact hM)))
  refine (refacting_any m g _ hm hg).mono ?_
  rintro e w2 ⟨ao, c, rfl, hIx, hb2⟩
  replace hM := hM.later hb2
  replace hN := hN.later hb2
  replace hb2 := hb.trans (hb2.mono hb.size)
  clear hb
  have hact := fun w => S.acting m g w hm hg
  have hprm := fun w => S.primary m g w hm hg
  have hpr : Hid (primM m g = match actM m g with | [] => -1 | x :: _ => x) := rfl
  generalize primM m g = PR at *
  generalize actM m g = L at *
  have hcap := hIx.cap
  have hle := hIx.le
  have keep : ∀ W W' : World, (Has W w.heap.size 27 (mapC m) ∧ Has W (w.heap.size + 1) 27 (mapC n) ∧ Ix W ao c (L) ∧ Below w.heap.size w W) → Below W.heap.size W W' → (Has W' w.heap.size 27 (mapC m) ∧ Has W' (w.heap.size + 1) 27 (mapC n) ∧ Ix W' ao c (L) ∧ Below w.heap.size w W') :=
    fun W W' h hq => ⟨h.1.later hq, h.2.1.later hq, h.2.2.1.later hq, h.2.2.2.trans (hq.mono h.2.2.2.size)⟩
  have keepD : ∀ (W : World) (k : Nat), (Has W w.heap.size 27 (mapC m) ∧ Has W (w.heap.size + 1) 27 (mapC n) ∧ Ix W ao c (L) ∧ Below w.heap.size w W) → (Has (W.drewN k) w.heap.size 27 (mapC m) ∧ Has (W.drewN k) (w.heap.size + 1) 27 (mapC n) ∧ Ix (W.drewN k) ao c (L) ∧ Below w.heap.size w (W.drewN k)) :=
    fun W k h => ⟨h.1.drewN k, h.2.1.drewN k, h.2.2.1.drewN k, ⟨h.2.2.2.os, h.2.2.2.tape, h.2.2.2.output, h.2.2.2.size, h.2.2.2.block⟩⟩
  have hS0 : (Has w2 w.heap.size 27 (mapC m) ∧ Has w2 (w.heap.size + 1) 27 (mapC n) ∧ Ix w2 ao c (L) ∧ Below w.heap.size w w2) := ⟨hM, hN, hIx, hb2⟩
  by_cases h0 : L.length = 0
  · have hPR : PR = -1 := by
      have h1 : L = [] := List.eq_nil_of_length_eq_zero h0
      have h2 := hpr.out
      rw [h1] at h2
      exact h2
    subst hPR
    have hA : (L.length : Int) ≤ 0 := by omega
    have hA2 : decide ((0 : Int) < (L.length : Int)) = false := decide_eq_false (by omega)
    have hA3 : decide (0 < L.length) = false := decide_eq_false (by omega)
    clear h0 hpr
    go_wp2
    clear hA
    go_loopw [9, 10] (fun v i wr => ∃ k : Nat, k ≤ 4 ∧ i = .int .u8 k ∧ v = .int .i64 (movedTo m n k : Nat) ∧ Has wr w.heap.size 27 (mapC m) ∧ Has wr (w.heap.size + 1) 27 (mapC n) ∧ Ix wr ao c (L) ∧ Below w.heap.size w wr) (fun _ i _ => (4 - intOf i).toNat)
    case atStart => exact ⟨0, by decide, rfl, rfl, hS0⟩
    case round =>
      clear hS0 hM hN hIx hb2
      obtain ⟨k, hk, rfl, rfl, hS⟩ := hrel
      have hml := moved_le m n k
      by_cases hlt : k < 4
      · have hkI : (k : Int) < 4 := by omega
        replace hS : (Has wr.drew w.heap.size 27 (mapC m) ∧ Has wr.drew (w.heap.size + 1) 27 (mapC n) ∧ Ix wr.drew ao c (L) ∧ Below w.heap.size w wr.drew) := ⟨hS.1.drew, hS.2.1.drew, hS.2.2.1.drewN 1, hS.2.2.2.drew⟩
        by_cases he : pickM m k = pickM n k
        · have hdec : Hid (decide (pickM m k = pickM n k) = true) := decide_eq_true he
          have hstep : Hid _ := moved_yes he
          clear he
          go_wp2
          refine wp_region_plan (fun W => Has W w.heap.size 27 (mapC m) ∧ Has W (w.heap.size + 1) 27 (mapC n) ∧ Ix W ao c (L) ∧ Below w.heap.size w W) (Plan.of [(0, true), (1, true), (3, true), (4, true), (2, false), (5, false), (6, false), (7, true)] .done) (by kernel_rfl) (by kernel_rfl) (by kernel_rfl) (by kernel_rfl) hS ?_
          refine plan_take _ _ rfl (yields_map m (by rfl) _ rfl (w.heap.size) rfl (fun _ h => h.1)) ?_
          try simp only [Act.put, List.setIfInBounds_toArray, List.set_cons_zero, List.set_cons_succ]
          first
            | (refine plan_pass _ rfl (by rfl) ?_)
            | (refine plan_take _ _ rfl (.inl ⟨by rfl, fun W hS => by clear hS; go_simp; try with_reducible rfl⟩) ?_)
          try simp only [Act.put, List.setIfInBounds_toArray, List.set_cons_zero, List.set_cons_succ]
          refine plan_take _ _ rfl (yields_map n (by rfl) _ rfl (w.heap.size + 1) rfl (fun _ h => h.2.1)) ?_
          try simp only [Act.put, List.setIfInBounds_toArray, List.set_cons_zero, List.set_cons_succ]
          first
            | (refine plan_pass _ rfl (by rfl) ?_)
            | (refine plan_take _ _ rfl (.inl ⟨by rfl, fun W hS => by clear hS; go_simp; try with_reducible rfl⟩) ?_)
          try simp only [Act.put, List.setIfInBounds_toArray, List.set_cons_zero, List.set_cons_succ]
          refine plan_run _ rfl (fun K hK => ?_)
          go_simp
          refine (refpick_any m k _ hm (by omega)).mono ?_
          rintro e w3 ⟨a1, c1, rfl, hI1, hq⟩
          replace hS := keep _ _ hS hq
          refine hK.out _ _ hS ?_
          clear hK K hq
          refine plan_run _ rfl (fun K hK => ?_)
          go_simp
          refine (refpick_any n k _ hn (by omega)).mono ?_
          rintro e w4 ⟨a2, c2, rfl, hI2, hq⟩
          replace hS := keep _ _ hS hq
          replace hI1 := hI1.later hq
          refine hK.out _ _ hS ?_
          clear hK K hq
          refine plan_run _ rfl (fun K hK => ?_)
          go_simp
          refine (ints_any a1 a2 c1 c2 (pickM m k) (pickM n k) _ hI1 hI2).mono ?_
          rintro e w5 ⟨rfl, nq, rfl⟩
          replace hS := keepD _ nq hS
          rw [hdec.out]
          refine hK.out _ _ hS ?_
          clear hK K
          first
            | (refine plan_pass _ rfl (by rfl) ?_)
            | (refine plan_take _ _ rfl (.inl ⟨by rfl, fun W hS => by clear hS; go_simp; try with_reducible rfl⟩) ?_)
          try simp only [Act.put, List.setIfInBounds_toArray, List.set_cons_zero, List.set_cons_succ]
          refine plan_done ?_
          go_wp2
          go_roundw
          case rel => exact ⟨k + 1, by omega, by go_num, by first | (rw [hstep.out]; done) | (rw [hstep.out]; go_num), hS⟩
          case measure => simp [intOf]; omega
        · have hdec : Hid (decide (pickM m k = pickM n k) = false) := decide_eq_false he
          have hstep : Hid _ := moved_no he
          clear he
          go_wp2
          refine wp_region_plan (fun W => Has W w.heap.size 27 (mapC m) ∧ Has W (w.heap.size + 1) 27 (mapC n) ∧ Ix W ao c (L) ∧ Below w.heap.size w W) (Plan.of [(0, true), (1, true), (3, true), (4, true), (2, false), (5, false), (6, false), (7, true)] .done) (by kernel_rfl) (by kernel_rfl) (by kernel_rfl) (by kernel_rfl) hS ?_
          refine plan_take _ _ rfl (yields_map m (by rfl) _ rfl (w.heap.size) rfl (fun _ h => h.1)) ?_
          try simp only [Act.put, List.setIfInBounds_toArray, List.set_cons_zero, List.set_cons_succ]
          first
            | (refine plan_pass _ rfl (by rfl) ?_)
            | (refine plan_take _ _ rfl (.inl ⟨by rfl, fun W hS => by clear hS; go_simp; try with_reducible rfl⟩) ?_)
          try simp only [Act.put, List.setIfInBounds_toArray, List.set_cons_zero, List.set_cons_succ]
          refine plan_take _ _ rfl (yields_map n (by rfl) _ rfl (w.heap.size + 1) rfl (fun _ h => h.2.1)) ?_
          try simp only [Act.put, List.setIfInBounds_toArray, List.set_cons_zero, List.set_cons_succ]
          first
            | (refine plan_pass _ rfl (by rfl) ?_)
            | (refine plan_take _ _ rfl (.inl ⟨by rfl, fun W hS => by clear hS; go_simp; try with_reducible rfl⟩) ?_)
          try simp only [Act.put, List.setIfInBounds_toArray, List.set_cons_zero, List.set_cons_succ]
          refine plan_run _ rfl (fun K hK => ?_)
          go_simp
          refine (refpick_any m k _ hm (by omega)).mono ?_
          rintro e w3 ⟨a1, c1, rfl, hI1, hq⟩
          replace hS := keep _ _ hS hq
          refine hK.out _ _ hS ?_
          clear hK K hq
          refine plan_run _ rfl (fun K hK => ?_)
          go_simp
          refine (refpick_any n k _ hn (by omega)).mono ?_
          rintro e w4 ⟨a2, c2, rfl, hI2, hq⟩
          replace hS := keep _ _ hS hq
          replace hI1 := hI1.later hq
          refine hK.out _ _ hS ?_
          clear hK K hq
          refine plan_run _ rfl (fun K hK => ?_)
          go_simp
          refine (ints_any a1 a2 c1 c2 (pickM m k) (pickM n k) _ hI1 hI2).mono ?_
          rintro e w5 ⟨rfl, nq, rfl⟩
          replace hS := keepD _ nq hS
          rw [hdec.out]
          refine hK.out _ _ hS ?_
          clear hK K
          first
            | (refine plan_pass _ rfl (by rfl) ?_)
            | (refine plan_take _ _ rfl (.inl ⟨by rfl, fun W hS => by clear hS; go_simp; try with_reducible rfl⟩) ?_)
          try simp only [Act.put, List.setIfInBounds_toArray, List.set_cons_zero, List.set_cons_succ]
          refine plan_done ?_
          go_wp2
          go_roundw
          case rel => exact ⟨k + 1, by omega, by go_num, by first | (rw [hstep.out]; done) | (rw [hstep.out]; go_num), hS⟩
          case measure => simp [intOf]; omega
      · have e4 : k = 4 := by omega
        subst e4
        rw [show ((4 : Nat) : Int) = 4 from rfl]
        replace hS : (Has wr.drew w.heap.size 27 (mapC m) ∧ Has wr.drew (w.heap.size + 1) 27 (mapC n) ∧ Ix wr.drew ao c (L) ∧ Below w.heap.size w wr.drew) := ⟨hS.1.drew, hS.2.1.drew, hS.2.2.1.drewN 1, hS.2.2.2.drew⟩
        go_wp2
        refine wp_region_plan (fun W => Has W w.heap.size 27 (mapC m) ∧ Has W (w.heap.size + 1) 27 (mapC n) ∧ Ix W ao c (L) ∧ Below w.heap.size w W) (Plan.of [(0, true), (1, true), (3, true), (4, true), (2, false), (5, false), (6, false), (7, true), (8, true), (9, true), (11, true), (10, false), (12, false), (13, true), (14, true), (15, true), (16, true), (18, true), (17, false), (19, true), (20, true), (21, true), (22, true), (23, true), (25, true), (24, false), (26, true), (27, true), (28, true)] .done) (by kernel_rfl) (by kernel_rfl) (by kernel_rfl) (by kernel_rfl) hS ?_
        refine plan_take _ _ rfl (yields_map m (by rfl) _ rfl (w.heap.size) rfl (fun _ h => h.1)) ?_
        try simp only [Act.put, List.setIfInBounds_toArray, List.set_cons_zero, List.set_cons_succ]
        first
          | (refine plan_pass _ rfl (by rfl) ?_)
          | (refine plan_take _ _ rfl (.inl ⟨by rfl, fun W hS => by clear hS; go_simp; try with_reducible rfl⟩) ?_)
        try simp only [Act.put, List.setIfInBounds_toArray, List.set_cons_zero, List.set_cons_succ]
        refine plan_take _ _ rfl (yields_map m (by rfl) _ rfl (w.heap.size) rfl (fun _ h => h.1)) ?_
        try simp only [Act.put, List.setIfInBounds_toArray, List.set_cons_zero, List.set_cons_succ]
        first
          | (refine plan_pass _ rfl (by rfl) ?_)
          | (refine plan_take _ _ rfl (.inl ⟨by rfl, fun W hS => by clear hS; go_simp; try with_reducible rfl⟩) ?_)
        try simp only [Act.put, List.setIfInBounds_toArray, List.set_cons_zero, List.set_cons_succ]
        refine plan_run _ rfl (fun K hK => ?_)
        go_simp
        refine (S.pick m g _ hm hg).mono ?_
        rintro e w3 ⟨a1, c1, rfl, hI1, hq⟩
        replace hS := keep _ _ hS hq
        refine hK.out _ _ hS ?_
        clear hK K hq
        refine plan_run _ rfl (fun K hK => ?_)
        go_simp
        refine (refpick_any m g _ hm hg).mono ?_
        rintro e w4 ⟨a2, c2, rfl, hI2, hq⟩
        replace hS := keep _ _ hS hq
        replace hI1 := hI1.later hq
        refine hK.out _ _ hS ?_
        clear hK K hq
        refine plan_run _ rfl (fun K hK => ?_)
        go_simp
        refine (ints_any a1 a2 c1 c2 (pickM m g) (pickM m g) _ hI1 hI2).mono ?_
        rintro e w5 ⟨rfl, nq, rfl⟩
        replace hS := keepD _ nq hS
        rw [ints_eq]
        refine hK.out _ _ hS ?_
        clear hK K
        first
          | (refine plan_pass _ rfl (by rfl) ?_)
          | (refine plan_take _ _ rfl (.inl ⟨by rfl, fun W hS => by clear hS; go_simp; try with_reducible rfl⟩) ?_)
        try simp only [Act.put, List.setIfInBounds_toArray, List.set_cons_zero, List.set_cons_succ]
        refine plan_take _ _ rfl (yields_map m (by rfl) _ rfl (w.heap.size) rfl (fun _ h => h.1)) ?_
        try simp only [Act.put, List.setIfInBounds_toArray, List.set_cons_zero, List.set_cons_succ]
        iterate 2
          first
            | (refine plan_pass _ rfl (by rfl) ?_)
            | (refine plan_take _ _ rfl (.inl ⟨by rfl, fun W hS => by clear hS; go_simp; try with_reducible rfl⟩) ?_)
          try simp only [Act.put, List.setIfInBounds_toArray, List.set_cons_zero, List.set_cons_succ]
        refine plan_run _ rfl (fun K hK => ?_)
        go_simp
        refine (hact _).mono ?_
        rintro e w6 ⟨a3, c3, rfl, hI3, hq⟩
        replace hS := keep _ _ hS hq
        refine hK.out _ _ hS ?_
        clear hK K hq
        refine plan_run _ rfl (fun K hK => ?_)
        go_simp
        refine (ints_any a3 ao c3 c (L) (L) _ hI3 hS.2.2.1).mono ?_
        rintro e w7 ⟨rfl, nq, rfl⟩
        replace hS := keepD _ nq hS
        rw [ints_eq]
        refine hK.out _ _ hS ?_
        clear hK K
        iterate 2
          first
            | (refine plan_pass _ rfl (by rfl) ?_)
            | (refine plan_take _ _ rfl (.inl ⟨by rfl, fun W hS => by clear hS; go_simp; try with_reducible rfl⟩) ?_)
          try simp only [Act.put, List.setIfInBounds_toArray, List.set_cons_zero, List.set_cons_succ]
        refine plan_take _ _ rfl (yields_map m (by rfl) _ rfl (w.heap.size) rfl (fun _ h => h.1)) ?_
        try simp only [Act.put, List.setIfInBounds_toArray, List.set_cons_zero, List.set_cons_succ]
        iterate 2
          first
            | (refine plan_pass _ rfl (by rfl) ?_)
            | (refine plan_take _ _ rfl (.inl ⟨by rfl, fun W hS => by clear hS; go_simp; try with_reducible rfl⟩) ?_)
          try simp only [Act.put, List.setIfInBounds_toArray, List.set_cons_zero, List.set_cons_succ]
        refine plan_run _ rfl (fun K hK => ?_)
        go_simp
        refine (hprm _).mono ?_
        rintro e w8 ⟨rfl, hq⟩
        replace hS := keep _ _ hS hq
        refine hK.out _ _ hS ?_
        clear hK K hq
        iterate 3
          first
            | (refine plan_pass _ rfl (by rfl) ?_)
            | (refine plan_take _ _ rfl (.inl ⟨by rfl, fun W hS => by clear hS; go_simp; try with_reducible rfl⟩) ?_)
          try simp only [Act.put, List.setIfInBounds_toArray, List.set_cons_zero, List.set_cons_succ]
        refine plan_take _ _ rfl (yields_map m (by rfl) _ rfl (w.heap.size) rfl (fun _ h => h.1)) ?_
        try simp only [Act.put, List.setIfInBounds_toArray, List.set_cons_zero, List.set_cons_succ]
        refine plan_take _ _ rfl (yields_map n (by rfl) _ rfl (w.heap.size + 1) rfl (fun _ h => h.2.1)) ?_
        try simp only [Act.put, List.setIfInBounds_toArray, List.set_cons_zero, List.set_cons_succ]
        first
          | (refine plan_pass _ rfl (by rfl) ?_)
          | (refine plan_take _ _ rfl (.inl ⟨by rfl, fun W hS => by clear hS; go_simp; try with_reducible rfl⟩) ?_)
        try simp only [Act.put, List.setIfInBounds_toArray, List.set_cons_zero, List.set_cons_succ]
        refine plan_run _ rfl (fun K hK => ?_)
        go_simp
        refine (S.moved m n _ hm hn).mono ?_
        rintro e w9 ⟨rfl, hq⟩
        replace hS := keep _ _ hS hq
        refine hK.out _ _ hS ?_
        clear hK K hq
        iterate 3
          first
            | (refine plan_pass _ rfl (by rfl) ?_)
            | (refine plan_take _ _ rfl (.inl ⟨by rfl, fun W hS => by clear hS; go_simp; try with_reducible rfl⟩) ?_)
          try simp only [Act.put, List.setIfInBounds_toArray, List.set_cons_zero, List.set_cons_succ]
        refine plan_done ?_
        go_wp2
        go_ret
        exact ⟨rfl, hS.2.2.2⟩
  · have hA : (0 : Int) < (L.length : Int) := by omega
    have hA2 : decide ((0 : Int) < (L.length : Int)) = true := decide_eq_true hA
    have hA3 : decide (0 < L.length) = true := decide_eq_true (by omega)
    cases ao with
    | none => have h1 := hIx.nil rfl; omega
    | some ad =>
    have c0 : w2.cell? ad = some (.int .i64 PR) := by
      have h1 := hIx.at' ad rfl 0 (by omega)
      have e : ad.add 0 = ad := by cases ad; simp [Addr.add]
      rw [e] at h1
      rw [h1]
      have h2 := hpr.out
      cases L with
      | nil => simp at h0
      | cons x l => rw [h2]; rfl
    clear h0 hpr
    go_wp2
    clear hA
    go_loopw [9, 10] (fun v i wr => ∃ k : Nat, k ≤ 4 ∧ i = .int .u8 k ∧ v = .int .i64 (movedTo m n k : Nat) ∧ Has wr w.heap.size 27 (mapC m) ∧ Has wr (w.heap.size + 1) 27 (mapC n) ∧ Ix wr (some ad) c (L) ∧ Below w.heap.size w wr) (fun _ i _ => (4 - intOf i).toNat)
    case atStart => exact ⟨0, by decide, rfl, rfl, hS0⟩
    case round =>
      clear hS0 hM hN hIx hb2
      obtain ⟨k, hk, rfl, rfl, hS⟩ := hrel
      have hml := moved_le m n k
      by_cases hlt : k < 4
      · have hkI : (k : Int) < 4 := by omega
        replace hS : (Has wr.drew w.heap.size 27 (mapC m) ∧ Has wr.drew (w.heap.size + 1) 27 (mapC n) ∧ Ix wr.drew (some ad) c (L) ∧ Below w.heap.size w wr.drew) := ⟨hS.1.drew, hS.2.1.drew, hS.2.2.1.drewN 1, hS.2.2.2.drew⟩
        by_cases he : pickM m k = pickM n k
        · have hdec : Hid (decide (pickM m k = pickM n k) = true) := decide_eq_true he
          have hstep : Hid _ := moved_yes he
          clear he
          go_wp2
          refine wp_region_plan (fun W => Has W w.heap.size 27 (mapC m) ∧ Has W (w.heap.size + 1) 27 (mapC n) ∧ Ix W (some ad) c (L) ∧ Below w.heap.size w W) (Plan.of [(0, true), (1, true), (3, true), (4, true), (2, false), (5, false), (6, false), (7, true)] .done) (by kernel_rfl) (by kernel_rfl) (by kernel_rfl) (by kernel_rfl) hS ?_
          refine plan_take _ _ rfl (yields_map m (by rfl) _ rfl (w.heap.size) rfl (fun _ h => h.1)) ?_
          try simp only [Act.put, List.setIfInBounds_toArray, List.set_cons_zero, List.set_cons_succ]
          first
            | (refine plan_pass _ rfl (by rfl) ?_)
            | (refine plan_take _ _ rfl (.inl ⟨by rfl, fun W hS => by clear hS; go_simp; try with_reducible rfl⟩) ?_)
          try simp only [Act.put, List.setIfInBounds_toArray, List.set_cons_zero, List.set_cons_succ]
          refine plan_take _ _ rfl (yields_map n (by rfl) _ rfl (w.heap.size + 1) rfl (fun _ h => h.2.1)) ?_
          try simp only [Act.put, List.setIfInBounds_toArray, List.set_cons_zero, List.set_cons_succ]
          first
            | (refine plan_pass _ rfl (by rfl) ?_)
            | (refine plan_take _ _ rfl (.inl ⟨by rfl, fun W hS => by clear hS; go_simp; try with_reducible rfl⟩) ?_)
          try simp only [Act.put, List.setIfInBounds_toArray, List.set_cons_zero, List.set_cons_succ]
          refine plan_run _ rfl (fun K hK => ?_)
          go_simp
          refine (refpick_any m k _ hm (by omega)).mono ?_
          rintro e w3 ⟨a1, c1, rfl, hI1, hq⟩
          replace hS := keep _ _ hS hq
          refine hK.out _ _ hS ?_
          clear hK K hq
          refine plan_run _ rfl (fun K hK => ?_)
          go_simp
          refine (refpick_any n k _ hn (by omega)).mono ?_
          rintro e w4 ⟨a2, c2, rfl, hI2, hq⟩
          replace hS := keep _ _ hS hq
          replace hI1 := hI1.later hq
          refine hK.out _ _ hS ?_
          clear hK K hq
          refine plan_run _ rfl (fun K hK => ?_)
          go_simp
          refine (ints_any a1 a2 c1 c2 (pickM m k) (pickM n k) _ hI1 hI2).mono ?_
          rintro e w5 ⟨rfl, nq, rfl⟩
          replace hS := keepD _ nq hS
          rw [hdec.out]
          refine hK.out _ _ hS ?_
          clear hK K
          first
            | (refine plan_pass _ rfl (by rfl) ?_)
            | (refine plan_take _ _ rfl (.inl ⟨by rfl, fun W hS => by clear hS; go_simp; try with_reducible rfl⟩) ?_)
          try simp only [Act.put, List.setIfInBounds_toArray, List.set_cons_zero, List.set_cons_succ]
          refine plan_done ?_
          go_wp2
          go_roundw
          case rel => exact ⟨k + 1, by omega, by go_num, by first | (rw [hstep.out]; done) | (rw [hstep.out]; go_num), hS⟩
          case measure => simp [intOf]; omega
        · have hdec : Hid (decide (pickM m k = pickM n k) = false) := decide_eq_false he
          have hstep : Hid _ := moved_no he
          clear he
          go_wp2
          refine wp_region_plan (fun W => Has W w.heap.size 27 (mapC m) ∧ Has W (w.heap.size + 1) 27 (mapC n) ∧ Ix W (some ad) c (L) ∧ Below w.heap.size w W) (Plan.of [(0, true), (1, true), (3, true), (4, true), (2, false), (5, false), (6, false), (7, true)] .done) (by kernel_rfl) (by kernel_rfl) (by kernel_rfl) (by kernel_rfl) hS ?_
          refine plan_take _ _ rfl (yields_map m (by rfl) _ rfl (w.heap.size) rfl (fun _ h => h.1)) ?_
          try simp only [Act.put, List.setIfInBounds_toArray, List.set_cons_zero, List.set_cons_succ]
          first
            | (refine plan_pass _ rfl (by rfl) ?_)
            | (refine plan_take _ _ rfl (.inl ⟨by rfl, fun W hS => by clear hS; go_simp; try with_reducible rfl⟩) ?_)
          try simp only [Act.put, List.setIfInBounds_toArray, List.set_cons_zero, List.set_cons_succ]
          refine plan_take _ _ rfl (yields_map n (by rfl) _ rfl (w.heap.size + 1) rfl (fun _ h => h.2.1)) ?_
          try simp only [Act.put, List.setIfInBounds_toArray, List.set_cons_zero, List.set_cons_succ]
          first
            | (refine plan_pass _ rfl (by rfl) ?_)
            | (refine plan_take _ _ rfl (.inl ⟨by rfl, fun W hS => by clear hS; go_simp; try with_reducible rfl⟩) ?_)
          try simp only [Act.put, List.setIfInBounds_toArray, List.set_cons_zero, List.set_cons_succ]
          refine plan_run _ rfl (fun K hK => ?_)
          go_simp
          refine (refpick_any m k _ hm (by omega)).mono ?_
          rintro e w3 ⟨a1, c1, rfl, hI1, hq⟩
          replace hS := keep _ _ hS hq
          refine hK.out _ _ hS ?_
          clear hK K hq
          refine plan_run _ rfl (fun K hK => ?_)
          go_simp
          refine (refpick_any n k _ hn (by omega)).mono ?_
          rintro e w4 ⟨a2, c2, rfl, hI2, hq⟩
          replace hS := keep _ _ hS hq
          replace hI1 := hI1.later hq
          refine hK.out _ _ hS ?_
          clear hK K hq
          refine plan_run _ rfl (fun K hK => ?_)
          go_simp
          refine (ints_any a1 a2 c1 c2 (pickM m k) (pickM n k) _ hI1 hI2).mono ?_
          rintro e w5 ⟨rfl, nq, rfl⟩
          replace hS := keepD _ nq hS
          rw [hdec.out]
          refine hK.out _ _ hS ?_
          clear hK K
          first
            | (refine plan_pass _ rfl (by rfl) ?_)
            | (refine plan_take _ _ rfl (.inl ⟨by rfl, fun W hS => by clear hS; go_simp; try with_reducible rfl⟩) ?_)
          try simp only [Act.put, List.setIfInBounds_toArray, List.set_cons_zero, List.set_cons_succ]
          refine plan_done ?_
          go_wp2
          go_roundw
          case rel => exact ⟨k + 1, by omega, by go_num, by first | (rw [hstep.out]; done) | (rw [hstep.out]; go_num), hS⟩
          case measure => simp [intOf]; omega
      · have e4 : k = 4 := by omega
        subst e4
        rw [show ((4 : Nat) : Int) = 4 from rfl]
        replace hS : (Has wr.drew w.heap.size 27 (mapC m) ∧ Has wr.drew (w.heap.size + 1) 27 (mapC n) ∧ Ix wr.drew (some ad) c (L) ∧ Below w.heap.size w wr.drew) := ⟨hS.1.drew, hS.2.1.drew, hS.2.2.1.drewN 1, hS.2.2.2.drew⟩
        go_wp2
        refine wp_region_plan (fun W => Has W w.heap.size 27 (mapC m) ∧ Has W (w.heap.size + 1) 27 (mapC n) ∧ Ix W (some ad) c (L) ∧ Below w.heap.size w W) (Plan.of [(0, true), (1, true), (3, true), (4, true), (2, false), (5, false), (6, false), (7, true), (8, true), (9, true), (11, true), (10, false), (12, false), (13, true), (14, true), (15, true), (16, true), (18, true), (17, false), (19, true), (20, true), (21, true), (22, true), (23, true), (25, true), (24, false), (26, true), (27, true), (28, true)] .done) (by kernel_rfl) (by kernel_rfl) (by kernel_rfl) (by kernel_rfl) hS ?_
        refine plan_take _ _ rfl (yields_map m (by rfl) _ rfl (w.heap.size) rfl (fun _ h => h.1)) ?_
        try simp only [Act.put, List.setIfInBounds_toArray, List.set_cons_zero, List.set_cons_succ]
        first
          | (refine plan_pass _ rfl (by rfl) ?_)
          | (refine plan_take _ _ rfl (.inl ⟨by rfl, fun W hS => by clear hS; go_simp; try with_reducible rfl⟩) ?_)
        try simp only [Act.put, List.setIfInBounds_toArray, List.set_cons_zero, List.set_cons_succ]
        refine plan_take _ _ rfl (yields_map m (by rfl) _ rfl (w.heap.size) rfl (fun _ h => h.1)) ?_
        try simp only [Act.put, List.setIfInBounds_toArray, List.set_cons_zero, List.set_cons_succ]
        first
          | (refine plan_pass _ rfl (by rfl) ?_)
          | (refine plan_take _ _ rfl (.inl ⟨by rfl, fun W hS => by clear hS; go_simp; try with_reducible rfl⟩) ?_)
        try simp only [Act.put, List.setIfInBounds_toArray, List.set_cons_zero, List.set_cons_succ]
        refine plan_run _ rfl (fun K hK => ?_)
        go_simp
        refine (S.pick m g _ hm hg).mono ?_
        rintro e w3 ⟨a1, c1, rfl, hI1, hq⟩
        replace hS := keep _ _ hS hq
        refine hK.out _ _ hS ?_
        clear hK K hq
        refine plan_run _ rfl (fun K hK => ?_)
        go_simp
        refine (refpick_any m g _ hm hg).mono ?_
        rintro e w4 ⟨a2, c2, rfl, hI2, hq⟩
        replace hS := keep _ _ hS hq
        replace hI1 := hI1.later hq
        refine hK.out _ _ hS ?_
        clear hK K hq
        refine plan_run _ rfl (fun K hK => ?_)
        go_simp
        refine (ints_any a1 a2 c1 c2 (pickM m g) (pickM m g) _ hI1 hI2).mono ?_
        rintro e w5 ⟨rfl, nq, rfl⟩
        replace hS := keepD _ nq hS
        rw [ints_eq]
        refine hK.out _ _ hS ?_
        clear hK K
        first
          | (refine plan_pass _ rfl (by rfl) ?_)
          | (refine plan_take _ _ rfl (.inl ⟨by rfl, fun W hS => by clear hS; go_simp; try with_reducible rfl⟩) ?_)
        try simp only [Act.put, List.setIfInBounds_toArray, List.set_cons_zero, List.set_cons_succ]
        refine plan_take _ _ rfl (yields_map m (by rfl) _ rfl (w.heap.size) rfl (fun _ h => h.1)) ?_
        try simp only [Act.put, List.setIfInBounds_toArray, List.set_cons_zero, List.set_cons_succ]
        iterate 2
          first
            | (refine plan_pass _ rfl (by rfl) ?_)
            | (refine plan_take _ _ rfl (.inl ⟨by rfl, fun W hS => by clear hS; go_simp; try with_reducible rfl⟩) ?_)
          try simp only [Act.put, List.setIfInBounds_toArray, List.set_cons_zero, List.set_cons_succ]
        refine plan_run _ rfl (fun K hK => ?_)
        go_simp
        refine (hact _).mono ?_
        rintro e w6 ⟨a3, c3, rfl, hI3, hq⟩
        replace hS := keep _ _ hS hq
        refine hK.out _ _ hS ?_
        clear hK K hq
        refine plan_run _ rfl (fun K hK => ?_)
        go_simp
        refine (ints_any a3 (some ad) c3 c (L) (L) _ hI3 hS.2.2.1).mono ?_
        rintro e w7 ⟨rfl, nq, rfl⟩
        replace hS := keepD _ nq hS
        rw [ints_eq]
        refine hK.out _ _ hS ?_
        clear hK K
        iterate 2
          first
            | (refine plan_pass _ rfl (by rfl) ?_)
            | (refine plan_take _ _ rfl (.inl ⟨by rfl, fun W hS => by clear hS; go_simp; try with_reducible rfl⟩) ?_)
          try simp only [Act.put, List.setIfInBounds_toArray, List.set_cons_zero, List.set_cons_succ]
        refine plan_take _ _ rfl (yields_map m (by rfl) _ rfl (w.heap.size) rfl (fun _ h => h.1)) ?_
        try simp only [Act.put, List.setIfInBounds_toArray, List.set_cons_zero, List.set_cons_succ]
        iterate 2
          first
            | (refine plan_pass _ rfl (by rfl) ?_)
            | (refine plan_take _ _ rfl (.inl ⟨by rfl, fun W hS => by clear hS; go_simp; try with_reducible rfl⟩) ?_)
          try simp only [Act.put, List.setIfInBounds_toArray, List.set_cons_zero, List.set_cons_succ]
        refine plan_run _ rfl (fun K hK => ?_)
        go_simp
        refine (hprm _).mono ?_
        rintro e w8 ⟨rfl, hq⟩
        replace hS := keep _ _ hS hq
        refine hK.out _ _ hS ?_
        clear hK K hq
        iterate 3
          first
            | (refine plan_pass _ rfl (by rfl) ?_)
            | (refine plan_take _ _ rfl (.inl ⟨by rfl, fun W hS => by clear hS; go_simp; try with_reducible rfl⟩) ?_)
          try simp only [Act.put, List.setIfInBounds_toArray, List.set_cons_zero, List.set_cons_succ]
        refine plan_take _ _ rfl (yields_map m (by rfl) _ rfl (w.heap.size) rfl (fun _ h => h.1)) ?_
        try simp only [Act.put, List.setIfInBounds_toArray, List.set_cons_zero, List.set_cons_succ]
        refine plan_take _ _ rfl (yields_map n (by rfl) _ rfl (w.heap.size + 1) rfl (fun _ h => h.2.1)) ?_
        try simp only [Act.put, List.setIfInBounds_toArray, List.set_cons_zero, List.set_cons_succ]
        first
          | (refine plan_pass _ rfl (by rfl) ?_)
          | (refine plan_take _ _ rfl (.inl ⟨by rfl, fun W hS => by clear hS; go_simp; try with_reducible rfl⟩) ?_)
        try simp only [Act.put, List.setIfInBounds_toArray, List.set_cons_zero, List.set_cons_succ]
        refine plan_run _ rfl (fun K hK => ?_)
        go_simp
        refine (S.moved m n _ hm hn).mono ?_
        rintro e w9 ⟨rfl, hq⟩
        replace hS := keep _ _ hS hq
        refine hK.out _ _ hS ?_
        clear hK K hq
        iterate 3
          first
            | (refine plan_pass _ rfl (by rfl) ?_)
            | (refine plan_take _ _ rfl (.inl ⟨by rfl, fun W hS => by clear hS; go_simp; try with_reducible rfl⟩) ?_)
          try simp only [Act.put, List.setIfInBounds_toArray, List.set_cons_zero, List.set_cons_succ]
        refine plan_done ?_
        go_wp2
        go_ret
        exact ⟨rfl, hS.2.2.2⟩
end Go.Proofs.Ytmobdnaejfldnaa
