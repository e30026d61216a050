/- The contracts of slices.Equal (of ints) and place.Moved. -/
import Derived.Test.YtmobdnaejfldnabPlaceActing
import Derived.Test.YtmobdnaejfldnabPlaceSpec
import Derived.Test.YtmobdnaejfldnabPlan
import Derived.Test.YtmobdnaejfldnabEqMore
namespace Go.Proofs.Ytmobdnaejfldnab
set_option linter.unusedSimpArgs false
set_option linter.unusedVariables false
open Go.RowKit

theorem moved_yes {m n : MapV} {k : Nat} (h : pickM m k = pickM n k) : movedTo m n (k + 1) = movedTo m n k := by
  show movedTo m n k + (if pickM m k = pickM n k then 0 else 1) = _
  rw [if_pos h, Nat.add_zero]

theorem moved_no {m n : MapV} {k : Nat} (h : ¬ pickM m k = pickM n k) : movedTo m n (k + 1) = movedTo m n k + 1 := by
  show movedTo m n k + (if pickM m k = pickM n k then 0 else 1) = _
  rw [if_neg h]

theorem moved_le (m n : MapV) (k : Nat) : movedTo m n k ≤ k := by
  induction k with
  | zero => exact Nat.le_refl _
  | succ k ih =>
    show movedTo m n k + (if pickM m k = pickM n k then 0 else 1) ≤ k + 1
    split <;> omega

set_option maxRecDepth 100000 in
set_option maxHeartbeats 1000000 in
theorem equal_any (ao bo : Option Addr) (c d : Nat) (xs ys : List Int) (w : World) (h : Ix w ao c xs) (k : Ix w bo d ys) :
    Calls Try.prog 16 #[.slice ao xs.length c, .slice bo ys.length d] w fun e w' => e = .returned (.bool (decide (xs = ys))) ∧ ∃ n, w' = w.drewN n := by
  have hle := h.le
  have hcap := h.cap
  have kle := k.le
  have kcap := k.cap
  by_cases hn : xs.length = ys.length
  · have HN : Hid (xs.length = ys.length) := hn
    have hnn : (xs.length : Int) = (ys.length : Int) := by omega
    have hn' : ((xs.length : Int) == (ys.length : Int)) = true := by rw [beq_iff_eq]; exact hnn
    rw [← hn] at kle
    rw [← hn]
    clear hn hnn hn'
    go_enter Try.func16, Try.ntmps16
    go_wp2
    go_loopw [13] (fun i wr => ∃ n : Nat, n ≤ xs.length ∧ i = .int .i64 n ∧ (∀ j : Nat, j < n → xs.getD j 0 = ys.getD j 0) ∧ ∃ q, wr = w.drewN q) (fun i _ => xs.length - (intOf i).toNat)
    case atStart => exact ⟨0, Nat.zero_le _, rfl, fun j hj => absurd hj (by omega), 0, rfl⟩
    case round =>
      obtain ⟨n, hn, rfl, heq, q, rfl⟩ := hrel
      by_cases hlt : n < xs.length
      · have hlt2 : n < ys.length := by have := HN.out; omega
        cases ao with
        | none => have := h.nil rfl; omega
        | some ad =>
          cases bo with
          | none => have := k.nil rfl; omega
          | some bd =>
            have c1 := h.at' ad rfl n hlt
            have c2 := k.at' bd rfl n hlt2
            have e1 : xs.getD n 0 = xs[n] := by simp [List.getD, hlt]
            have e2 : ys.getD n 0 = ys[n] := by simp [List.getD, hlt2]
            have i1 : (n : Int) < (xs.length : Int) := by omega
            by_cases hx : xs[n] = ys[n]
            · have hup : Hid (∀ j : Nat, j < n + 1 → xs.getD j 0 = ys.getD j 0) := by
                intro j hj
                by_cases e : j < n
                · exact heq j e
                · have : j = n := by omega
                  subst this
                  rw [e1, e2, hx]
              have hxb : (xs[n] == ys[n]) = true := by rw [beq_iff_eq]; exact hx
              clear e1 e2 hx heq
              generalize xs[n] = X at *
              generalize ys[n] = Y at *
              go_wp2
              go_quiet (fail)
              go_wp2
              go_roundw
              case rel => exact ⟨n + 1, by omega, by go_num, hup.out, q + nq, by first | rfl | exact World.drewN_drewN _ _ _⟩
              case measure => simp [intOf]; omega
            · have hne : Hid (decide (xs = ys) = false) := decide_eq_false (fun e => hx (by subst e; rfl))
              have hxb : (xs[n] == ys[n]) = false := by rw [beq_eq_false_iff_ne]; exact hx
              clear e1 e2 hx heq
              generalize xs[n] = X at *
              generalize ys[n] = Y at *
              go_wp2
              go_quiet (fail)
              go_wp2
              go_ret
              exact ⟨ret_bool (by rw [hne.out]), q + nq, by first | rfl | exact World.drewN_drewN _ _ _⟩
      · have hall : Hid (decide (xs = ys) = true) := decide_eq_true (eq_of_take HN.out (fun j hj => heq j (by omega)))
        go_wp2
        go_ret
        exact ⟨ret_bool (by rw [hall.out]), _, rfl⟩
  · have hne : decide (xs = ys) = false := decide_eq_false (fun e => hn (by rw [e]))
    have hn' : ((xs.length : Int) == (ys.length : Int)) = false := by rw [beq_eq_false_iff_ne]; omega
    have hn2 : (xs.length == ys.length) = false := by rw [beq_eq_false_iff_ne]; exact hn
    go_enter Try.func16, Try.ntmps16
    go_wp2
    go_ret
    exact ⟨ret_bool (by rw [hne]), 0, rfl⟩

set_option maxRecDepth 100000 in
set_option maxHeartbeats 2000000 in
theorem moved_any (m n : MapV) (w : World) (hm : MapOk m) (hn : MapOk n) :
    Calls Try.prog 10 #[.agg (mapC m), .agg (mapC n)] w fun e w' => e = .returned (.int .i64 (movedTo m n 4 : Nat)) ∧ Below w.heap.size w w' := by
  have hM0 : Has ((w.alloc (.cells (mapC m) 28)).alloc (.cells (mapC n) 28)) w.heap.size 28 (mapC m) := (Has.new _ _ _).alloc _
  have hN0 : Has ((w.alloc (.cells (mapC m) 28)).alloc (.cells (mapC n) 28)) (w.heap.size + 1) 28 (mapC n) := by
    have := Has.new (w.alloc (.cells (mapC m) 28)) 28 (mapC n)
    simpa using this
  have hb0 : Below w.heap.size w ((w.alloc (.cells (mapC m) 28)).alloc (.cells (mapC n) 28)) := ((Below.refl _ _).alloc (Nat.le_refl _) _).alloc (by simp) _
  have keep : ∀ W W' : World, (Has W w.heap.size 28 (mapC m) ∧ Has W (w.heap.size + 1) 28 (mapC n) ∧ Below w.heap.size w W) → Below W.heap.size W W' → (Has W' w.heap.size 28 (mapC m) ∧ Has W' (w.heap.size + 1) 28 (mapC n) ∧ Below w.heap.size w W') :=
    fun W W' h hq => ⟨h.1.later hq, h.2.1.later hq, h.2.2.trans (hq.mono h.2.2.size)⟩
  have keepD : ∀ (W : World) (k : Nat), (Has W w.heap.size 28 (mapC m) ∧ Has W (w.heap.size + 1) 28 (mapC n) ∧ Below w.heap.size w W) → (Has (W.drewN k) w.heap.size 28 (mapC m) ∧ Has (W.drewN k) (w.heap.size + 1) 28 (mapC n) ∧ Below w.heap.size w (W.drewN k)) :=
    fun W k h => ⟨h.1.drewN k, h.2.1.drewN k, ⟨h.2.2.os, h.2.2.tape, h.2.2.output, h.2.2.size, h.2.2.block⟩⟩
  go_enter Try.func10, Try.ntmps10
  go_wp2
  go_loopw [5, 7] (fun v i wr => ∃ k : Nat, k ≤ 4 ∧ i = .int .u8 k ∧ v = .int .i64 (movedTo m n k : Nat) ∧ Has wr w.heap.size 28 (mapC m) ∧ Has wr (w.heap.size + 1) 28 (mapC n) ∧ Below w.heap.size w wr) (fun _ i _ => (4 - intOf i).toNat)
  case atStart => exact ⟨0, by decide, rfl, rfl, hM0, hN0, hb0⟩
  case round =>
    clear hM0 hN0 hb0
    obtain ⟨k, hk, rfl, rfl, hS⟩ := hrel
    have hml := moved_le m n k
    by_cases hlt : k < 4
    · have hkI : (k : Int) < 4 := by omega
      replace hS : (Has wr.drew w.heap.size 28 (mapC m) ∧ Has wr.drew (w.heap.size + 1) 28 (mapC n) ∧ Below w.heap.size w wr.drew) := ⟨hS.1.drew, hS.2.1.drew, hS.2.2.drew⟩
      by_cases he : pickM m k = pickM n k
      · have hdec : Hid (decide (pickM m k = pickM n k) = true) := decide_eq_true he
        have hstep : Hid _ := moved_yes he
        clear he
        go_wp2
        refine wp_region_plan (fun W => Has W w.heap.size 28 (mapC m) ∧ Has W (w.heap.size + 1) 28 (mapC n) ∧ Below w.heap.size w W) (Plan.of [(0, true), (1, true), (3, true), (4, true), (2, false), (5, false), (6, false), (7, true)] .done) (by kernel_rfl) (by kernel_rfl) (by kernel_rfl) (by kernel_rfl) hS ?_
        refine plan_take _ _ rfl (yields_map m (by rfl) _ rfl (w.heap.size) rfl (fun _ h => h.1)) ?_
        try simp only [Act.put, List.setIfInBounds_toArray, List.set_cons_zero, List.set_cons_succ]
        refine plan_take _ _ rfl (.inl ⟨by rfl, fun W hS => by clear hS; go_simp; try with_reducible rfl⟩) ?_
        try simp only [Act.put, List.setIfInBounds_toArray, List.set_cons_zero, List.set_cons_succ]
        refine plan_take _ _ rfl (yields_map n (by rfl) _ rfl (w.heap.size + 1) rfl (fun _ h => h.2.1)) ?_
        try simp only [Act.put, List.setIfInBounds_toArray, List.set_cons_zero, List.set_cons_succ]
        refine plan_take _ _ rfl (.inl ⟨by rfl, fun W hS => by clear hS; go_simp; try with_reducible rfl⟩) ?_
        try simp only [Act.put, List.setIfInBounds_toArray, List.set_cons_zero, List.set_cons_succ]
        refine plan_run _ rfl (fun K hK => ?_)
        go_simp
        refine (pick_any m k _ hm (by omega)).mono ?_
        rintro e w3 ⟨a1, c1, rfl, hI1, hq⟩
        replace hS := keep _ _ hS hq
        refine hK.out _ _ hS ?_
        clear hK K hq
        refine plan_run _ rfl (fun K hK => ?_)
        go_simp
        refine (pick_any n k _ hn (by omega)).mono ?_
        rintro e w4 ⟨a2, c2, rfl, hI2, hq⟩
        replace hS := keep _ _ hS hq
        replace hI1 := hI1.later hq
        refine hK.out _ _ hS ?_
        clear hK K hq
        refine plan_run _ rfl (fun K hK => ?_)
        go_simp
        refine (equal_any a1 a2 c1 c2 (pickM m k) (pickM n k) _ hI1 hI2).mono ?_
        rintro e w5 ⟨rfl, nq, rfl⟩
        replace hS := keepD _ nq hS
        rw [hdec.out]
        refine hK.out _ _ hS ?_
        clear hK K
        refine plan_take _ _ rfl (.inl ⟨by rfl, fun W hS => by clear hS; go_simp; try with_reducible rfl⟩) ?_
        try simp only [Act.put, List.setIfInBounds_toArray, List.set_cons_zero, List.set_cons_succ]
        refine plan_done ?_
        go_wp2
        go_roundw
        case rel => exact ⟨k + 1, by omega, by go_num, by first | (rw [hstep.out]; done) | (rw [hstep.out]; go_num), hS⟩
        case measure => simp [intOf]; omega
      · have hdec : Hid (decide (pickM m k = pickM n k) = false) := decide_eq_false he
        have hstep : Hid _ := moved_no he
        clear he
        go_wp2
        refine wp_region_plan (fun W => Has W w.heap.size 28 (mapC m) ∧ Has W (w.heap.size + 1) 28 (mapC n) ∧ Below w.heap.size w W) (Plan.of [(0, true), (1, true), (3, true), (4, true), (2, false), (5, false), (6, false), (7, true)] .done) (by kernel_rfl) (by kernel_rfl) (by kernel_rfl) (by kernel_rfl) hS ?_
        refine plan_take _ _ rfl (yields_map m (by rfl) _ rfl (w.heap.size) rfl (fun _ h => h.1)) ?_
        try simp only [Act.put, List.setIfInBounds_toArray, List.set_cons_zero, List.set_cons_succ]
        refine plan_take _ _ rfl (.inl ⟨by rfl, fun W hS => by clear hS; go_simp; try with_reducible rfl⟩) ?_
        try simp only [Act.put, List.setIfInBounds_toArray, List.set_cons_zero, List.set_cons_succ]
        refine plan_take _ _ rfl (yields_map n (by rfl) _ rfl (w.heap.size + 1) rfl (fun _ h => h.2.1)) ?_
        try simp only [Act.put, List.setIfInBounds_toArray, List.set_cons_zero, List.set_cons_succ]
        refine plan_take _ _ rfl (.inl ⟨by rfl, fun W hS => by clear hS; go_simp; try with_reducible rfl⟩) ?_
        try simp only [Act.put, List.setIfInBounds_toArray, List.set_cons_zero, List.set_cons_succ]
        refine plan_run _ rfl (fun K hK => ?_)
        go_simp
        refine (pick_any m k _ hm (by omega)).mono ?_
        rintro e w3 ⟨a1, c1, rfl, hI1, hq⟩
        replace hS := keep _ _ hS hq
        refine hK.out _ _ hS ?_
        clear hK K hq
        refine plan_run _ rfl (fun K hK => ?_)
        go_simp
        refine (pick_any n k _ hn (by omega)).mono ?_
        rintro e w4 ⟨a2, c2, rfl, hI2, hq⟩
        replace hS := keep _ _ hS hq
        replace hI1 := hI1.later hq
        refine hK.out _ _ hS ?_
        clear hK K hq
        refine plan_run _ rfl (fun K hK => ?_)
        go_simp
        refine (equal_any a1 a2 c1 c2 (pickM m k) (pickM n k) _ hI1 hI2).mono ?_
        rintro e w5 ⟨rfl, nq, rfl⟩
        replace hS := keepD _ nq hS
        rw [hdec.out]
        refine hK.out _ _ hS ?_
        clear hK K
        refine plan_take _ _ rfl (.inl ⟨by rfl, fun W hS => by clear hS; go_simp; try with_reducible rfl⟩) ?_
        try simp only [Act.put, List.setIfInBounds_toArray, List.set_cons_zero, List.set_cons_succ]
        refine plan_done ?_
        go_wp2
        go_roundw
        case rel => exact ⟨k + 1, by omega, by go_num, by first | (rw [hstep.out]; done) | (rw [hstep.out]; go_num), hS⟩
        case measure => simp [intOf]; omega
    · have e4 : k = 4 := by omega
      subst e4
      rw [show ((4 : Nat) : Int) = 4 from rfl]
      go_wp2
      go_ret
      exact ⟨rfl, hS.2.2⟩

theorem place_paid : PlaceSpec := ⟨pick_any, acting_any, primary_any, moved_any⟩
end Go.Proofs.Ytmobdnaejfldnab
