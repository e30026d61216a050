/- The contracts of ballot's Less, held, is, New, Promised. -/
import Derived.Test.YthpmkhbkbpifkaaBalMem
import Derived.Test.YthpmkhbkbpifkaaPackMaps
namespace Go.Proofs.Ythpmkhbkbpifkaa
set_option linter.unusedSimpArgs false
set_option linter.unusedVariables false
set_option maxRecDepth 100000
open Go.RowKit

theorem less_any (a b : BalV) (w : World) (ha : BalOk a) (hb : BalOk b) :
    Calls Try.prog 36 #[.agg (balC a), .agg (balC b)] w fun e w' => e = .returned (.bool (lessB a b)) ∧ Below w.heap.size w w' := by
  obtain ⟨n, k⟩ := a
  obtain ⟨m, l⟩ := b
  obtain ⟨h1, h2⟩ := ha
  obtain ⟨h3, h4⟩ := hb
  simp only at h1 h2 h3 h4
  show Calls Try.prog 36 #[.agg #[.int .u32 (n : Int), .int .u8 (k : Int)], .agg #[.int .u32 (m : Int), .int .u8 (l : Int)]] w _
  go_enter Try.func36, Try.ntmps36
  go_wp2
  all_goals
    go_ret
    refine ⟨ret_bool ?_, ((Below.refl _ _).alloc (Nat.le_refl _) _).alloc (by simp) _⟩
    rw [Bool.eq_iff_iff, lessB_is]
    simp only [beq_iff_eq, beq_eq_false_iff_ne, ne_eq] at *
    simp
    omega

def heldB (b : BalV) : BalV := ⟨if b.n < 1 then 1 else b.n, if 2 < b.who then 2 else b.who⟩
theorem heldB_ok {b : BalV} (h : BalOk b) : BalOk (heldB b) := by
  obtain ⟨h1, h2⟩ := h
  refine ⟨?_, ?_⟩
  · show (if b.n < 1 then 1 else b.n) < _
    split <;> omega
  · show (if 2 < b.who then 2 else b.who) < _
    split <;> omega
theorem same_heldB (b : BalV) : sameBal b (heldB b) = isB b := by
  obtain ⟨n, k⟩ := b
  rw [Bool.eq_iff_iff, sameBal_is, isB_is]
  unfold heldB
  simp only [BalV.mk.injEq]
  constructor
  · rintro ⟨h1, h2⟩
    split at h1 <;> split at h2 <;> omega
  · rintro ⟨h1, h2⟩
    rw [if_neg (by omega), if_neg (by omega)]
    exact ⟨rfl, rfl⟩

theorem bheld_any (b : BalV) (w : World) (hb : BalOk b) :
    Calls Try.prog 42 #[.agg (balC b)] w fun e w' => e = .returned (.agg (balC (heldB b))) ∧ Below w.heap.size w w' := by
  obtain ⟨w1, hw1, hB, hR, hbw⟩ := two_vars w 31 31 (balC b) (balC bal0)
  obtain ⟨c0, c1⟩ := bal_cells hB
  have hz := hR.row (balC (heldB b))
  have hbz := below_setRow hbw (show w.heap.size ≤ w.heap.size + 1 by omega) (balC (heldB b))
  have e1 : Hid ((if (1 : Int) > (b.n : Int) then (1 : Int) else (b.n : Int)) = (((heldB b).n : Nat) : Int)) := by show _ = (((if b.n < 1 then 1 else b.n : Nat)) : Int); split <;> split <;> omega
  have e2 : Hid ((if (2 : Int) < (b.who : Int) then (2 : Int) else (b.who : Int)) = (((heldB b).who : Nat) : Int)) := by show _ = (((if 2 < b.who then 2 else b.who : Nat)) : Int); split <;> split <;> omega
  go_enter Try.func42, Try.ntmps42
  go_wp2_with (first
    | (refine alloc_bal (by rfl) rfl ?_; rw [hw1])
    | (refine wpList_max (by rfl) _ _ _ rfl _ _ _ _ _ rfl rfl e1.out ?_)
    | (refine wpList_min (by rfl) _ _ _ rfl _ _ _ _ _ rfl rfl e2.out ?_)
    | (refine wpList_build_two (by rfl) 31 0 1 _ _ rfl _ _ rfl rfl (balC (heldB b)) (bal_built2 _ _) ?_)
    | (refine store_bal (heldB b) bal0 (by rfl) _ _ rfl (w.heap.size + 1) rfl rfl ?hg ?_; (case hg => exact hR)))
  exact ret_has rfl (w.heap.size + 1) rfl 31 (balC (heldB b)) _ Try.underlying31 rfl (bal_size _) hz rfl ⟨rfl, hbz⟩

theorem bis_any (b : BalV) (w : World) (hb : BalOk b) :
    Calls Try.prog 40 #[.agg (balC b)] w fun e w' => e = .returned (.bool (isB b)) ∧ Below w.heap.size w w' := by
  have hH := Has.new w 31 (balC b)
  have hbw := (Below.refl w.heap.size w).alloc (Nat.le_refl _) (.cells (balC b) 31)
  go_enter Try.func40, Try.ntmps40
  go_wp2
  refine wp_region_plan (fun W => Has W w.heap.size 31 (balC b) ∧ Below w.heap.size w W) (Plan.of [(0, true), (1, true), (2, false), (3, true), (4, true)] .done) (by kernel_rfl) (by kernel_rfl) (by kernel_rfl) (by kernel_rfl) ⟨hH.drew, hbw.drew⟩ ?_
  refine plan_take _ _ rfl (yields_bal b (by rfl) _ rfl _ rfl (fun _ h => h.1)) ?_
  refine plan_take _ _ rfl (yields_bal b (by rfl) _ rfl _ rfl (fun _ h => h.1)) ?_
  refine plan_run _ rfl (fun K hK => ?_)
  go_simp
  refine (bheld_any b _ hb).mono ?_
  rintro e w2 ⟨rfl, hb2⟩
  refine hK.out _ _ ⟨hH.drew.later hb2, hbw.drew.trans (hb2.mono hbw.drew.size)⟩ ?_
  clear hK K
  refine plan_take _ _ rfl (yields_bal_eq b (heldB b) hb (heldB_ok hb) (by rfl) _ _ _ rfl rfl rfl) ?_
  refine plan_take _ _ rfl (yields_assign (by rfl) _ rfl) ?_
  refine plan_done ?_
  go_wp2
  go_ret
  exact ⟨ret_bool (same_heldB b), hbw.drew.trans (hb2.mono hbw.drew.size)⟩

theorem bnew_any (w : World) : Calls Try.prog 19 #[] w fun e w' => ∃ p, e = .returned (.pointer (some ⟨p, 0, none⟩)) ∧ w.heap.size ≤ p ∧ Has w' p 77 (accC acc0) ∧ Below w.heap.size w w' := by
  obtain ⟨w1, hw1, hA, hb⟩ := one_var w 77 (accC acc0)
  go_enter Try.func19, Try.ntmps19
  go_wp2_with (first
    | (refine wpList_build_has (by rfl) 77 #[] rfl (accC acc0) (by simpa using acc_built0) ?_))
  go_ret
  exact ⟨w.heap.size, rfl, Nat.le_refl _, hw1 ▸ hA, hw1 ▸ hb⟩

theorem promised_any (p : Nat) (a : AccV) (w : World) (h : Has w p 77 (accC a)) :
    Calls Try.prog 20 #[.pointer (some ⟨p, 0, none⟩)] w fun e w' => e = .returned (.agg (balC a.pro)) ∧ Below w.heap.size w w' := by
  obtain ⟨w1, hw1, hR, hb⟩ := one_var w 31 (balC bal0)
  have hA := acc_pro (h.later hb)
  have hz := hR.row (balC a.pro)
  have hbz := below_setRow hb (Nat.le_refl _) (balC a.pro)
  go_enter Try.func20, Try.ntmps20
  go_wp2_with (first
    | (refine alloc_bal (by rfl) rfl ?_; rw [hw1])
    | (refine wpList_load_mid' (by rfl) 31 _ rfl p 0 rfl (balC a.pro).toList _ ?hg Try.underlying31 rfl (bal_size _) ?_; (case hg => exact hA))
    | (refine store_bal a.pro bal0 (by rfl) _ _ rfl w.heap.size rfl rfl ?hg ?_; (case hg => exact hR)))
  exact ret_has rfl w.heap.size rfl 31 (balC a.pro) _ Try.underlying31 rfl (bal_size _) hz rfl ⟨rfl, hbz⟩
end Go.Proofs.Ythpmkhbkbpifkaa
