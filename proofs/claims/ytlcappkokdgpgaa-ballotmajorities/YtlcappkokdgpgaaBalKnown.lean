/- paddocklaw10.known returns true. -/
import Derived.Test.YtlcappkokdgpgaaBalCalls
namespace Go.Proofs.Ytlcappkokdgpgaa
set_option linter.unusedSimpArgs false
set_option linter.unusedVariables false
set_option maxRecDepth 100000
open Go.RowKit

theorem bal_b1 (n : Nat) : Try.prog.built 29 [(0, .int .u32 (n : Int))] = some (balC ⟨n, 0⟩) := by kernel_rfl
theorem inc_b1 (k : Nat) : Try.prog.built 31 [(0, .int .u8 (k : Int))] = some (incC ⟨k, 0, 0⟩) := by kernel_rfl
theorem inc_b2 (k o : Nat) : Try.prog.built 31 [(0, .int .u8 (k : Int)), (1, .int .u8 (o : Int))] = some (incC ⟨k, o, 0⟩) := by kernel_rfl

/-- A ballot, an increment that a call handed back, into new variables. -/
theorem two_filled (w : World) (b : BalV) (x : IncV) : ∃ W, (w.alloc (.cells (balC bal0) 29)).alloc (.cells (incC inc0) 31) = W ∧ Has W w.heap.size 29 (balC bal0) ∧ Has (W.setRow w.heap.size (balC b)) (w.heap.size + 1) 31 (incC inc0) ∧
    ∃ V, (W.setRow w.heap.size (balC b)).setRow (w.heap.size + 1) (incC x) = V ∧ Has V w.heap.size 29 (balC b) ∧ Has V (w.heap.size + 1) 31 (incC x) ∧ Below w.heap.size w V := by
  obtain ⟨W, hW, h1, h2, hb⟩ := two_vars w 29 31 (balC bal0) (incC inc0)
  refine ⟨W, hW, h1, h2.row_other (by omega) _, _, rfl, (h1.row _).row_other (by omega) _, (h2.row_other (by omega) _).row _, ?_⟩
  exact below_setRow (below_setRow hb (Nat.le_refl _) _) (by omega) _

set_option maxHeartbeats 4000000 in
theorem bknown_any (w : World) : Calls Try.prog 9 #[] w fun e w' => e = .returned (.bool true) ∧ Below w.heap.size w w' := by
  go_enter Try.func9, Try.ntmps9
  go_wp2_with fail
  refine (bnew_any _).mono ?_
  rintro e w1 ⟨p, rfl, hp, hA, hb⟩
  have hc := prepare_any p acc0 ⟨2, 0⟩ w1 hA acc0_ok ⟨by decide, by decide⟩
  rw [show tellB acc0 ⟨2, 0⟩ = bal0 from rfl, show tellX acc0 ⟨2, 0⟩ = inc0 from rfl, show tellH acc0 ⟨2, 0⟩ = false from rfl, show errP acc0.pro ⟨2, 0⟩ = 0 from rfl, show prepM acc0 ⟨2, 0⟩ = ⟨⟨2, 0⟩, bal0, inc0⟩ from rfl] at hc
  go_wp2_with (first
    | (refine wpList_build_one (by rfl) 29 0 _ rfl _ rfl (balC ⟨2, 0⟩) (bal_b1 2) ?_))
  refine hc.mono ?_
  rintro e w2 ⟨rfl, hA2, hq⟩
  replace hb := hb.trans (hq.below hp hb.size)
  clear hc hq hA
  obtain ⟨w3, hw3, hL, hM, w4, hw4, hL4, hM4, hq⟩ := two_filled w2 bal0 inc0
  replace hA2 := hA2.later hq
  replace hb := hb.trans (hq.mono hb.size)
  have ha2 : AccOk ⟨⟨2, 0⟩, bal0, inc0⟩ := ⟨⟨by decide, by decide⟩, bal0_ok, inc0_ok⟩
  have hc := accept_any p ⟨⟨2, 0⟩, bal0, inc0⟩ ⟨1, 2⟩ ⟨4, 0, 0⟩ w4 hA2 ha2 ⟨by decide, by decide⟩ ⟨by decide, by decide, by decide, by decide⟩
  rw [show errA (AccV.mk ⟨2, 0⟩ bal0 inc0).pro ⟨1, 2⟩ ⟨4, 0, 0⟩ = 100 from rfl, show accM ⟨⟨2, 0⟩, bal0, inc0⟩ ⟨1, 2⟩ ⟨4, 0, 0⟩ = ⟨⟨2, 0⟩, bal0, inc0⟩ from rfl] at hc
  go_wp2_with (first
    | (refine alloc_bal (by rfl) rfl ?_)
    | (refine alloc_inc0 (by rfl) rfl ?_; rw [alloc_sz, hw3])
    | (refine store_bal bal0 bal0 (by rfl) _ _ rfl w2.heap.size rfl rfl ?hg ?_; (case hg => exact hL))
    | (refine store_inc inc0 inc0 (by rfl) _ _ rfl (w2.heap.size + 1) rfl rfl ?hg ?_; (case hg => exact hM); rw [hw4])
    | (refine wpList_build_two (by rfl) 29 0 1 _ _ rfl _ _ rfl rfl (balC ⟨1, 2⟩) (bal_built2 1 2) ?_)
    | (refine wpList_build_one (by rfl) 31 0 _ rfl _ rfl (incC ⟨4, 0, 0⟩) (inc_b1 4) ?_))
  refine hc.mono ?_
  rintro e w5 ⟨rfl, hA5, hq⟩
  replace hb := hb.trans (hq.below hp hb.size)
  clear hc hq hA2 hL hM hw3 hw4 hL4 hM4
  have hc := accept_any p ⟨⟨2, 0⟩, bal0, inc0⟩ ⟨2, 0⟩ ⟨2, 1, 0⟩ w5 hA5 ha2 ⟨by decide, by decide⟩ ⟨by decide, by decide, by decide, by decide⟩
  rw [show errA (AccV.mk ⟨2, 0⟩ bal0 inc0).pro ⟨2, 0⟩ ⟨2, 1, 0⟩ = 0 from rfl, show accM ⟨⟨2, 0⟩, bal0, inc0⟩ ⟨2, 0⟩ ⟨2, 1, 0⟩ = ⟨⟨2, 0⟩, ⟨2, 0⟩, ⟨2, 1, 0⟩⟩ from rfl] at hc
  go_wp2_with (first
    | (refine wpList_build_one (by rfl) 29 0 _ rfl _ rfl (balC ⟨2, 0⟩) (bal_b1 2) ?_)
    | (refine wpList_build_two (by rfl) 31 0 1 _ _ rfl _ _ rfl rfl (incC ⟨2, 1, 0⟩) (inc_b2 2 1) ?_))
  refine hc.mono ?_
  rintro e w6 ⟨rfl, hA6, hq⟩
  replace hb := hb.trans (hq.below hp hb.size)
  clear hc hq hA5
  have ha6 : AccOk ⟨⟨2, 0⟩, ⟨2, 0⟩, ⟨2, 1, 0⟩⟩ := ⟨⟨by decide, by decide⟩, ⟨by decide, by decide⟩, ⟨by decide, by decide, by decide, by decide⟩⟩
  have hc := accepted_any p _ w6 hA6 ha6
  rw [show hasA ⟨⟨2, 0⟩, ⟨2, 0⟩, ⟨2, 1, 0⟩⟩ = true from rfl] at hc
  go_wp2_with fail
  refine hc.mono ?_
  rintro e w7 ⟨rfl, hq⟩
  replace hA6 := hA6.later hq
  replace hb := hb.trans (hq.mono hb.size)
  clear hc hq
  obtain ⟨w8, hw8, hL, hM, w9, hw9, hL9, hM9, hq⟩ := two_filled w7 ⟨2, 0⟩ ⟨2, 1, 0⟩
  replace hA6 := hA6.later hq
  replace hb := hb.trans (hq.mono hb.size)
  have c1 := (hM9.cell 1).trans (show _ = some (.int .u8 1) from rfl)
  have hc := promised_any p _ w9 hA6
  have hl := fun W => less_any ⟨1, 2⟩ ⟨2, 0⟩ W ⟨by decide, by decide⟩ ⟨by decide, by decide⟩
  rw [show lessB ⟨1, 2⟩ ⟨2, 0⟩ = true from rfl] at hl
  go_wp2_with (first
    | (refine alloc_bal (by rfl) rfl ?_)
    | (refine alloc_inc0 (by rfl) rfl ?_; rw [alloc_sz, hw8])
    | (refine store_bal ⟨2, 0⟩ bal0 (by rfl) _ _ rfl w7.heap.size rfl rfl ?hg ?_; (case hg => exact hL))
    | (refine store_inc ⟨2, 1, 0⟩ inc0 (by rfl) _ _ rfl (w7.heap.size + 1) rfl rfl ?hg ?_; (case hg => exact hM); rw [hw9]))
  refine hc.mono ?_
  rintro e w10 ⟨rfl, hq⟩
  replace hb := hb.trans (hq.mono hb.size)
  clear hc hq c1
  go_wp2_with (first
    | (refine wpList_build_one (by rfl) 29 0 _ rfl _ rfl (balC ⟨2, 0⟩) (bal_b1 2) ?_)
    | (refine wpList_build_two (by rfl) 29 0 1 _ _ rfl _ _ rfl rfl (balC ⟨1, 2⟩) (bal_built2 1 2) ?_)
    | (refine bin_bal_eq ⟨2, 0⟩ ⟨2, 0⟩ ⟨by decide, by decide⟩ ⟨by decide, by decide⟩ (by rfl) _ _ _ rfl rfl rfl ?_; rw [show sameBal ⟨2, 0⟩ ⟨2, 0⟩ = true from rfl]))
  refine (hl _).mono ?_
  rintro e w11 ⟨rfl, hq⟩
  replace hb := hb.trans (hq.mono hb.size)
  clear hl hq
  go_wp2
  go_ret
  exact ⟨rfl, hb⟩
end Go.Proofs.Ytlcappkokdgpgaa
