/- The contract of paddocklaw5.intervals, where both rows are the same. -/
import Derived.Test.YtmfgmdglpeadbaaCutFacts
namespace Go.Proofs.Ytmfgmdglpeadbaa
set_option linter.unusedSimpArgs false
set_option linter.unusedVariables false
open Go.RowKit

set_option maxRecDepth 100000 in
set_option maxHeartbeats 2000000 in
theorem ivs_same (ao bo : Option Addr) (c d : Nat) (l : List (Nat × List Int)) (w : World) (h : Iv w ao c l) (k : Iv w bo d l) :
    Calls Try.prog 25 #[.slice ao l.length c, .slice bo l.length d] w fun e w' => e = .returned (.bool true) ∧ ∃ n, w' = w.drewN n := by
  have hle := h.le
  have hcap := h.cap
  have kle := k.le
  have kcap := k.cap
  go_enter Try.func25, Try.ntmps25
  go_wp2
  go_loopw [5] (fun i wr => ∃ n q : Nat, n ≤ l.length ∧ i = .int .i64 n ∧ wr = w.drewN q) (fun i _ => l.length - (intOf i).toNat)
  case atStart => exact ⟨0, 0, Nat.zero_le _, rfl, rfl⟩
  case round =>
    obtain ⟨n, q, hn, rfl, rfl⟩ := hrel
    by_cases hlt : n < l.length
    · have hnI : (n : Int) < (l.length : Int) := by omega
      cases ao with
      | none => have := h.nil rfl; omega
      | some ad =>
        cases bo with
        | none => have := k.nil rfl; omega
        | some bd =>
          have hg : l[n]? = some (l[n].1, l[n].2) := List.getElem?_eq_getElem hlt
          obtain ⟨_, c1, a1, e1, c2, hI1⟩ := iv_get h hg
          obtain ⟨_, c3, a2, e2, c4, hI2⟩ := iv_get k hg
          clear hg
          generalize l[n].1 = s at *
          generalize l[n].2 = A at *
          have hS : ((w.drewN q).drew.cell? (ad.add (n * 2)) = some (.int .u32 s) ∧ (w.drewN q).drew.cell? ⟨(ad.add (n * 2)).block, (ad.add (n * 2)).off + 1, none⟩ = some (.slice a1 A.length e1) ∧ (w.drewN q).drew.cell? (bd.add (n * 2)) = some (.int .u32 s) ∧ (w.drewN q).drew.cell? ⟨(bd.add (n * 2)).block, (bd.add (n * 2)).off + 1, none⟩ = some (.slice a2 A.length e2)) := ⟨c1, c2, c3, c4⟩
          replace hI1 : Ix (w.drewN q).drew a1 e1 A := (hI1.drewN q).drewN 1
          replace hI2 : Ix (w.drewN q).drew a2 e2 A := (hI2.drewN q).drewN 1
          clear c1 c2 c3 c4
          go_wp2
          refine wp_region_plan (fun W => W.cell? (ad.add (n * 2)) = some (.int .u32 s) ∧ W.cell? ⟨(ad.add (n * 2)).block, (ad.add (n * 2)).off + 1, none⟩ = some (.slice a1 A.length e1) ∧ W.cell? (bd.add (n * 2)) = some (.int .u32 s) ∧ W.cell? ⟨(bd.add (n * 2)).block, (bd.add (n * 2)).off + 1, none⟩ = some (.slice a2 A.length e2)) (Plan.of [(0, true), (1, true), (2, true), (3, true), (4, true), (5, true), (6, true), (7, true), (8, true), (9, true), (10, true), (11, true), (12, true), (13, true), (14, true), (15, true), (16, true), (17, true), (18, true), (19, true), (20, true), (21, true), (22, false), (23, true), (24, true)] .done) (by kernel_rfl) (by kernel_rfl) (by kernel_rfl) (by kernel_rfl) hS ?_
          iterate 22
            first
              | (refine plan_pass _ rfl (by rfl) ?_)
              | (refine plan_take _ _ rfl (.inl ⟨by rfl, fun W hS => by obtain ⟨z1, z2, z3, z4⟩ := hS; go_simp; try with_reducible rfl⟩) ?_)
            try simp only [Act.put, List.setIfInBounds_toArray, List.set_cons_zero, List.set_cons_succ]
          refine plan_run _ rfl (fun K hK => ?_)
          go_simp
          refine (ints_any a1 a2 e1 e2 A A _ hI1 hI2).mono ?_
          rintro e w5 ⟨rfl, nq, rfl⟩
          rw [decide_eq_true rfl]
          refine hK.out _ _ hS ?_
          clear hK K hI1 hI2
          iterate 2
            first
              | (refine plan_pass _ rfl (by rfl) ?_)
              | (refine plan_take _ _ rfl (.inl ⟨by rfl, fun W hS => by obtain ⟨z1, z2, z3, z4⟩ := hS; go_simp; try with_reducible rfl⟩) ?_)
            try simp only [Act.put, List.setIfInBounds_toArray, List.set_cons_zero, List.set_cons_succ]
          refine plan_done ?_
          go_wp2
          go_roundw
          case rel => exact ⟨n + 1, q + 1 + nq, by omega, by go_num, by first | rfl | (rw [World.drewN_drewN, World.drewN_drewN]; done) | (simp [World.drewN_drewN, Nat.add_assoc])⟩
          case measure => simp [intOf]; omega
    · go_wp2
      go_ret
      exact ⟨rfl, q, rfl⟩
end Go.Proofs.Ytmfgmdglpeadbaa
