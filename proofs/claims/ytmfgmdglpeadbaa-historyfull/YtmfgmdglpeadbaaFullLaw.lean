/- paddocklaw5.HistoryFull returns true, for whatever increment, where package history answers as it has to. -/
import Derived.Test.YtmfgmdglpeadbaaHistKnown
import Derived.Test.YtmfgmdglpeadbaaIsMaps
import Derived.Test.YtmfgmdglpeadbaaEqMore
namespace Go.Proofs.Ytmfgmdglpeadbaa
set_option linter.unusedSimpArgs false
set_option linter.unusedVariables false
open Go.RowKit

theorem rep_app (n : Nat) (x : IncV) : List.replicate n x ++ [x] = List.replicate (n + 1) x := by rw [List.replicate_succ']

theorem rep_good {x : IncV} (hx : isInc x = true) (ho : IncOk x) (n : Nat) (h : n ≤ 59) : Good (List.replicate n x) := by
  induction n with
  | zero => exact Good.nil
  | succ n ih =>
    have hg := ih (by omega)
    rw [← rep_app]
    refine hg.snoc ?_ ho
    rw [List.length_replicate, okA_is]
    refine ⟨isH hg n (by simp), hx, ?_⟩
    rw [epochH _ n (by simp)]
    omega

theorem rep_ok {x : IncV} (hx : isInc x = true) (ho : IncOk x) {n : Nat} (h : n ≤ 58) : okA (mapH (List.replicate n x) (List.replicate n x).length) x = true := by
  rw [okA_is, List.length_replicate]
  refine ⟨isH (rep_good hx ho n (by omega)) n (by simp), hx, ?_⟩
  rw [epochH _ n (by simp)]
  omega

theorem rep_add {x : IncV} (hx : isInc x = true) (ho : IncOk x) {n : Nat} (h : n ≤ 58) : addH (List.replicate n x) (n + 2) x = (0, List.replicate (n + 1) x) := by
  rw [addH_yes (by simp) (rep_ok hx ho h), rep_app]

theorem rep_full (x : IncV) : addH (List.replicate 59 x) 61 x = (40, List.replicate 59 x) := by
  refine addH_no (by simp) ?_
  cases h : okA (mapH (List.replicate 59 x) (List.replicate 59 x).length) x with
  | false => rfl
  | true =>
    have := ((okA_is _ _).1 h).2.2
    rw [List.length_replicate, epochH _ 59 (by simp)] at this
    omega

theorem rep_old (x : IncV) : addH (List.replicate 59 x) 60 x = (51, List.replicate 59 x) := addH_old (by simp)

theorem bad_add {x : IncV} (hx : isInc x = false) : addH [] 2 x = (40, []) := by
  refine addH_no rfl ?_
  unfold okA
  rw [hx]
  simp

set_option maxRecDepth 100000 in
set_option maxHeartbeats 2000000 in
theorem full_walk {Is : World → Nat → List IncV → (Nat → Prop) → Prop} (S : HistSpec Is) (x : IncV) (w : World) (hx : IncOk x) :
    Calls Try.prog 7 #[.agg (incC x)] w fun e w' => e = .returned (.bool true) ∧ Below w.heap.size w w' := by
  have hX0 := Has.new w 32 (incC x)
  have hb0 := (Below.refl w.heap.size w).alloc (Nat.le_refl _) (.cells (incC x) 32)
  go_enter Try.func7, Try.ntmps7
  go_wp2_with (first
    | (go_at_call 9; refine (hknown_any S _).mono ?_; rintro e w1 ⟨rfl, hq⟩; have hX := hX0.later hq; have hb := hb0.trans (hq.mono hb0.size); clear hq hX0 hb0)
    | (refine load_inc x (by rfl) _ rfl w.heap.size rfl ?hg ?_; (case hg => exact hX)))
  refine (isinc_any x _ hx).mono ?_
  rintro e w2 ⟨rfl, hq⟩
  replace hX := hX.later hq
  replace hb := hb.trans (hq.mono hb.size)
  clear hq
  cases hI : isInc x with
  | false =>
    go_wp2
    have hS : (Has w2.drew w.heap.size 32 (incC x)) := hX.drew
    refine wp_region_plan (fun W => Has W w.heap.size 32 (incC x)) (Plan.of [(1, true), (0, false), (2, false), (3, true), (4, true)] .done) (by kernel_rfl) (by kernel_rfl) (by kernel_rfl) (by kernel_rfl) hS ?_
    refine plan_take _ _ rfl (yields_inc x (by rfl) _ rfl (w.heap.size) rfl (fun _ h => h)) ?_
    try simp only [Act.put, List.setIfInBounds_toArray, List.set_cons_zero, List.set_cons_succ]
    refine plan_run _ rfl (fun K hK => ?_)
    go_simp
    refine (S.new _).mono ?_
    rintro e w3 ⟨p, F, rfl, hH, hF, hq⟩
    replace hS := hS.later hq
    have hb3 := hb.drew.trans (hq.mono hb.size)
    refine hK.out _ _ hS ?_
    clear hK K hq
    refine plan_run _ rfl (fun K hK => ?_)
    go_simp
    refine (S.add 2 x hH (by decide) hx).mono ?_
    rintro e w4 ⟨rfl, ⟨F1, hH1, hF1⟩, ho⟩
    have hF' : ∀ b, F b → w.heap.size < b := fun b h => by have h1 := hF b h; have h2 := hX.lt; have h3 : w2.drew.heap.size = w2.heap.size := rfl; omega
    replace hS := ho.has hS (fun h => absurd (hF' _ h) (by omega))
    have hb4 := hb3.trans (ho.below (fun b h => Nat.le_of_lt (hF' b h)) hb3.size)
    rw [bad_add hI]
    refine hK.out _ _ hS ?_
    clear hK K
    iterate 2
      first
        | (refine plan_pass _ rfl (by rfl) ?_)
        | (refine plan_take _ _ rfl (.inl ⟨by rfl, fun W hS => by clear hS; go_simp; try with_reducible rfl⟩) ?_)
      try simp only [Act.put, List.setIfInBounds_toArray, List.set_cons_zero, List.set_cons_succ]
    refine plan_done ?_
    go_wp2
    go_ret
    exact ⟨rfl, hb4⟩
  | true =>
    go_wp2_with fail
    refine (S.new _).mono ?_
    rintro e w3 ⟨p, F, rfl, hH, hF, hq⟩
    have hlt := hX.lt
    replace hX := hX.later hq
    replace hb := hb.trans (hq.mono hb.size)
    clear hq
    have hpt : ptr p = .pointer (some ⟨p, 0, none⟩) := rfl
    rw [hpt]
    have hF : ∀ b, F b → w.heap.size < b := fun b h => by have h1 := hF b h; omega
    have hra := fun n (h : n ≤ 58) => rep_add hI hx h
    have hrf := rep_full x
    have hro := rep_old x
    clear hI
    go_wp2
    go_loopw [4] (fun i wr => ∃ (n : Nat) (F : Nat → Prop), n ≤ 59 ∧ i = .int .u32 (n + 2 : Nat) ∧ Is wr p (List.replicate n x) F ∧ (∀ b, F b → w.heap.size < b) ∧ Has wr w.heap.size 32 (incC x) ∧ Below w.heap.size w wr) (fun i _ => (61 - intOf i).toNat)
    case atStart => exact ⟨0, F, by decide, rfl, hH, hF, hX, hb⟩
    case round =>
      clear hH hF hX hb
      obtain ⟨n, F1, hn, rfl, hH, hF, hX, hb⟩ := hrel
      by_cases hlt2 : n < 59
      · have hnI : ((n + 2 : Nat) : Int) ≤ 60 := by omega
        have hadd := S.add (n + 2) x hH (by omega) hx
        rw [hra n (by omega)] at hadd
        go_wp2_with (first
          | (refine load_inc x (by rfl) _ rfl w.heap.size rfl ?hg ?_; (case hg => exact hX)))
        refine hadd.mono ?_
        rintro e w4 ⟨rfl, ⟨F2, hH2, hF2⟩, ho⟩
        have hXl := hX.lt
        replace hX := ho.has hX (fun h => absurd (hF _ h) (by omega))
        have hXlt := hXl
        have hb4 := hb.trans (ho.below (fun b h => Nat.le_of_lt (hF b h)) hb.size)
        have hF2' : ∀ b, F2 b → w.heap.size < b := fun b h => by
          rcases hF2 b h with h | h
          · exact hF b h
          · omega
        clear ho hadd hH hF hb hF2
        go_wp2
        go_roundw
        case rel => exact ⟨n + 1, F2, by omega, by go_num, hH2, hF2', hX, hb4⟩
        case measure => simp [intOf]; omega
      · have e5 : n = 59 := by omega
        subst e5
        rw [show ((59 + 2 : Nat) : Int) = 61 from rfl]
        have hlast := S.last hH
        rw [List.length_replicate] at hlast
        go_wp2_with fail
        refine hlast.mono ?_
        rintro e w4 ⟨rfl, hq⟩
        replace hH := S.later hH hq
        replace hX := hX.later hq
        replace hb := hb.trans (hq.mono hb.size)
        clear hq hlast
        have hadd := S.add 61 x hH (by decide) hx
        rw [hrf] at hadd
        go_wp2_with (first
          | (refine load_inc x (by first | rfl | simp [Region.wanted, yielded]) _ rfl w.heap.size rfl ?hg ?_; (case hg => exact hX)))
        refine hadd.mono ?_
        rintro e w5 ⟨rfl, ⟨F2, hH2, hF2⟩, ho⟩
        have hXl := hX.lt
        replace hX := ho.has hX (fun h => absurd (hF _ h) (by omega))
        have hb5 := hb.trans (ho.below (fun b h => Nat.le_of_lt (hF b h)) hb.size)
        have hF2' : ∀ b, F2 b → w.heap.size < b := fun b h => by
          rcases hF2 b h with h | h
          · exact hF b h
          · omega
        clear ho hadd hH hF hb hF2
        have hadd := S.add 60 x hH2 (by decide) hx
        rw [hro] at hadd
        go_wp2_with (first
          | (refine load_inc x (by first | rfl | simp [Region.wanted, yielded]) _ rfl w.heap.size rfl ?hg ?_; (case hg => exact hX)))
        refine hadd.mono ?_
        rintro e w6 ⟨rfl, ⟨F3, hH3, hF3⟩, ho⟩
        have hb6 := hb5.trans (ho.below (fun b h => Nat.le_of_lt (hF2' b h)) hb5.size)
        clear ho hadd hH2 hb5
        have hlast := S.last hH3
        rw [List.length_replicate] at hlast
        go_wp2_with fail
        refine hlast.mono ?_
        rintro e w7 ⟨rfl, hq⟩
        replace hb6 := hb6.trans (hq.mono hb6.size)
        clear hq hlast
        go_wp2
        go_ret
        exact ⟨rfl, hb6⟩
end Go.Proofs.Ytmfgmdglpeadbaa
