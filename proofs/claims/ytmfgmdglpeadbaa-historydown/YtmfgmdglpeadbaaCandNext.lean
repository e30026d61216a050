/- The contract of place.next: who draws best at the first try at which that one fits. -/
import Derived.Test.YtmfgmdglpeadbaaCandStraws
import Derived.Test.YtmfgmdglpeadbaaCandList
namespace Go.Proofs.Ytmfgmdglpeadbaa
set_option linter.unusedSimpArgs false
set_option linter.unusedVariables false
open Go.RowKit

theorem drawsC_candL (m : MapV) (g : Nat) (q : Int) : drawsC (candL m) g q = drawsL m g q := by
  unfold drawsC candL drawsL
  rw [List.map_map]
  rfl

theorem free_cands (m : MapV) (out : List Int) (b : Int) : ((out.map (candOf m)).all fun y => y.host != (candOf m b).host) = freeB m out b := by
  unfold freeB
  rw [List.all_map]
  congr 1
  funext k
  rw [apartB_host]
  rfl

theorem candL_wt {m : MapV} (hm : MapOk m) : ∀ x ∈ candL m, -9223372036854775808 ≤ x.wt ∧ x.wt ≤ 9223372036854775807 := by
  intro x hx
  unfold candL at hx
  obtain ⟨k, hk, rfl⟩ := List.mem_map.1 hx
  obtain ⟨i, hi, rfl, _⟩ := mem_inL.1 hk
  show -9223372036854775808 ≤ wtI m i ∧ wtI m i ≤ _
  rw [wtI_at m i hi]
  exact hm.wt _

theorem candL_at {m : MapV} {n : Nat} (h : n < (candL m).length) (h2 : n < (inL m).length) : (candL m)[n] = candOf m (inL m)[n] := by
  simp [candL]

/-- What place.next tells. -/
def nextC (m : MapV) (b : Int) : CandV := if 0 ≤ b then candOf m b else ⟨0, 0, 0⟩

theorem nextC_yes {m : MapV} {b : Int} (h : 0 ≤ b) : nextC m b = candOf m b := if_pos h
theorem nextC_no {m : MapV} {b : Int} (h : ¬ 0 ≤ b) : nextC m b = ⟨0, 0, 0⟩ := if_neg h

set_option maxRecDepth 100000 in
set_option maxHeartbeats 2000000 in
theorem next_any (m : MapV) (g r : Nat) (out : List Int) (ao bo : Option Addr) (c d : Nat) (w : World) (hm : MapOk m) (hg : g < 256) (hr : r < 3) (ho : out.length ≤ 3) (hS : Sl w ao c 3 (candR (candL m))) (hO : Sl w bo d 3 (candR (out.map (candOf m)))) :
    Calls Try.prog 50 #[.slice ao (candL m).length c, .slice bo out.length d, .func (.func 47) #[] #[], .int .u8 g, .int .i64 r] w fun e w' => e = .returned (.tuple #[.agg (candC (nextC m (tryI m g r out 20))), .bool (decide (0 ≤ tryI m g r out 20))]) ∧ Below w.heap.size w w' := by
  have hcl : Hid _ := candL_len m
  have hil : (candL m).length ≤ 5 := by rw [candL_len]; exact inL_len m
  have hcap := hS.cap
  have hle := hS.le
  rw [candR_len] at hle
  have hR := Has.new w 87 (candC ⟨0, 0, 0⟩)
  have hb0 := (Below.refl w.heap.size w).alloc (Nat.le_refl _) (.cells (candC ⟨0, 0, 0⟩) 87)
  have hS0 := hS.later hb0
  have hO0 := hO.later hb0
  go_enter Try.func50, Try.ntmps50
  go_wp2_with (first
    | (refine alloc_cand (by rfl) rfl ?_))
  generalize w.alloc (.cells (candC ⟨0, 0, 0⟩) 87) = w1 at *
  go_loopw [14] (fun i wr => ∃ t : Nat, t ≤ 20 ∧ i = .int .i64 t ∧ tryI m g r out (20 - t) = tryI m g r out 20 ∧ Has wr w.heap.size 87 (candC ⟨0, 0, 0⟩) ∧ Sl wr ao c 3 (candR (candL m)) ∧ Sl wr bo d 3 (candR (out.map (candOf m))) ∧ Below w.heap.size w wr) (fun i _ => (20 - intOf i).toNat)
  case atStart => exact ⟨0, by decide, rfl, rfl, hR, hS0, hO0, hb0⟩
  case round =>
    clear hR hS0 hO0 hb0
    obtain ⟨t, ht, rfl, htry, hR, hSr, hOr, hb⟩ := hrel
    by_cases hlt : t < 20
    · have htI : (t : Int) < 20 := by omega
      have hty : Hid _ := @tryI_yes m g r out t hlt
      have htn : Hid _ := @tryI_no m g r out t hlt
      have htr : Hid _ := htry
      clear htry
      go_wp2_with fail
      refine (straws_any ao c (candL m) g (r + t * 3) _ hSr (by omega) hg (candL_wt hm)).mono ?_
      rintro e w2 ⟨eo, ec, rfl, hIs, hb2⟩
      replace hR := hR.later hb2
      replace hSr := hSr.later hb2
      replace hOr := hOr.later hb2
      replace hb := hb.trans (hb2.mono hb.size)
      clear hb2
      go_wp2_with fail
      have hbest := best_any eo ec (drawsC (candL m) g (r + t * 3)) w2 hIs
      rw [drawsC_len] at hbest
      refine hbest.mono ?_
      rintro e w3 ⟨k, rfl, hB, rfl⟩
      rw [drawsC_candL, hcl.out] at hB
      clear hbest hIs
      have hfc := free_cands m out (bestM m g (r + t * 3))
      rcases best_index hB with ⟨rfl, hbm⟩ | ⟨n, hn, rfl, hbm⟩
      · have hno : Hid (tryI m g r out (20 - (t + 1)) = tryI m g r out 20) := by
          show _ = _
          rw [← htn.out (fun h => by have := h.1; omega)]
          exact htr.out
        clear hB hbm hfc htn hty htr
        go_wp2
        go_roundw
        case rel => exact ⟨t + 1, by omega, by go_num, hno.out, hR, hSr, hOr, hb⟩
        case measure => simp [intOf]; omega
      · have hn' : n < (candL m).length := by rw [hcl.out]; exact hn
        have hnI : (n : Int) < ((candL m).length : Int) := by omega
        have hcn : (candL m)[n] = candOf m (bestM m g (r + t * 3)) := by rw [candL_at hn' hn, hbm]
        have hb0' : 0 ≤ bestM m g (r + t * 3) := by
          rw [← hbm]
          obtain ⟨i, _, hi, _⟩ := mem_inL.1 (List.getElem_mem hn)
          omega
        clear hB hbm
        cases ao with
        | none => have := hSr.nil rfl; omega
        | some ad =>
          have hci := cand_at hSr n hn'
          rw [hcn] at hci
          generalize bestM m g (r + t * 3) = b at *
          have hfits := fun w h => fits_any (candOf m b) bo d (out.map (candOf m)) w h
          rw [hfc, List.length_map] at hfits
          cases hf : freeB m out b with
          | false =>
            have hno : Hid (tryI m g r out (20 - (t + 1)) = tryI m g r out 20) := by
              show _ = _
              rw [← htn.out (fun h => by rw [hf] at h; cases h.2)]
              exact htr.out
            rw [hf] at hfits
            clear hfc htn hty htr hf
            go_wp2_with (first
              | (refine load_cand_at (candOf m b) (by rfl) _ rfl _ rfl hci ?_)
              | (go_at_call 56; refine (hfits _ hOr).mono ?_; rintro e w4 ⟨rfl, hb4⟩; replace hR := hR.later hb4; replace hSr := hSr.later hb4; replace hOr := hOr.later hb4; replace hb := hb.trans (hb4.mono hb.size); clear hb4))
            go_roundw
            case rel => exact ⟨t + 1, by omega, by go_num, hno.out, hR, hSr, hOr, hb⟩
            case measure => simp [intOf]; omega
          | true =>
            have hyes : Hid (tryI m g r out 20 = b) := by
              show _ = _
              rw [← htr.out]
              exact hty.out hb0' hf
            rw [hf] at hfits
            have hciA : ∀ W : World, Below w.heap.size w W → Sl W (some ad) c 3 (candR (candL m)) → ∀ j v, (candC (candOf m b)).toList[j]? = some v → W.cell? ((ad.add (n * 3)).add j) = some v := by
              intro W _ hW
              have := cand_at hW n hn'
              rw [hcn] at this
              exact this
            clear hfc htn hty htr hf
            go_wp2_with (first
              | (refine load_cand_at (candOf m b) (by rfl) _ rfl _ rfl hci ?_)
              | (go_at_call 56; refine (hfits _ hOr).mono ?_; rintro e w4 ⟨rfl, hb4⟩; replace hR := hR.later hb4; replace hSr := hSr.later hb4; replace hOr := hOr.later hb4; replace hb := hb.trans (hb4.mono hb.size); clear hb4; replace hci := hciA _ hb hSr)
              | (refine store_cand _ ⟨0, 0, 0⟩ (by rfl) _ _ rfl _ rfl rfl hR ?_))
            refine ret_cand_tmp (candOf m b) rfl _ rfl (hR.row _) rfl ⟨?_, below_setRow hb (Nat.le_refl _) _⟩
            rw [hyes.out, nextC_yes hb0', decide_eq_true hb0']
            rfl
    · have e5 : t = 20 := by omega
      subst e5
      have hno : Hid (tryI m g r out 20 = -1) := by
        show _ = _
        rw [← htry]
        rfl
      clear htry
      rw [show ((20 : Nat) : Int) = 20 from rfl]
      go_wp2_with (first
        | (refine build_cand0 (by rfl) rfl ?_)
        | (refine store_cand _ ⟨0, 0, 0⟩ (by rfl) _ _ rfl _ rfl rfl hR ?_))
      refine ret_cand_tmp ⟨0, 0, 0⟩ rfl _ rfl (hR.row _) rfl ⟨?_, below_setRow hb (Nat.le_refl _) _⟩
      rw [hno.out]
      rfl
end Go.Proofs.Ytmfgmdglpeadbaa
