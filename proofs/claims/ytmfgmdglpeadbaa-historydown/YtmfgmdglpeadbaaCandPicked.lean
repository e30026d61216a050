/- The contract of place.picked: those that a group gets, in its order. -/
import Derived.Test.YtmfgmdglpeadbaaCandNext
namespace Go.Proofs.Ytmfgmdglpeadbaa
set_option linter.unusedSimpArgs false
set_option linter.unusedVariables false
open Go.RowKit

set_option maxRecDepth 100000 in
set_option maxHeartbeats 2000000 in
theorem picked_any (m : MapV) (g : Nat) (ao : Option Addr) (c : Nat) (w : World) (hm : MapOk m) (hg : g < 256) (hS : Sl w ao c 3 (candR (candL m))) :
    Calls Try.prog 45 #[.slice ao (candL m).length c, .func (.func 47) #[] #[], .int .u8 g] w fun e w' => ∃ bo d, e = .returned (.slice bo (pickTo m g 3).length d) ∧ Sl w' bo d 3 (candR ((pickTo m g 3).map (candOf m))) ∧ Below w.heap.size w w' := by
  obtain ⟨i0, hi, hz0, hz1, hz2⟩ := info_parts Try.infoCand
  go_enter Try.func45, Try.ntmps45
  go_wp2
  go_loopw [7, 11] (fun v i wr => ∃ r : Nat, r ≤ 3 ∧ i = .int .i64 r ∧ wr.ownsRow w.heap.size 87 3 v (pickTo m g r).length (candR ((pickTo m g r).map (candOf m))).flatten ∧ Below w.heap.size w wr) (fun _ i _ => (3 - intOf i).toNat)
  case atStart => exact ⟨0, by decide, rfl, World.ownsRow_nil _ _ _ _, Below.refl _ _⟩
  case round =>
    obtain ⟨r, hr, rfl, hown, hb⟩ := hrel
    by_cases hlt : r < 3
    · have hrI : (r : Int) < 3 := by omega
      obtain ⟨_, hlen⟩ := pickTo_mem m g r
      have hlen3 : (pickTo m g r).length ≤ 3 := by omega
      have hpy : Hid _ := @pickTo_yes m g r
      have hpn : Hid _ := @pickTo_no m g r
      have htb := tryI_bd m g r (pickTo m g r) 20
      generalize pickTo m g r = out at *
      obtain ⟨hzz, bo, d, hv, hO⟩ := cand_own hown
      clear hzz
      subst hv
      have hSr := hS.later hb
      have hcap := hO.cap
      go_wp2_with fail
      refine (next_any m g r out ao bo c d _ hm hg hlt hlen3 hSr hO).mono ?_
      rintro e w2 ⟨rfl, hb2⟩
      have hown2 := own_below hown hb2
      have hb3 := hb.trans (hb2.mono hb.size)
      clear hb2 hown hSr hO hb
      generalize tryI m g r out 20 = b at *
      have hY := (Has.new w2 87 (candC ⟨0, 0, 0⟩)).row (candC (nextC m b))
      have hbb := below_setRow ((Below.refl w2.heap.size w2).alloc (Nat.le_refl _) (.cells (candC ⟨0, 0, 0⟩) 87)) (Nat.le_refl _) (candC (nextC m b))
      have hown3 := own_below hown2 hbb
      have hb4 := hb3.trans (hbb.mono hb3.size)
      clear hbb hown2
      have hsz := hb4.size
      by_cases h0 : 0 ≤ b
      · have hdec : decide (0 ≤ b) = true := decide_eq_true h0
        have hstep : Hid _ := hpy.out h0
        rw [nextC_yes h0] at hY hown3 hb4 hsz
        rw [nextC_yes h0, hdec]
        clear hpy hpn htb hdec h0
        have hc3 : (candC (candOf m b)).size = 3 := rfl
        go_wp2_with (first
          | (refine alloc_cand (by rfl) rfl ?_)
          | (refine store_cand _ ⟨0, 0, 0⟩ (by rfl) _ _ rfl _ rfl rfl (Has.new _ _ _) ?_; generalize (w2.alloc (.cells (candC ⟨0, 0, 0⟩) 87)).setRow w2.heap.size (candC (candOf m b)) = w3 at *)
          | (refine load_cand _ (by rfl) _ rfl _ rfl hY ?_)
          | (at_builtin; refine wpList_append_own _ rfl _ _ 81 rfl w.heap.size 87 i0 (.agg (candC ⟨0, 0, 0⟩)) 3 24 Try.underlying81 hi hz0 hz1 hz2 rfl (by decide) _ out.length _ rfl (hown3.alloc _) ⟨w3.heap.size, 0, none⟩ 1 1 (candC (candOf m b)).toList rfl rfl (one_row _ _ _) (cand_cells1 _) (by unfold maxLen; omega) (by omega) (by simp; omega) ?_))
        intro v' w5 hown5 hgrow _
        have hb5 : Below w.heap.size w w5 := (hb4.alloc hsz _).grown hgrow (by simp; omega) (fun k hk => (hown3.lt k hk).1)
        have hown6 : w5.ownsRow w.heap.size 87 3 v' (pickTo m g (r + 1)).length (candR ((pickTo m g (r + 1)).map (candOf m))).flatten := by
          rw [hstep.out, List.map_append, List.map_singleton, List.length_append]
          have := cand_row_own (cs := out.map (candOf m)) hown5 rfl (by simp)
          rw [List.length_append, List.length_map] at this
          exact this
        clear hown3 hown5 hgrow hY hb4
        go_wp2
        go_roundw
        case rel => exact ⟨r + 1, by omega, by go_num, hown6, hb5⟩
        case measure => simp [intOf]; omega
      · have hdec : decide (0 ≤ b) = false := decide_eq_false h0
        have hstep : Hid _ := hpn.out (by omega)
        rw [nextC_no h0] at hY hown3 hb4 hsz
        rw [nextC_no h0, hdec]
        clear hpy hpn htb hdec h0
        go_wp2_with (first
          | (refine alloc_cand (by rfl) rfl ?_)
          | (refine store_cand _ ⟨0, 0, 0⟩ (by rfl) _ _ rfl _ rfl rfl (Has.new _ _ _) ?_; generalize (w2.alloc (.cells (candC ⟨0, 0, 0⟩) 87)).setRow w2.heap.size (candC ⟨0, 0, 0⟩) = w3 at *))
        go_roundw
        case rel => exact ⟨r + 1, by omega, by go_num, by rw [hstep.out]; exact hown3, hb4⟩
        case measure => simp [intOf]; omega
    · have e5 : r = 3 := by omega
      subst e5
      rw [show ((3 : Nat) : Int) = 3 from rfl]
      obtain ⟨hzz, bo, d, rfl, hO⟩ := cand_own hown
      clear hzz
      go_wp2
      go_ret
      exact ⟨bo, d, rfl, hO, hb⟩
end Go.Proofs.Ytmfgmdglpeadbaa
