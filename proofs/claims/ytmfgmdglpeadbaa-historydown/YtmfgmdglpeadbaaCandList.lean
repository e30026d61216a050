/- The contract of place.candidates: those that are in, rising by their numbers. -/
import Derived.Test.YtmfgmdglpeadbaaCands
import Derived.Test.YtmfgmdglpeadbaaThose
import Derived.Test.YtmfgmdglpeadbaaPlan
namespace Go.Proofs.Ytmfgmdglpeadbaa
set_option linter.unusedSimpArgs false
set_option linter.unusedVariables false
open Go.RowKit

def candL (m : MapV) : List CandV := (inL m).map (candOf m)

theorem candL_len (m : MapV) : (candL m).length = (inL m).length := by unfold candL; rw [List.length_map]

theorem take_snoc {l : List Int} {f : Int → CandV} {n : Nat} (h : n < l.length) : (l.take (n + 1)).map f = (l.take n).map f ++ [f l[n]] := by
  rw [List.take_succ_eq_append_getElem h, List.map_append]
  rfl

theorem cand_row_own {w : World} {base n : Nat} {v : Value} {cs : List CandV} {x : CandV} {xs : List Value} (h : w.ownsRow base 87 3 v n xs) (hx : xs = (candR cs).flatten ++ (candC x).toList) (hn : n = cs.length + 1) : w.ownsRow base 87 3 v (cs ++ [x]).length (candR (cs ++ [x])).flatten := by
  rw [candR_snoc, ← hx, List.length_append]
  subst hn
  exact h

set_option maxRecDepth 100000 in
set_option maxHeartbeats 1000000 in
theorem candidates_any (m : MapV) (w : World) (hm : MapOk m) :
    Calls Try.prog 46 #[.agg (mapC m)] w fun e w' => ∃ ao c, e = .returned (.slice ao (candL m).length c) ∧ Sl w' ao c 3 (candR (candL m)) ∧ Below w.heap.size w w' := by
  obtain ⟨i0, hi, hz0, hz1, hz2⟩ := info_parts Try.infoCand
  have hH := Has.new w 44 (mapC m)
  have hb0 := (Below.refl w.heap.size w).alloc (Nat.le_refl _) (.cells (mapC m) 44)
  go_enter Try.func46, Try.ntmps46
  go_wp2_with (first
    | (refine load_map m (by rfl) _ rfl _ rfl ?hg ?_; (case hg => exact hH)))
  refine (in_any m _ hm).mono ?_
  rintro e w1 ⟨ao, c, rfl, hIx, hb1⟩
  replace hH := hH.later hb1
  replace hb1 := hb0.trans (hb1.mono hb0.size)
  clear hb0
  have hlen := inL_len m
  have hmem := @mem_inL m
  have hcl : Hid (candL m = (inL m).map (candOf m)) := rfl
  generalize inL m = l at *
  have hcap := hIx.cap
  have hle := hIx.le
  have hgs := hb1.size
  have hHlt := hH.lt
  go_wp2
  go_loopw [3, 9] (fun v i wr => ∃ n : Nat, n ≤ l.length ∧ i = .int .i64 n ∧ wr.ownsRow w1.heap.size 87 3 v ((l.take n).map (candOf m)).length (candR ((l.take n).map (candOf m))).flatten ∧ Below w1.heap.size w1 wr) (fun _ i _ => l.length - (intOf i).toNat)
  case atStart => exact ⟨0, Nat.zero_le _, rfl, World.ownsRow_nil _ _ _ _, Below.refl _ _⟩
  case round =>
    obtain ⟨n, hn, rfl, hown, hb⟩ := hrel
    by_cases hlt : n < l.length
    · have hnI : (n : Int) < (l.length : Int) := by omega
      obtain ⟨p, hp5, hp2, hpw⟩ := hmem.1 (List.getElem_mem hlt)
      have hpI : (p : Int) < 5 := by omega
      have keep : ∀ W : World, Below w1.heap.size w1 W → W.cell? ⟨w.heap.size, 1 + p * 3 + 1, none⟩ = some (.int .i64 (m.osd ⟨p, hp5⟩).wt) ∧ W.cell? ⟨w.heap.size, 1 + p * 3 + 2, none⟩ = some (.int .u8 (m.osd ⟨p, hp5⟩).host) := by
        intro W hq
        have cw := (hH.later hq).cell (1 + p * 3 + 1)
        have ch := (hH.later hq).cell (1 + p * 3 + 2)
        rw [mapC_wt m ⟨p, hp5⟩] at cw
        rw [mapC_host m ⟨p, hp5⟩] at ch
        exact ⟨cw, ch⟩
      have hfl : ((l.take n).map (candOf m)).length ≤ 5 := by rw [List.length_map, List.length_take]; omega
      have hstep : Hid _ := take_snoc (f := candOf m) hlt
      have hcp : Hid (candOf m l[n] = ⟨p, (m.osd ⟨p, hp5⟩).wt, (m.osd ⟨p, hp5⟩).host⟩) := by
        show candOf m l[n] = _
        rw [hp2]
        unfold candOf
        rw [wtI_at m p hp5, hostI_at m p hp5]
      cases ao with
      | none => have := hIx.nil rfl; omega
      | some ad =>
        have ci := (hIx.later hb).at' ad rfl n hlt
        rw [hp2] at ci
        clear hp2 hpw
        rw [hcp.out] at hstep
        clear hcp
        generalize (m.osd ⟨p, hp5⟩).wt = WT at *
        generalize (m.osd ⟨p, hp5⟩).host = HO at *
        generalize (l.take n).map (candOf m) = cs at *
        have hsz := hb.size
        go_wp2
        refine wp_region_plan (fun W => W.cell? ⟨w.heap.size, 1 + p * 3 + 1, none⟩ = some (.int .i64 WT) ∧ W.cell? ⟨w.heap.size, 1 + p * 3 + 2, none⟩ = some (.int .u8 HO)) (Plan.of [(0, true), (1, true), (2, true), (3, true), (4, true), (5, true), (6, true), (7, true), (8, true), (9, true), (10, true), (11, true), (12, true), (13, false), (14, false), (15, true)] .done) (by kernel_rfl) (by kernel_rfl) (by kernel_rfl) (by kernel_rfl) (keep _ hb.drew) ?_
        iterate 13
          refine plan_take _ _ rfl (.inl ⟨by rfl, fun W hS => by obtain ⟨z1, z2⟩ := hS; go_simp; try with_reducible rfl⟩) ?_
          try simp only [Act.put, List.setIfInBounds_toArray, List.set_cons_zero, List.set_cons_succ]
        refine plan_run _ rfl (fun K hK => ?_)
        go_simp
        have hbA := hb.drew.alloc (by simpa using hsz) (.cells (candC ⟨p, WT, HO⟩) 87)
        have hownA := (hown.drew).alloc (.cells (candC ⟨p, WT, HO⟩) 87)
        refine hK.out _ _ (keep _ hbA) ?_
        clear hK K
        refine plan_run _ rfl (fun K hK => ?_)
        rw [if_pos (by rfl)]
        refine wp_append_own _ _ _ 81 rfl w1.heap.size 87 i0 (.agg (candC ⟨0, 0, 0⟩)) 3 24 Try.underlying81 hi hz0 hz1 hz2 rfl (by decide) _ cs.length _ rfl hownA ⟨wr.heap.size, 0, none⟩ 1 1 (candC ⟨p, WT, HO⟩).toList rfl rfl (one_row _ _ _) (cand_cells1 _) (by unfold maxLen; omega) (by omega) (by simp; omega) ?_
        intro v' w5 hown5 hgrow _
        have hb5 : Below w1.heap.size w1 w5 := hbA.grown hgrow (by simp; omega) (fun k hk => (hown.lt k hk).1)
        refine hK.out _ _ (keep _ hb5) ?_
        have hown6 := cand_row_own (cs := cs) hown5 rfl rfl
        rw [← hstep.out] at hown6
        clear hK K hown hown5 hgrow hownA hbA keep
        refine plan_take _ _ rfl (.inl ⟨by rfl, fun W hS => by clear hS; go_simp; try with_reducible rfl⟩) ?_
        try simp only [Act.put, List.setIfInBounds_toArray, List.set_cons_zero, List.set_cons_succ]
        refine plan_done ?_
        go_wp2
        go_roundw
        case rel => exact ⟨n + 1, by omega, by go_num, hown6, hb5⟩
        case measure => simp [intOf]; omega
    · have e5 : n = l.length := by omega
      subst e5
      rw [List.take_length, ← hcl.out] at hown
      obtain ⟨_, bo, d, rfl, hI2⟩ := cand_own hown
      go_wp2
      go_ret
      exact ⟨bo, d, rfl, hI2, hb1.trans (hb.mono hb1.size)⟩
end Go.Proofs.Ytmfgmdglpeadbaa
