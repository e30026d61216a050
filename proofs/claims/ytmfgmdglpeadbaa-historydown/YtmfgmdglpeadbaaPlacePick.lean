/- The contract of place.Pick. -/
import Derived.Test.YtmfgmdglpeadbaaCandPicked
import Derived.Test.YtmfgmdglpeadbaaIsMaps
namespace Go.Proofs.Ytmfgmdglpeadbaa
set_option linter.unusedSimpArgs false
set_option linter.unusedVariables false
open Go.RowKit

theorem one_i64 (w : World) (t : TypeId) (n : Int) : ∀ j u, [Value.int .i64 n][j]? = some u → (w.alloc (.cells #[.int .i64 n] t)).cell? ((⟨w.heap.size, 0, none⟩ : Addr).add j) = some u := by
  intro j u hj
  have h := (Has.new w t #[.int .i64 n]).cell j
  rw [Addr.add_mid, Nat.zero_add, h]
  show ([Value.int .i64 n].toArray)[j]? = _
  rw [List.getElem?_toArray]
  exact hj

theorem one_i641 (n : Int) : ∀ u ∈ [Value.int .i64 n], u.oneCell' = true := by
  intro u hu
  rw [List.mem_singleton.1 hu]
  rfl

set_option maxRecDepth 100000 in
set_option maxHeartbeats 2000000 in
theorem pick_fresh (m : MapV) (g : Nat) (w : World) (hm : MapOk m) (hg : g < 256) :
    Calls Try.prog 37 #[.agg (mapC m), .int .u8 g] w fun e w' => ∃ ao c, e = .returned (.slice ao (pickM m g).length c) ∧ Ix w' ao c (pickM m g) ∧ Below w.heap.size w w' ∧ ∀ ad, ao = some ad → w.heap.size ≤ ad.block := by
  obtain ⟨i0, hi, hz0, hz1, hz2⟩ := info_parts Try.infoInt
  have hH := Has.new w 44 (mapC m)
  have hb0 := (Below.refl w.heap.size w).alloc (Nat.le_refl _) (.cells (mapC m) 44)
  go_enter Try.func37, Try.ntmps37
  go_wp2_with (first
    | (refine load_map m (by rfl) _ rfl _ rfl ?hg ?_; (case hg => exact hH)))
  refine (is_any m _ hm).mono ?_
  rintro e w1 ⟨rfl, hb1⟩
  replace hH := hH.later hb1
  replace hb1 := hb0.trans (hb1.mono hb0.size)
  clear hb0
  cases hI : isM m with
  | false =>
    have hp : pickM m g = [] := by unfold pickM; rw [hI, if_neg (by simp)]
    go_wp2
    go_ret
    exact ⟨none, 0, by rw [hp]; rfl, by rw [hp]; exact Ix.nothing _, hb1, fun ad h => by cases h⟩
  | true =>
    by_cases hg4 : (4 : Int) ≤ (g : Int)
    · have hp : pickM m g = [] := by unfold pickM; rw [if_neg (by omega)]
      go_wp2
      go_ret
      exact ⟨none, 0, by rw [hp]; rfl, by rw [hp]; exact Ix.nothing _, hb1, fun ad h => by cases h⟩
    · have hp : Hid (pickM m g = pickTo m g 3) := by show _ = _; unfold pickM; rw [if_pos ⟨hI, by omega⟩]
      have hg4' : (g : Int) < 4 := by omega
      clear hg4
      have hgs := hb1.size
      go_wp2_with (first
        | (refine load_map m (by rfl) _ rfl _ rfl ?hg ?_; (case hg => exact hH)))
      refine (candidates_any m _ hm).mono ?_
      rintro e w2 ⟨ao, c, rfl, hS, hb2⟩
      replace hb2 := hb1.trans (hb2.mono hb1.size)
      clear hb1 hH
      go_wp2_with fail
      refine (picked_any m g ao c _ hm hg hS).mono ?_
      rintro e w3 ⟨bo, d, rfl, hO, hb3⟩
      replace hb3 := hb2.trans (hb3.mono hb2.size)
      clear hb2 hS
      obtain ⟨_, hlen⟩ := pickTo_mem m g 3
      generalize pickTo m g 3 = l at *
      have hcap := hO.cap
      have hle := hO.le
      rw [candR_len, List.length_map] at hle
      have hgs3 := hb3.size
      go_wp2
      go_loopw [5, 20] (fun v i wr => ∃ n : Nat, n ≤ l.length ∧ i = .int .i64 n ∧ wr.ownsRow w3.heap.size 3 1 v (l.take n).length (intsC (l.take n)) ∧ Below w3.heap.size w3 wr) (fun _ i _ => l.length - (intOf i).toNat)
      case atStart => exact ⟨0, Nat.zero_le _, rfl, World.ownsRow_nil _ _ _ _, Below.refl _ _⟩
      case round =>
        obtain ⟨n, hn, rfl, hown, hb⟩ := hrel
        by_cases hlt : n < l.length
        · have hnI : (n : Int) < (l.length : Int) := by omega
          cases bo with
          | none => have := hO.nil rfl; omega
          | some ad =>
            have hci := cand_at (hO.later hb) n (by rw [List.length_map]; exact hlt)
            rw [List.getElem_map] at hci
            have hstep : Hid (l.take (n + 1) = l.take n ++ [l[n]]) := List.take_succ_eq_append_getElem hlt
            have hln : (l.take n).length ≤ 3 := by rw [List.length_take]; omega
            generalize l[n] = x at *
            generalize l.take n = lt at *
            have hY := (Has.new wr 87 (candC ⟨0, 0, 0⟩)).row (candC (candOf m x))
            have hbb := below_setRow ((Below.refl wr.heap.size wr).alloc (Nat.le_refl _) (.cells (candC ⟨0, 0, 0⟩) 87)) (Nat.le_refl _) (candC (candOf m x))
            have hown1 := own_below hown hbb
            have hb4 := hb.trans (hbb.mono hb.size)
            clear hbb hown
            have hsz := hb4.size
            have c0 := hY.cell 0
            rw [show (candC (candOf m x))[0]? = some (.int .i64 x) from rfl] at c0
            go_wp2_with (first
              | (refine load_cand_at (candOf m x) (by rfl) _ rfl _ rfl hci ?_)
              | (refine alloc_cand (by rfl) rfl ?_)
              | (refine store_cand _ ⟨0, 0, 0⟩ (by rfl) _ _ rfl _ rfl rfl (Has.new _ _ _) ?_; generalize (wr.alloc (.cells (candC ⟨0, 0, 0⟩) 87)).setRow wr.heap.size (candC (candOf m x)) = w4 at *)
              | (at_builtin; refine wpList_append_own _ rfl _ _ 53 rfl w3.heap.size 3 i0 (.int .i64 0) 1 8 Try.underlying53 hi hz0 hz1 hz2 rfl (by decide) _ lt.length _ rfl (hown1.alloc _) ⟨w4.heap.size, 0, none⟩ 1 1 [.int .i64 x] rfl rfl (one_i64 _ _ _) (one_i641 _) (by unfold maxLen; omega) (by omega) (by simp; omega) ?_))
            intro v' w5 hown5 hgrow _
            have hb5 : Below w3.heap.size w3 w5 := (hb4.alloc hsz _).grown hgrow (by simp; omega) (fun k hk => (hown1.lt k hk).1)
            have hown6 : w5.ownsRow w3.heap.size 3 1 v' (l.take (n + 1)).length (intsC (l.take (n + 1))) := by
              rw [hstep.out]
              unfold intsC at hown5 ⊢
              rw [List.length_append, List.map_append]
              exact hown5
            clear hown1 hown5 hgrow hY hb4
            go_wp2
            go_roundw
            case rel => exact ⟨n + 1, by omega, by go_num, hown6, hb5⟩
            case measure => simp [intOf]; omega
        · have e5 : n = l.length := by omega
          subst e5
          rw [List.take_length, ← hp.out] at hown
          obtain ⟨_, eo, ec, rfl, hI2⟩ := ix_own hown
          have hfr : Hid (∀ ad, eo = some ad → w.heap.size ≤ ad.block) := fun ad had => Nat.le_trans hb3.size (hown.lt ad.block (by subst had; rfl)).1
          rw [← hp.out]
          go_wp2
          go_ret
          exact ⟨eo, ec, rfl, hI2, hb3.trans (hb.mono hb3.size), hfr.out⟩

theorem pick_any (m : MapV) (g : Nat) (w : World) (hm : MapOk m) (hg : g < 256) :
    Calls Try.prog 37 #[.agg (mapC m), .int .u8 g] w fun e w' => ∃ ao c, e = .returned (.slice ao (pickM m g).length c) ∧ Ix w' ao c (pickM m g) ∧ Below w.heap.size w w' :=
  (pick_fresh m g w hm hg).mono fun e w' ⟨ao, c, h1, h2, h3, _⟩ => ⟨ao, c, h1, h2, h3⟩
end Go.Proofs.Ytmfgmdglpeadbaa
