/- The contract of the document's Acting. -/
import Derived.Test.YtlbokkbngbpmiaaRefPick
namespace Go.Proofs.Ytlbokkbngbpmiaa
set_option linter.unusedSimpArgs false
set_option linter.unusedVariables false
open Go.RowKit

theorem filter_snoc {p : Int → Bool} {l : List Int} {n : Nat} (h : n < l.length) : (l.take (n + 1)).filter p = (l.take n).filter p ++ (if p l[n] then [l[n]] else []) := by
  rw [List.take_succ_eq_append_getElem h, List.filter_append]
  congr 1
  by_cases hp : p l[n] = true
  · simp [hp]
  · simp [hp]

set_option maxRecDepth 100000 in
set_option maxHeartbeats 2000000 in
theorem refacting_fresh (m : MapV) (g : Nat) (w : World) (hm : MapOk m) (hg : g < 256) :
    Calls Try.prog 64 #[.agg (mapC m), .int .u8 g] w fun e w' => ∃ ao c, e = .returned (.slice ao (actM m g).length c) ∧ Ix w' ao c (actM m g) ∧ Below w.heap.size w w' ∧ ∀ ad, ao = some ad → w.heap.size ≤ ad.block := by
  obtain ⟨i0, hi, hz0, hz1, hz2⟩ := info_parts Try.infoInt
  have hH := Has.new w 106 (mapC m)
  have hb0 := (Below.refl w.heap.size w).alloc (Nat.le_refl _) (.cells (mapC m) 106)
  go_enter Try.func64, Try.ntmps64
  go_wp2_with (first
    | (refine load_map m (by rfl) _ rfl _ rfl ?hg ?_; (case hg => exact hH)))
  refine (refpick_any m g _ hm hg).mono ?_
  rintro e w1 ⟨ao, c, rfl, hIx, hb1⟩
  replace hH := hH.later hb1
  replace hb1 := hb0.trans (hb1.mono hb0.size)
  clear hb0
  obtain ⟨hmem, hlen⟩ := pickM_mem m g
  have hact : Hid (actM m g = (pickM m g).filter (upI m)) := rfl
  generalize pickM m g = l at *
  have hcap := hIx.cap
  have hle := hIx.le
  have hgs := hb1.size
  go_wp2
  go_loopw [6, 7] (fun v i wr => ∃ n : Nat, n ≤ l.length ∧ i = .int .i64 n ∧ wr.ownsRow w1.heap.size 3 1 v ((l.take n).filter (upI m)).length (intsC ((l.take n).filter (upI m))) ∧ Below w1.heap.size w1 wr) (fun _ i _ => l.length - (intOf i).toNat)
  case atStart => exact ⟨0, Nat.zero_le _, rfl, World.ownsRow_nil _ _ _ _, Below.refl _ _⟩
  case round =>
    obtain ⟨n, hn, rfl, hown, hb⟩ := hrel
    by_cases hlt : n < l.length
    · have hnI : (n : Int) < (l.length : Int) := by omega
      have hmn := hmem l[n] (List.getElem_mem hlt)
      obtain ⟨p, hp2⟩ := Int.eq_ofNat_of_zero_le hmn.1
      have hp5 : p < 5 := by omega
      have hpI : (p : Int) < 5 := by omega
      have hMr := hH.later hb
      have cp := hMr.cell (1 + p * 3)
      rw [mapC_up m ⟨p, hp5⟩] at cp
      have hfl : ((l.take n).filter (upI m)).length ≤ 3 := Nat.le_trans (List.length_filter_le _ _) (by rw [List.length_take]; omega)
      have hstep : Hid _ := filter_snoc (p := upI m) hlt
      rw [hp2, upI_at m p hp5] at hstep
      cases ao with
      | none => have := hIx.nil rfl; omega
      | some ad =>
        have ci := (hIx.later hb).at' ad rfl n hlt
        rw [hp2] at ci
        clear hp2
        cases hu : (m.osd ⟨p, hp5⟩).up with
        | false =>
          rw [hu] at cp hstep
          have hown6 : wr.ownsRow w1.heap.size 3 1 u6 ((l.take (n + 1)).filter (upI m)).length (intsC ((l.take (n + 1)).filter (upI m))) := by
            have := hstep.out
            rw [this]
            simpa using hown
          go_wp2
          go_roundw
          case rel => exact ⟨n + 1, by omega, by go_num, hown6, hb⟩
          case measure => simp [intOf]; omega
        | true =>
          rw [hu] at cp hstep
          go_wp2_with (at_builtin; refine wpList_append_own _ rfl _ _ 22 rfl w1.heap.size 3 i0 (.int .i64 0) 1 8 Try.underlying22 hi hz0 hz1 hz2 rfl (by decide) _ ((l.take n).filter (upI m)).length _ rfl (hown.alloc _) ⟨wr.heap.size, 0, none⟩ 1 1 [.int .i64 p] rfl rfl (one_int _ _ _) (one_int1 _) (by unfold maxLen; omega) (by omega) (by have := hb.size; simp; omega) ?_)
          intro v' w5 hown5 hgrow _
          have hb5 : Below w1.heap.size w1 w5 := (hb.alloc hb.size _).grown hgrow (by have := hb.size; simp; omega) (fun k hk => (hown.lt k hk).1)
          have hown6 : w5.ownsRow w1.heap.size 3 1 v' ((l.take (n + 1)).filter (upI m)).length (intsC ((l.take (n + 1)).filter (upI m))) := by
            have := hstep.out
            simp only [if_true] at this
            rw [this]
            unfold intsC at hown5 ⊢
            rw [List.length_append, List.map_append]
            exact hown5
          clear hown hown5 hgrow
          go_wp2
          go_roundw
          case rel => exact ⟨n + 1, by omega, by go_num, hown6, hb5⟩
          case measure => simp [intOf]; omega
    · have e5 : n = l.length := by omega
      subst e5
      rw [List.take_length, ← hact.out] at hown
      have hfr := hown.lt
      obtain ⟨_, bo, d, rfl, hI2⟩ := ix_own hown
      have hfr2 : ∀ ad, bo = some ad → w.heap.size ≤ ad.block := fun ad had => by
        subst had
        have := (hfr ad.block rfl).1
        omega
      clear hfr
      go_wp2
      go_ret
      exact ⟨bo, d, rfl, hI2, hb1.trans (hb.mono hb1.size), hfr2⟩

theorem refacting_any (m : MapV) (g : Nat) (w : World) (hm : MapOk m) (hg : g < 256) :
    Calls Try.prog 64 #[.agg (mapC m), .int .u8 g] w fun e w' => ∃ ao c, e = .returned (.slice ao (actM m g).length c) ∧ Ix w' ao c (actM m g) ∧ Below w.heap.size w w' :=
  (refacting_fresh m g w hm hg).mono fun e w' ⟨ao, c, h1, h2, h3, _⟩ => ⟨ao, c, h1, h2, h3⟩
end Go.Proofs.Ytlbokkbngbpmiaa
