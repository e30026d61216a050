/- DiskNew, joined. -/
import Derived.Test.YtpnpjblohijajabGreatGrp7
import Derived.Carry
import Derived.Great.Ranges
namespace Go.Proofs.YtpnpjblohijajabGreat
section
set_option linter.unusedSimpArgs false
set_option linter.unusedVariables false
set_option maxRecDepth 100000
open Go.RowKit Go.MapKept

theorem sec_full : ∃ i, Tryz.prog.info? 66 = some i ∧ i.zero = some (.agg (secC sec0)) ∧ i.size = 64 ∧ i.bytes = 64 := by
  have h : (Tryz.prog.info? 66).map (fun i => (i.zero, decide (i.size = 64 ∧ i.bytes = 64))) = some (some (.agg (secC sec0)), true) := by kernel_rfl
  cases hi : Tryz.prog.info? 66 with
  | none => rw [hi] at h; cases h
  | some i =>
    rw [hi] at h
    simp only [Option.map_some, Option.some.injEq, Prod.mk.injEq, decide_eq_true_eq] at h
    exact ⟨i, rfl, h.1, h.2.1, h.2.2⟩
theorem madeS (n : Nat) : (madeCells (Value.agg (secC sec0)).cells (n * 64)).toList = Bs (List.replicate (64 * n) 0) := by
  apply List.ext_getElem?
  intro i
  unfold madeCells
  simp only [Array.toList_map, Array.toList_range]
  unfold Bs
  rw [List.getElem?_map, List.getElem?_map]
  by_cases h : i < n * 64
  · rw [List.getElem?_range h, List.getElem?_replicate, if_pos (by omega)]
    have hm : i % 64 < 64 := Nat.mod_lt _ (by decide)
    show some ((secC sec0)[i % 64]!) = some (B 0)
    congr 1
    generalize i % 64 = k at hm
    have hk : (secC sec0)[k]? = some (B 0) := by
      unfold secC
      rw [List.getElem?_toArray]
      unfold Bs sec0
      rw [List.getElem?_map, List.getElem?_replicate, if_pos hm]
      rfl
    rw [Array.getElem!_eq_getD, Array.getD_eq_getD_getElem?, hk]
    rfl
  · rw [List.getElem?_eq_none (by simpa using h), List.getElem?_eq_none (by rw [List.length_replicate]; omega)]
    rfl
theorem secs_has {w : World} {b g n : Nat} {xs : List UInt8} (hn : xs.length = 64 * n) (h : w.ownsRow b 66 64 (.slice (some ⟨g, 0, none⟩) n n) n (Bs xs)) : Has w g 66 (Bs xs).toArray := by
  rcases h.2 with ⟨hv, _⟩ | ⟨g', cap, cur, hv, hg, hc, hle, hm, hs, hx⟩
  · cases hv
  · injection hv with h1 h2 h3
    injection h1 with h1
    injection h1 with h1
    subst h1
    unfold Has
    rw [hc]
    congr 1
    congr 1
    rw [List.take_of_length_le (by rw [Array.length_toList, hs, ← h3]; exact Nat.le_refl _)] at hx
    rw [← hx]
theorem disk_built (kb mb n : Nat) : Tryz.prog.built 47 [(0, .slice (some ⟨kb, 0, none⟩) n n), (1, .map (some mb))] = some (diskC kb mb n 0 0 false) := by kernel_rfl
set_option maxHeartbeats 2000000 in
theorem dnew_any (n : Nat) (w : World) (hn0 : 1 ≤ n) (hn1 : n ≤ 1000) :
    Calls Tryz.prog 6 #[.int .i64 (n : Nat)] w fun e w' => ∃ p kb mb, e = .returned (.pointer (some ⟨p, 0, none⟩)) ∧ DiskAt w' p kb mb n ⟨List.replicate (64 * n) 0, [], 0, false⟩ ∧ Below w.heap.size w w' ∧ w.heap.size ≤ p ∧ w.heap.size ≤ kb ∧ w.heap.size ≤ mb := by
  obtain ⟨i0, hi0, hz0, hz1, hz2⟩ := sec_full
  have a1 : (0 : Int) ≤ (n : Int) := by omega
  have a2 : (n : Int) ≤ 1000 := by omega
  have m1 : max (n : Int) 0 = (n : Int) := by omega
  have m2 : min (n : Int) 1000 = (n : Int) := by omega
  go_enter Tryz.func6, Tryz.ntmps6
  go_wp2_with (first
    | (refine wpList_make_full _ rfl _ _ 44 rfl w.heap.size 66 i0 (.agg (secC sec0)) 64 Tryz.underlying44 hi0 hz0 hz1 _ _ _ _ n rfl rfl rfl rfl (by rw [hz2]; omega) (by unfold maxLen; omega) (Nat.le_refl _) ?_)
    | fail)
  intro w1 hown hgrow
  replace hown : w1.ownsRow w.heap.size 66 64 (.slice (some ⟨w.heap.size, 0, none⟩) n n) n (madeCells (Value.agg (secC sec0)).cells (n * 64)).toList := hown
  rw [madeS] at hown
  have hD : Has w1 w.heap.size 66 (Bs (List.replicate (64 * n) 0)).toArray := secs_has (by simp) hown
  have hb1 : Below w.heap.size w w1 := (Below.refl w.heap.size w).grown hgrow (Nat.le_refl _) (fun k hk => by cases hk)
  have hl1 := hD.lt
  have hP := PendAt.new w1
  have hq1 : Below w1.heap.size w1 (w1.alloc (.map #[] 0)) := (Below.refl _ _).alloc (Nat.le_refl _) _
  have hD2 := hD.later hq1
  have hs2 : (w1.alloc (.map #[] 0)).heap.size = w1.heap.size + 1 := by simp
  obtain ⟨w3, hw3, hX, hq2⟩ := one_var (w1.alloc (.map #[] 0)) 47 (diskC w.heap.size w1.heap.size n 0 0 false)
  rw [hs2] at hX
  have hb3 : Below w.heap.size w w3 := (hb1.trans (hq1.mono hb1.size)).trans (hq2.mono (Nat.le_trans hb1.size hq1.size))
  have hfin : Hid (DiskAt w3 (w1.heap.size + 1) w.heap.size w1.heap.size n ⟨List.replicate (64 * n) 0, [], 0, false⟩) := ⟨⟨0, hX⟩, hD2.later hq2, by simp, hP.later hq2, hn0, hn1, Nat.zero_le _, (fun x hx => by cases hx), by simp⟩
  have hbt : Hid _ := disk_built w.heap.size w1.heap.size n
  have hmm := @run_makeMap Tryz.prog
  clear hown hgrow hD hP hq1 hD2 hq2 hb1 hX
  go_wp2_with (first
    | (refine wpList_build_two (by rfl) 47 0 1 _ _ rfl (.slice (some ⟨w.heap.size, 0, none⟩) n n) (.map (some w1.heap.size)) rfl rfl (diskC w.heap.size w1.heap.size n 0 0 false) hbt.out ?_)
    | (refine Go.Great.wpList_boxTo rfl 47 _ rfl _ rfl (w1.heap.size + 1) hs2.symm (diskC w.heap.size w1.heap.size n 0 0 false) rfl ?_; rw [hw3]; clear hw3)
    | fail)
  go_ret
  exact ⟨w1.heap.size + 1, w.heap.size, w1.heap.size, rfl, hfin.out, hb3, by omega, Nat.le_refl _, by omega⟩
end
end Go.Proofs.YtpnpjblohijajabGreat
