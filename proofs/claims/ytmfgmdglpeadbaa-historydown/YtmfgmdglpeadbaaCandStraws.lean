/- The contract of place.straws: what the candidates draw, in their order. -/
import Derived.Test.YtmfgmdglpeadbaaCands
namespace Go.Proofs.Ytmfgmdglpeadbaa
set_option linter.unusedSimpArgs false
set_option linter.unusedVariables false
open Go.RowKit

/-- The row of straws when n of them are drawn. -/
def strawL (ds : List Int) (n : Nat) : List Value := (ds.take n ++ List.replicate (ds.length - n) 0).map fun x => Value.int .i64 x
def strawC (ds : List Int) (n : Nat) : Array Value := (strawL ds n).toArray

theorem strawL_len (ds : List Int) (n : Nat) (h : n ≤ ds.length) : (strawL ds n).length = ds.length := by
  unfold strawL
  rw [List.length_map, List.length_append, List.length_take, List.length_replicate]
  omega

theorem strawL_at (ds : List Int) (n : Nat) (h : n < ds.length) : (strawL ds n)[n]? = some (.int .i64 0) := by
  unfold strawL
  rw [List.getElem?_map, List.getElem?_append_right (by rw [List.length_take]; omega), List.length_take, List.getElem?_replicate]
  rw [if_pos (by omega)]
  rfl

theorem strawC_at (ds : List Int) (n : Nat) (h : n < ds.length) : (strawC ds n)[n]? = some (.int .i64 0) := by
  unfold strawC
  rw [List.getElem?_toArray]
  exact strawL_at ds n h

theorem strawC_set (ds : List Int) (n : Nat) (h : n < ds.length) : (strawC ds n).setIfInBounds n (.int .i64 ds[n]) = strawC ds (n + 1) := by
  unfold strawC
  rw [List.setIfInBounds_toArray]
  congr 1
  apply List.ext_getElem?
  intro i
  rw [List.getElem?_set]
  have hl := strawL_len ds n (by omega)
  by_cases e : n = i
  · subst e
    rw [if_pos rfl, if_pos (by omega)]
    unfold strawL
    rw [List.getElem?_map, List.getElem?_append_left (by rw [List.length_take]; omega), List.getElem?_take, if_pos (by omega), List.getElem?_eq_getElem h]
    rfl
  · rw [if_neg e]
    unfold strawL
    rw [List.getElem?_map, List.getElem?_map]
    congr 1
    by_cases hi : i < n
    · rw [List.getElem?_append_left (by rw [List.length_take]; omega), List.getElem?_append_left (by rw [List.length_take]; omega), List.getElem?_take, List.getElem?_take, if_pos hi, if_pos (by omega)]
    · rw [List.getElem?_append_right (by rw [List.length_take]; omega), List.getElem?_append_right (by rw [List.length_take]; omega), List.length_take, List.length_take, List.getElem?_replicate, List.getElem?_replicate]
      by_cases hd : i < ds.length
      · rw [if_pos (by omega), if_pos (by omega)]
      · rw [if_neg (by omega), if_neg (by omega)]

theorem straw_made (ds : List Int) : (madeCells (Value.int .i64 0).cells (ds.length * 1)).toList = strawL ds 0 := by
  apply List.ext_getElem?
  intro i
  unfold madeCells strawL
  simp only [Array.toList_map, Array.toList_range, List.take_zero, List.nil_append, Nat.sub_zero, Nat.mul_one]
  rw [List.getElem?_map, List.getElem?_map, List.getElem?_replicate]
  by_cases h : i < ds.length
  · rw [List.getElem?_range h, if_pos h]
    have : i % (Value.int .i64 0).cells.size = 0 := Nat.mod_one i
    show some ((Value.int .i64 0).cells[i % (Value.int .i64 0).cells.size]!) = _
    rw [this]
    rfl
  · rw [if_neg h, List.getElem?_eq_none (by simpa using h)]
    rfl

theorem straw_has {w : World} {g : Nat} {ds : List Int} {b : Nat} (h : w.ownsRow b 2 1 (.slice (some ⟨g, 0, none⟩) ds.length ds.length) ds.length (madeCells (Value.int .i64 0).cells (ds.length * 1)).toList) : Has w g 2 (strawC ds 0) := by
  rcases h.2 with ⟨hv, _⟩ | ⟨g', cap, cur, hv, hg, hc, hle, hm, hs, hx⟩
  · cases hv
  · injection hv with h1 h2 h3
    injection h1 with h1
    injection h1 with h1
    subst h1
    unfold Has strawC
    rw [hc]
    congr 1
    congr 1
    rw [straw_made] at hx
    rw [List.take_of_length_le (by rw [Array.length_toList, hs, ← h3]; exact Nat.le_refl _)] at hx
    rw [← hx]

theorem straw_is {w : World} {g : Nat} {ds : List Int} (h : Has w g 2 (strawC ds ds.length)) (hn : ds.length ≤ 1000) (hb : ∀ x ∈ ds, -9223372036854775808 ≤ x ∧ x ≤ 9223372036854775807) : Is w (some ⟨g, 0, none⟩) ds.length ds := by
  refine ⟨Nat.le_refl _, by omega, (fun h => by cases h), fun ad had j hj => ?_, hb⟩
  obtain rfl := Option.some.inj had
  rw [Addr.add_mid, Nat.zero_add, h.cell]
  unfold strawC strawL
  rw [List.getElem?_toArray, List.take_length, Nat.sub_self, List.getElem?_map]
  simp [hj]

/-- What candidates draw. -/
def drawsC (cs : List CandV) (g : Nat) (t : Int) : List Int := cs.map fun x => drawI g x.o t x.wt

theorem drawsC_len (cs : List CandV) (g : Nat) (t : Int) : (drawsC cs g t).length = cs.length := by unfold drawsC; rw [List.length_map]

theorem strawI_bd' (a : Nat) (q : Int) : -9223372036854775808 ≤ strawI a q ∧ strawI a q ≤ 9223372036854775807 := by
  have := strawI_bd a q
  omega

set_option maxRecDepth 100000 in
set_option maxHeartbeats 1000000 in
theorem straws_any (ao : Option Addr) (c : Nat) (cs : List CandV) (g : Nat) (t : Int) (w : World) (h : Sl w ao c 3 (candR cs)) (hl : cs.length ≤ 1000) (hg : g < 256) (hq : ∀ x ∈ cs, -9223372036854775808 ≤ x.wt ∧ x.wt ≤ 9223372036854775807) :
    Calls Try.prog 55 #[.slice ao cs.length c, .func (.func 47) #[] #[], .int .u8 g, .int .i64 t] w fun e w' => ∃ bo d, e = .returned (.slice bo cs.length d) ∧ Is w' bo d (drawsC cs g t) ∧ Below w.heap.size w w' := by
  obtain ⟨i0, hi, hz0, hz1, hz2⟩ := info_parts Try.infoI64
  have hle := h.le
  rw [candR_len] at hle
  have hcap := h.cap
  go_enter Try.func55, Try.ntmps55
  go_wp2_with (refine wpList_make_full _ rfl _ _ 95 rfl w.heap.size 2 i0 (.int .i64 0) 1 Try.underlying95 hi hz0 hz1 _ _ _ _ cs.length rfl rfl rfl rfl (by rw [hz2]; omega) (by unfold maxLen; omega) (Nat.le_refl _) ?_)
  intro w1 hown hgrow
  have hb0 : Below w.heap.size w w1 := (Below.refl w.heap.size w).grown hgrow (Nat.le_refl _) (fun k hk => by cases hk)
  have hdl := drawsC_len cs g t
  have hR0 : Has w1 w.heap.size 2 (strawC (drawsC cs g t) 0) := straw_has (b := w.heap.size) (by rw [hdl, Nat.mul_one]; exact hown)
  have hS0 := h.later hb0
  clear hown hgrow
  go_wp2
  go_loopw [17] (fun i wr => ∃ n : Nat, n ≤ cs.length ∧ i = .int .i64 n ∧ Has wr w.heap.size 2 (strawC (drawsC cs g t) n) ∧ Sl wr ao c 3 (candR cs) ∧ Below w.heap.size w wr) (fun i _ => cs.length - (intOf i).toNat)
  case atStart => exact ⟨0, Nat.zero_le _, rfl, hR0, hS0, hb0⟩
  case round =>
    clear hR0 hS0 hb0
    obtain ⟨n, hn, rfl, hR, hS, hb⟩ := hrel
    by_cases hlt : n < cs.length
    · cases ao with
      | none => have := hS.nil rfl; omega
      | some ad =>
        have hci := cand_at hS n hlt
        have hqn := hq cs[n] (List.getElem_mem hlt)
        have i1 : (n : Int) < (cs.length : Int) := by omega
        have hset : Hid _ := strawC_set (drawsC cs g t) n (by omega)
        have hat := strawC_at (drawsC cs g t) n (by omega)
        have hdn : (drawsC cs g t)[n]'(by omega) = drawI g cs[n].o t cs[n].wt := by simp [drawsC]
        rw [hdn] at hset
        clear hdn
        generalize cs[n] = y at *
        have hY := (Has.new wr 87 (candC ⟨0, 0, 0⟩)).row (candC y)
        have hlt1 := hR.lt
        have hbb := below_setRow ((Below.refl wr.heap.size wr).alloc (Nat.le_refl _) (.cells (candC ⟨0, 0, 0⟩) 87)) (Nat.le_refl _) (candC y)
        have hS1 := hS.later hbb
        have hR1 := hR.later hbb
        have hb1 := hb.trans (hbb.mono hb.size)
        clear hbb
        go_wp2_with (first
          | (refine load_cand_at y (by rfl) _ rfl _ rfl hci ?_)
          | (refine alloc_cand (by rfl) rfl ?_)
          | (refine store_cand _ ⟨0, 0, 0⟩ (by rfl) _ _ rfl _ rfl rfl (Has.new _ _ _) ?_; generalize (wr.alloc (.cells (candC ⟨0, 0, 0⟩) 87)).setRow wr.heap.size (candC y) = w3 at *)
          | (refine load_cand y (by rfl) _ rfl _ rfl hY ?_))
        refine (cdraw_any y g t _ hg hqn).mono ?_
        rintro e w4 ⟨rfl, hb4⟩
        replace hS1 := hS1.later hb4
        replace hR1 := hR1.later hb4
        replace hb1 := hb1.trans (hb4.mono hb1.size)
        clear hb4 hS hR hb
        have cn := hR1.cell n
        rw [hat] at cn
        have fn := hR1.free n
        have hR2 := hR1.set n (.int .i64 (drawI g y.o t y.wt))
        rw [hset.out] at hR2
        have hb2 := hb1.setCell (p := ⟨w.heap.size, n, none⟩) (Nat.le_refl _) (.int .i64 (drawI g y.o t y.wt))
        have hS2 := h.later hb2
        clear hset
        generalize drawI g y.o t y.wt = D at *
        go_wp2
        go_roundw
        case rel => exact ⟨n + 1, by omega, by go_num, hR2, hS2, hb2⟩
        case measure => simp [intOf]; omega
    · have e5 : n = cs.length := by omega
      subst e5
      rw [← hdl] at hR
      have hI := straw_is hR (by omega) (fun x hx => by
        unfold drawsC at hx
        obtain ⟨y, _, rfl⟩ := List.mem_map.1 hx
        exact strawI_bd' _ _)
      rw [hdl] at hI
      go_wp2
      go_ret
      exact ⟨_, _, rfl, hI, hb⟩
end Go.Proofs.Ytmfgmdglpeadbaa
