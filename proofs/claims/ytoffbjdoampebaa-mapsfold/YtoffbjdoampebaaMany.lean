/- paddocklaw3.MapsMany returns true, for whatever number and increment, where package maps answers as it has to. -/
import Derived.Test.YtoffbjdoampebaaMapsKnown
import Derived.Test.YtoffbjdoampebaaFoldMath
namespace Go.Proofs.Ytoffbjdoampebaa
set_option linter.unusedSimpArgs false
set_option linter.unusedVariables false
open Go.RowKit

theorem Try.infoInc : (Try.prog.info? 29).map (fun i => (i.zero, i.size, i.bytes)) = some (some (.agg #[.int .u8 0, .int .u8 0, .int .i64 0]), 3, 16) := by kernel_rfl

/-- n times the same increment, in cells. -/
def repC (x : IncV) (n : Nat) : List Value := ((List.replicate n x).map fun x => (incC x).toList).flatten

theorem repC_succ (x : IncV) (n : Nat) : repC x (n + 1) = repC x n ++ (incC x).toList := by
  unfold repC
  rw [List.replicate_succ', List.map_append, List.flatten_append]
  simp

theorem own_later {w w' : World} {base n sz : Nat} {e : TypeId} {v : Value} {xs : List Value} (h : w.ownsRow base e sz v n xs) (hb : Below w.heap.size w w') : w'.ownsRow base e sz v n xs := by
  refine ⟨h.1, ?_⟩
  rcases h.2 with h | ⟨g, cap, cur, hv, hg, hc, hr⟩
  · exact .inl h
  · refine .inr ⟨g, cap, cur, hv, hg, ?_, hr⟩
    rw [hb.block g (Array.getElem?_eq_some_iff.1 hc).1]
    exact hc

theorem flat_at (L : IncV → List Value) (hL : ∀ x, (L x).length = 3) : ∀ (xs : List IncV) (i : Nat) (h : i < xs.length) (j : Nat), j < 3 → ((xs.map L).flatten)[i * 3 + j]? = (L xs[i])[j]? := by
  intro xs
  induction xs with
  | nil => intro i h; cases h
  | cons x xs ih =>
    intro i h j hj
    rw [List.map_cons, List.flatten_cons]
    match i with
    | 0 =>
      rw [List.getElem?_append_left (by rw [hL]; omega)]
      simp
    | i + 1 =>
      rw [List.getElem?_append_right (by rw [hL]; omega), hL, show (i + 1) * 3 + j - 3 = i * 3 + j by omega]
      exact ih i (by simpa using h) j hj

/-- A row of one's own, as a slice of increments. -/
theorem sl_own {w : World} {base n : Nat} {v : Value} {xs : List IncV} (h : w.ownsRow base 29 3 v n ((xs.map fun x => (incC x).toList).flatten)) :
    n = xs.length ∧ ∃ ao c, v = .slice ao n c ∧ Sl w ao c 3 (xs.map fun x => (incC x).toList) := by
  have hl : n = xs.length := by
    have := h.1
    have e : ((xs.map fun x => (incC x).toList).flatten).length = xs.length * 3 := by
      rw [List.length_flatten, List.map_map]
      have : (List.length ∘ fun x : IncV => (incC x).toList) = fun _ => 3 := rfl
      rw [this, List.map_const']
      simp
    omega
  refine ⟨hl, ?_⟩
  rcases h.2 with ⟨hv, h0⟩ | ⟨g, cap, cur, hv, hg, hc, hle, hm, hr⟩
  · have : xs = [] := List.eq_nil_of_length_eq_zero (by omega)
    subst this
    exact ⟨none, 0, by rw [hv, h0], Sl.nothing _ _⟩
  · refine ⟨some ⟨g, 0, none⟩, cap, hv, ⟨by rw [List.length_map]; omega, hm, (fun h => by cases h), ?_, fun ad had i hi j hj => ?_⟩⟩
    · intro r hr
      obtain ⟨x, _, rfl⟩ := List.mem_map.1 hr
      rfl
    · obtain rfl := Option.some.inj had
      have hi' : i < xs.length := by rw [List.length_map] at hi; exact hi
      have hf := flat_at (fun x => (incC x).toList) (fun _ => rfl) xs i hi' j hj
      have hj3 : j < ((incC xs[i]).toList).length := hj
      rw [List.getElem?_eq_getElem hj3] at hf
      have := h.cells (g := g) (by rw [hv]; rfl) (i * 3 + j) _ hf
      rw [this]
      simp [hj3]

set_option maxRecDepth 100000 in
set_option maxHeartbeats 1000000 in
theorem many_walk (S : MapsSpec) (q : Nat) (k o : Nat) (n : Int) (w : World) (hq : q < 256) (hx : IncOk ⟨k, o, n⟩) :
    Calls Try.prog 6 #[.int .u8 q, .agg #[.int .u8 k, .int .u8 o, .int .i64 n]] w fun e w' => e = .returned (.bool true) ∧ Below w.heap.size w w' := by
  obtain ⟨i0, hi, hz0, hz1, hz2⟩ := info_parts Try.infoInc
  have hx' := hx
  obtain ⟨x1, x2, x3, x4⟩ := hx'
  simp only at x1 x2 x3 x4
  have hH0 := Has.new w 29 (incC ⟨k, o, n⟩)
  have hb0 := (Below.refl w.heap.size w).alloc (Nat.le_refl _) (.cells (incC ⟨k, o, n⟩) 29)
  go_enter Try.func6, Try.ntmps6
  go_wp2_with (go_at_call 9; refine (known_any S _).mono ?_; rintro e w1 ⟨rfl, hb1⟩; have hH := hH0.later hb1; obtain ⟨d0, d1, d2⟩ := inc_cells hH)
  replace hb1 := hb0.trans (hb1.mono hb0.size)
  clear hb0 hH0
  refine (S.isinc ⟨k, o, n⟩ _ hx).mono ?_
  rintro e w2 ⟨rfl, hb2⟩
  cases hJ : isInc ⟨k, o, n⟩ with
  | false =>
    go_wp2
    go_ret
    exact ⟨rfl, hb1.trans (hb2.mono hb1.size)⟩
  | true =>
    replace hH := hH.later hb2
    obtain ⟨d0, d1, d2⟩ := inc_cells hH
    replace hb2 := hb1.trans (hb2.mono hb1.size)
    clear hb1
    go_wp2
    have hq70 : (q : Int) % 70 = ((q % 70 : Nat) : Int) := rfl
    rw [hq70]
    generalize hr : q % 70 = r at *
    have hr70 : r < 70 := by omega
    clear hr hq70
    go_loopw [6, 7] (fun v i wr => ∃ m : Nat, m ≤ r ∧ i = .int .i64 m ∧ wr.ownsRow w2.heap.size 29 3 v m (repC ⟨k, o, n⟩ m) ∧ Below w2.heap.size w2 wr) (fun _ i _ => r - (intOf i).toNat)
    case atStart => exact ⟨0, Nat.zero_le _, rfl, World.ownsRow_nil _ _ _ _, Below.refl _ _⟩
    case round =>
      obtain ⟨m, hm, rfl, hown, hbr⟩ := hrel
      by_cases hlt : m < r
      · obtain ⟨e0, e1, e2⟩ := inc_cells (hH.later hbr)
        go_wp2_with (at_builtin; refine wpList_append_own _ rfl _ _ 43 rfl w2.heap.size 29 i0 (.agg #[.int .u8 0, .int .u8 0, .int .i64 0]) 3 16 Try.underlying43 hi hz0 hz1 hz2 rfl (by decide) _ m _ rfl (hown.alloc _) ⟨wr.heap.size, 0, none⟩ 1 1 [.int .u8 k, .int .u8 o, .int .i64 n] rfl rfl ?c1 ?c2 (by unfold maxLen; omega) (by omega) (by have := hbr.size; simp; omega) ?_)
        case c1 =>
          intro j u hj
          match j, hj with
          | 0, hj => simp at hj; subst hj; simp [Addr.add]
          | 1, hj => simp at hj; subst hj; simp [Addr.add]
          | 2, hj => simp at hj; subst hj; simp [Addr.add]
        case c2 => intro u hu; simp at hu; rcases hu with rfl | rfl | rfl <;> rfl
        intro v' w3 hown3 hgrow _
        have hb3 : Below w2.heap.size w2 w3 := (hbr.alloc hbr.size _).grown hgrow (by have := hbr.size; simp; omega) (fun k hk => (hown.lt k hk).1)
        have hown4 : w3.ownsRow w2.heap.size 29 3 v' (m + 1) (repC ⟨k, o, n⟩ (m + 1)) := by rw [repC_succ]; exact hown3
        clear hown hown3 hgrow hbr
        go_wp2
        go_roundw
        case rel => exact ⟨m + 1, by omega, by go_num, hown4, hb3⟩
        case measure => simp [intOf]; omega
      · have : m = r := by omega
        subst this
        obtain ⟨_, ao, c, rfl, hSl⟩ := sl_own (xs := List.replicate m ⟨k, o, n⟩) hown
        have hfold := S.fold ao c (List.replicate m ⟨k, o, n⟩) wr hSl (fun x hx' => by rw [(List.mem_replicate.1 hx').2]; exact hx) (by rw [List.length_replicate]; omega)
        rw [List.length_replicate] at hfold
        have hbw := hb2.trans (hbr.mono hb2.size)
        have hrep : Hid _ := fold_rep hJ hx m firstM first_is firstM_ok
        rename_i hlen0
        clear hlen0 hown hSl hbr hb2 hH d0 d1 d2 hlt hm
        go_wp2_with fail
        refine hfold.mono ?_
        rintro e w4 ⟨rfl, hb4⟩
        replace hb4 := hbw.trans (hb4.mono hbw.size)
        clear hbw hfold
        have hrep := hrep.out
        have e1 : firstM.epoch = 1 := rfl
        rw [e1] at hrep
        have hfe : foldFrom firstM (List.replicate m ⟨k, o, n⟩) = foldM (List.replicate m ⟨k, o, n⟩) := rfl
        rw [hfe] at hrep
        clear e1 hfe
        generalize foldM (List.replicate m ⟨k, o, n⟩) = F at *
        obtain ⟨M, ok⟩ := F
        simp only at hrep
        have hb5 := below_setRow (hb4.alloc hb4.size (.cells (mapC zeroM) 27)) hb4.size (mapC M)
        have hH5 := (Has.new w4 27 (mapC zeroM)).row (mapC M)
        by_cases hc : 59 < m
        · rw [hrep.2 (by omega), errI_false]
          have hc' : (60 : Int) < (m : Int) + 1 := by omega
          go_wp2_with (first
            | (refine alloc_map (by rfl) rfl ?_)
            | (refine store_map _ zeroM (by rfl) _ _ rfl _ rfl rfl (Has.new _ _ _) ?_))
          go_ret
          exact ⟨rfl, hb5⟩
        · obtain ⟨r1, r2, r3, r4⟩ := hrep.1 (by omega)
          rw [r1, errI_true]
          have hc' : (m : Int) + 1 ≤ 60 := by omega
          have c0 := hH5.cell 0
          have r3' : M.epoch = m + 1 := by omega
          rw [mapC_epoch, r3'] at c0
          go_wp2_with (first
            | (refine alloc_map (by rfl) rfl ?_)
            | (refine store_map _ zeroM (by rfl) _ _ rfl _ rfl rfl (Has.new _ _ _) ?_)
            | (refine load_map _ (by first | rfl | simp [Region.wanted, yielded]) _ rfl _ rfl hH5 ?_))
          refine (S.is _ _ r4).mono ?_
          rintro e w6 ⟨rfl, hb6⟩
          rw [r2]
          go_wp2
          go_ret
          exact ⟨rfl, hb5.trans (hb6.mono hb5.size)⟩
end Go.Proofs.Ytoffbjdoampebaa
