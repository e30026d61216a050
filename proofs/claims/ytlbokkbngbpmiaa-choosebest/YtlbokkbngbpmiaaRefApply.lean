/- The contract of the document's Apply. -/
import Derived.Test.YtlbokkbngbpmiaaRefIs
import Derived.Test.YtlbokkbngbpmiaaRefInc
import Derived.Test.YtlbokkbngbpmiaaPackMaps
namespace Go.Proofs.Ytlbokkbngbpmiaa
set_option linter.unusedSimpArgs false
set_option linter.unusedVariables false
open Go.RowKit

set_option maxRecDepth 100000 in
set_option maxHeartbeats 1000000 in
theorem refapply_any (m : MapV) (x : IncV) (w : World) (hm : MapOk m) (hx : IncOk x) :
    Calls Try.prog 52 #[.agg (mapC m), .agg (incC x)] w fun e w' => e = .returned (.tuple #[.agg (mapC (applyM m x)), .bool (okA m x)]) ∧ Below w.heap.size w w' := by
  have hH1 : ∀ o1 o2, Has (((w.alloc (.cells (mapC m) 106)).alloc o1).alloc o2) w.heap.size 106 (mapC m) := fun o1 o2 => ((Has.new _ _ _).alloc o1).alloc o2
  have hH2 : Has (((w.alloc (.cells (mapC m) 106)).alloc (.cells (incC x) 73)).alloc (.cells (mapC zeroM) 106)) (w.heap.size + 1) 73 (incC x) := by
    have := (Has.new (w.alloc (.cells (mapC m) 106)) 73 (incC x)).alloc (.cells (mapC zeroM) 106)
    simpa using this
  have hH3 : Has (((w.alloc (.cells (mapC m) 106)).alloc (.cells (incC x) 73)).alloc (.cells (mapC zeroM) 106)) (w.heap.size + 1 + 1) 106 (mapC zeroM) := by
    have := Has.new ((w.alloc (.cells (mapC m) 106)).alloc (.cells (incC x) 73)) 106 (mapC zeroM)
    simpa using this
  have hbw : Below w.heap.size w (((w.alloc (.cells (mapC m) 106)).alloc (.cells (incC x) 73)).alloc (.cells (mapC zeroM) 106)) := (((Below.refl _ _).alloc (Nat.le_refl _) _).alloc (by simp) _).alloc (by simp; omega) _
  go_enter Try.func52, Try.ntmps52
  go_wp2_with (first
    | (refine alloc_map (by rfl) rfl ?_)
    | (refine load_map m (by rfl) _ rfl _ rfl (hH1 _ _) ?_))
  refine (refis_any m _ hm).mono ?_
  rintro e w2 ⟨rfl, hb2⟩
  have h1 := (hH1 _ _).later hb2
  have h2 := hH2.later hb2
  have h3 := hH3.later hb2
  replace hbw := hbw.trans (hb2.mono hbw.size)
  clear hH1 hH2 hH3 hb2
  cases hI : isM m with
  | false =>
    obtain ⟨e1, e2⟩ := okA_not (x := x) (.inl hI)
    go_wp2_with (first
      | (refine build_map0 (by rfl) rfl ?_)
      | (refine store_map zeroM zeroM (by rfl) _ _ rfl _ rfl rfl h3 ?_))
    exact ret_map_tmp zeroM rfl _ rfl (h3.row _) rfl ⟨by rw [e1, e2]; rfl, below_setRow hbw (by omega) _⟩
  | true =>
    go_wp2_with (first
      | (refine load_inc x (by rfl) _ rfl _ rfl h2 ?_))
    refine (refisinc_any x _ hx).mono ?_
    rintro e w3 ⟨rfl, hb3⟩
    replace h1 := h1.later hb3
    replace h2 := h2.later hb3
    replace h3 := h3.later hb3
    replace hbw := hbw.trans (hb3.mono hbw.size)
    clear hb3
    cases hJ : isInc x with
    | false =>
      obtain ⟨e1, e2⟩ := okA_not (m := m) (.inr (.inl hJ))
      go_wp2_with (first
        | (refine build_map0 (by rfl) rfl ?_)
        | (refine store_map zeroM zeroM (by rfl) _ _ rfl _ rfl rfl h3 ?_))
      exact ret_map_tmp zeroM rfl _ rfl (h3.row _) rfl ⟨by rw [e1, e2]; rfl, below_setRow hbw (by omega) _⟩
    | true =>
      have c0 := h1.cell 0
      rw [mapC_epoch] at c0
      by_cases he : (60 : Int) ≤ (m.epoch : Int)
      · obtain ⟨e1, e2⟩ := okA_not (m := m) (x := x) (.inr (.inr (by omega)))
        go_wp2_with (first
          | (refine build_map0 (by rfl) rfl ?_)
          | (refine store_map zeroM zeroM (by rfl) _ _ rfl _ rfl rfl h3 ?_))
        exact ret_map_tmp zeroM rfl _ rfl (h3.row _) rfl ⟨by rw [e1, e2]; rfl, below_setRow hbw (by omega) _⟩
      · obtain ⟨e1, e2⟩ := okA_yes hI hJ (show m.epoch < 60 by omega)
        have f0 := h1.free
        have hN := h1.set 0 (.int .u32 ((m.epoch + 1 : Nat) : Int))
        rw [mapC_setEpoch] at hN
        have hcast : ((m.epoch + 1 : Nat) : Int) = (m.epoch : Int) + 1 := rfl
        rw [hcast] at hN
        obtain ⟨k, o, n⟩ := x
        obtain ⟨d0, d1, d2⟩ := inc_cells h2
        rw [isInc_of, decide_eq_true_iff] at hJ
        have ho : o < 5 := by omega
        have cu := h1.cell (1 + o * 3)
        have cw := h1.cell (1 + o * 3 + 1)
        rw [mapC_up m ⟨o, ho⟩] at cu
        rw [mapC_wt m ⟨o, ho⟩] at cw
        clear h1 h2 hcast
        by_cases k1 : k = 1
        · subst k1
          have hN1 := hN.set (1 + o * 3) (.bool true)
          rw [mapC_setUp _ ⟨o, ho⟩] at hN1
          have hS := h3.set_other (a := ⟨w.heap.size, 0, none⟩) (by simp; omega) (.int .u32 ((m.epoch : Int) + 1))
          replace hS := hS.set_other (a := ⟨w.heap.size, 1 + o * 3, none⟩) (by simp; omega) (.bool true)
          go_wp2_with (first
            | (refine load_map _ (by rfl) _ rfl _ rfl hN1 ?_)
            | (refine store_map _ zeroM (by rfl) _ _ rfl _ rfl rfl hS ?_))
          exact ret_map_tmp _ rfl _ rfl (hS.row _) rfl ⟨by rw [e1, e2, next_at m _ ⟨o, ho⟩ rfl]; rfl, below_setRow ((hbw.setCell (Nat.le_refl _) _).setCell (Nat.le_refl _) _) (by omega) _⟩
        · by_cases k2 : k = 2
          · subst k2
            have hN1 := hN.set (1 + o * 3) (.bool false)
            rw [mapC_setUp _ ⟨o, ho⟩] at hN1
            have hS := h3.set_other (a := ⟨w.heap.size, 0, none⟩) (by simp; omega) (.int .u32 ((m.epoch : Int) + 1))
            replace hS := hS.set_other (a := ⟨w.heap.size, 1 + o * 3, none⟩) (by simp; omega) (.bool false)
            go_wp2_with (first
              | (refine load_map _ (by rfl) _ rfl _ rfl hN1 ?_)
              | (refine store_map _ zeroM (by rfl) _ _ rfl _ rfl rfl hS ?_))
            exact ret_map_tmp _ rfl _ rfl (hS.row _) rfl ⟨by rw [e1, e2, next_at m _ ⟨o, ho⟩ rfl]; rfl, below_setRow ((hbw.setCell (Nat.le_refl _) _).setCell (Nat.le_refl _) _) (by omega) _⟩
          · by_cases k3 : k = 3
            · subst k3
              have hN1 := hN.set (1 + o * 3 + 1) (.int .i64 n)
              rw [mapC_setWt _ ⟨o, ho⟩] at hN1
              have hS := h3.set_other (a := ⟨w.heap.size, 0, none⟩) (by simp; omega) (.int .u32 ((m.epoch : Int) + 1))
              replace hS := hS.set_other (a := ⟨w.heap.size, 1 + o * 3 + 1, none⟩) (by simp; omega) (.int .i64 n)
              go_wp2_with (first
                | (refine load_map _ (by rfl) _ rfl _ rfl hN1 ?_)
                | (refine store_map _ zeroM (by rfl) _ _ rfl _ rfl rfl hS ?_))
              exact ret_map_tmp _ rfl _ rfl (hS.row _) rfl ⟨by rw [e1, e2, next_at m _ ⟨o, ho⟩ rfl]; rfl, below_setRow ((hbw.setCell (Nat.le_refl _) _).setCell (Nat.le_refl _) _) (by omega) _⟩
            · have k4 : k = 4 := by omega
              subst k4
              have hS := h3.set_other (a := ⟨w.heap.size, 0, none⟩) (by simp; omega) (.int .u32 ((m.epoch : Int) + 1))
              go_wp2_with (first
                | (refine load_map _ (by rfl) _ rfl _ rfl hN ?_)
                | (refine store_map _ zeroM (by rfl) _ _ rfl _ rfl rfl hS ?_))
              exact ret_map_tmp _ rfl _ rfl (hS.row _) rfl ⟨by rw [e1, e2, next_none m _ rfl]; rfl, below_setRow (hbw.setCell (Nat.le_refl _) _) (by omega) _⟩
end Go.Proofs.Ytlbokkbngbpmiaa
