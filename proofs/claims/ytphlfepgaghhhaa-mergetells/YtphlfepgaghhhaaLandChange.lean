/- The contracts of the four changes of an object. -/
import Derived.Test.YtphlfepgaghhhaaLandSized
import Derived.Test.YtphlfepgaghhhaaPlan
namespace Go.Proofs.Ytphlfepgaghhhaa
set_option linter.unusedSimpArgs false
set_option linter.unusedVariables false
set_option maxRecDepth 100000
open Go.RowKit

theorem own_size (x : ObjV) : (Try.prog.info? 102).map (·.size) = some (objC x).size := by show _ = some 5; kernel_rfl
theorem own_zero : (Try.prog.info? 102).map (·.zero) = some (some (.agg (objC obj0))) := by kernel_rfl
theorem own_built : Try.prog.built 102 [] = some (objC obj0) := by kernel_rfl

theorem drop_min (d : List UInt8) (n : Nat) : d.drop (min n d.length) = d.drop n := by
  by_cases h : n ≤ d.length
  · rw [Nat.min_eq_left h]
  · rw [Nat.min_eq_right (by omega), List.drop_of_length_le (by omega), List.drop_of_length_le (by omega)]

set_option maxHeartbeats 2000000 in
theorem remove_any (x : ObjV) (o : OpV) (w : World) (ho : OpOk o) (hk : o.kind = 4) :
    Calls Try.prog 82 #[.agg (objC x), .agg (opC o)] w fun e w' => e = .returned (.tuple #[.agg (objC (changeM x o).1), .int .u8 ((changeM x o).2 : Nat)]) ∧ Below w.heap.size w w' := by
  have hX : Has (((w.alloc (.cells (objC x) 102)).alloc (.cells (opC o) 35)).alloc (.cells (objC obj0) 102)) w.heap.size 102 (objC x) := ((Has.new _ _ _).alloc _).alloc _
  have hO : Has (((w.alloc (.cells (objC x) 102)).alloc (.cells (opC o) 35)).alloc (.cells (objC obj0) 102)) (w.heap.size + 1) 35 (opC o) := by
    have := (Has.new (w.alloc (.cells (objC x) 102)) 35 (opC o)).alloc (.cells (objC obj0) 102)
    simpa using this
  have hR : Has (((w.alloc (.cells (objC x) 102)).alloc (.cells (opC o) 35)).alloc (.cells (objC obj0) 102)) (w.heap.size + 1 + 1) 102 (objC obj0) := by
    have := Has.new ((w.alloc (.cells (objC x) 102)).alloc (.cells (opC o) 35)) 102 (objC obj0)
    simpa using this
  have hbw : Below w.heap.size w (((w.alloc (.cells (objC x) 102)).alloc (.cells (opC o) 35)).alloc (.cells (objC obj0) 102)) := (((Below.refl _ _).alloc (Nat.le_refl _) _).alloc (by simp) _).alloc (by simp; omega) _
  have q4 := (hO.cell 4).trans (show (opC o)[4]? = some (.int .u8 (o.pos : Int)) from rfl)
  have q5 := (hO.cell 5).trans (show (opC o)[5]? = some (.string (mkS o.data)) from rfl)
  have x0 := (hX.cell 0).trans (show (objC x)[0]? = some (.bool x.there) from rfl)
  have x1 := (hX.cell 1).trans (show (objC x)[1]? = some (.string (mkS x.data)) from rfl)
  have hp := ho.pos
  have hpI : (o.pos : Int) < 256 := by omega
  have hs1 := mkS_size o.data
  have hs2 := mkS_size x.data
  cases hth : x.there with
  | false =>
    rw [hth] at x0
    have hc : Hid (changeM x o = (x, 1)) := by show _ = _; unfold changeM; rw [if_neg (by omega), if_neg (by omega), if_neg (by omega), if_pos hth]
    clear hk
    go_enter Try.func82, Try.ntmps82
    go_wp2_with (first
      | (refine wpList_alloc_has (by rfl) 102 rfl (objC obj0) own_zero ?_; generalize ((w.alloc (.cells (objC x) 102)).alloc (.cells (opC o) 35)).alloc (.cells (objC obj0) 102) = w1 at *)
      | (refine wpList_load_has (by rfl) 102 _ rfl w.heap.size rfl 102 (objC x) _ Try.underlying102 rfl (own_size x) ?hg ?_; (case hg => exact hX))
      | (refine wpList_store_has (by rfl) 102 _ _ rfl (w.heap.size + 1 + 1) rfl (objC x) rfl 102 (objC obj0) (own_size _) rfl (obj_one _) ?hg ?_; (case hg => exact hR)))
    exact ret_has_tmp rfl (w.heap.size + 1 + 1) rfl 102 (objC x) _ Try.underlying102 rfl (own_size _) (hR.row _) rfl ⟨by rw [hc.out]; rfl, below_setRow hbw (by omega) _⟩
  | true =>
    rw [hth] at x0
    have hc : Hid (changeM x o = (obj0, 0)) := by show _ = _; unfold changeM; rw [if_neg (by omega), if_neg (by omega), if_neg (by omega), if_neg (by rw [hth]; simp)]
    clear hk
    go_enter Try.func82, Try.ntmps82
    go_wp2_with (first
      | (refine wpList_alloc_has (by rfl) 102 rfl (objC obj0) own_zero ?_; generalize ((w.alloc (.cells (objC x) 102)).alloc (.cells (opC o) 35)).alloc (.cells (objC obj0) 102) = w1 at *)
      | (refine wpList_build_has (by rfl) 102 #[] rfl (objC obj0) (by simpa using own_built) ?_)
      | (refine wpList_store_has (by rfl) 102 _ _ rfl (w.heap.size + 1 + 1) rfl (objC obj0) rfl 102 (objC obj0) (own_size _) rfl (obj_one _) ?hg ?_; (case hg => exact hR)))
    exact ret_has_tmp rfl (w.heap.size + 1 + 1) rfl 102 (objC obj0) _ Try.underlying102 rfl (own_size _) (hR.row _) rfl ⟨by rw [hc.out]; rfl, below_setRow hbw (by omega) _⟩
set_option maxHeartbeats 2000000 in
theorem attr_any (x : ObjV) (o : OpV) (w : World) (ho : OpOk o) (hk : o.kind = 3) :
    Calls Try.prog 81 #[.agg (objC x), .agg (opC o)] w fun e w' => e = .returned (.tuple #[.agg (objC (changeM x o).1), .int .u8 ((changeM x o).2 : Nat)]) ∧ Below w.heap.size w w' := by
  have hX : Has (((w.alloc (.cells (objC x) 102)).alloc (.cells (opC o) 35)).alloc (.cells (objC obj0) 102)) w.heap.size 102 (objC x) := ((Has.new _ _ _).alloc _).alloc _
  have hO : Has (((w.alloc (.cells (objC x) 102)).alloc (.cells (opC o) 35)).alloc (.cells (objC obj0) 102)) (w.heap.size + 1) 35 (opC o) := by
    have := (Has.new (w.alloc (.cells (objC x) 102)) 35 (opC o)).alloc (.cells (objC obj0) 102)
    simpa using this
  have hR : Has (((w.alloc (.cells (objC x) 102)).alloc (.cells (opC o) 35)).alloc (.cells (objC obj0) 102)) (w.heap.size + 1 + 1) 102 (objC obj0) := by
    have := Has.new ((w.alloc (.cells (objC x) 102)).alloc (.cells (opC o) 35)) 102 (objC obj0)
    simpa using this
  have hbw : Below w.heap.size w (((w.alloc (.cells (objC x) 102)).alloc (.cells (opC o) 35)).alloc (.cells (objC obj0) 102)) := (((Below.refl _ _).alloc (Nat.le_refl _) _).alloc (by simp) _).alloc (by simp; omega) _
  have q4 := (hO.cell 4).trans (show (opC o)[4]? = some (.int .u8 (o.pos : Int)) from rfl)
  have q5 := (hO.cell 5).trans (show (opC o)[5]? = some (.string (mkS o.data)) from rfl)
  have x0 := (hX.cell 0).trans (show (objC x)[0]? = some (.bool x.there) from rfl)
  have x1 := (hX.cell 1).trans (show (objC x)[1]? = some (.string (mkS x.data)) from rfl)
  have hp := ho.pos
  have hpI : (o.pos : Int) < 256 := by omega
  have hs1 := mkS_size o.data
  have hs2 := mkS_size x.data
  by_cases hlong : 3 ≤ o.pos
  · have hc : Hid (changeM x o = (x, 3)) := by show _ = _; unfold changeM; rw [if_neg (by omega), if_neg (by omega), if_pos hk, if_pos hlong]
    have hlongI : (3 : Int) ≤ (o.pos : Int) := by omega
    clear hk hlong
    generalize o.pos = p at *
    go_enter Try.func81, Try.ntmps81
    go_wp2_with (first
      | (refine wpList_alloc_has (by rfl) 102 rfl (objC obj0) own_zero ?_; generalize ((w.alloc (.cells (objC x) 102)).alloc (.cells (opC o) 35)).alloc (.cells (objC obj0) 102) = w1 at *)
      | (refine wpList_load_has (by rfl) 102 _ rfl w.heap.size rfl 102 (objC x) _ Try.underlying102 rfl (own_size x) ?hg ?_; (case hg => exact hX))
      | (refine wpList_store_has (by rfl) 102 _ _ rfl (w.heap.size + 1 + 1) rfl (objC x) rfl 102 (objC obj0) (own_size _) rfl (obj_one _) ?hg ?_; (case hg => exact hR)))
    exact ret_has_tmp rfl (w.heap.size + 1 + 1) rfl 102 (objC x) _ Try.underlying102 rfl (own_size _) (hR.row _) rfl ⟨by rw [hc.out]; rfl, below_setRow hbw (by omega) _⟩
  · have hlongI : (o.pos : Int) < 3 := by omega
    cases hth : x.there with
    | false =>
      rw [hth] at x0
      have hc : Hid (changeM x o = (x, 1)) := by show _ = _; unfold changeM; rw [if_neg (by omega), if_neg (by omega), if_pos hk, if_neg hlong, if_pos hth]
      clear hk hlong
      go_enter Try.func81, Try.ntmps81
      go_wp2_with (first
        | (refine wpList_alloc_has (by rfl) 102 rfl (objC obj0) own_zero ?_; generalize ((w.alloc (.cells (objC x) 102)).alloc (.cells (opC o) 35)).alloc (.cells (objC obj0) 102) = w1 at *)
        | (refine wpList_load_has (by rfl) 102 _ rfl w.heap.size rfl 102 (objC x) _ Try.underlying102 rfl (own_size x) ?hg ?_; (case hg => exact hX))
        | (refine wpList_store_has (by rfl) 102 _ _ rfl (w.heap.size + 1 + 1) rfl (objC x) rfl 102 (objC obj0) (own_size _) rfl (obj_one _) ?hg ?_; (case hg => exact hR)))
      exact ret_has_tmp rfl (w.heap.size + 1 + 1) rfl 102 (objC x) _ Try.underlying102 rfl (own_size _) (hR.row _) rfl ⟨by rw [hc.out]; rfl, below_setRow hbw (by omega) _⟩
    | true =>
      rw [hth] at x0
      have hc0 : changeM x o = (x.setAttr o.pos o.data, 0) := by unfold changeM; rw [if_neg (by omega), if_neg (by omega), if_pos hk, if_neg hlong, if_neg (by rw [hth]; simp)]
      rcases (show o.pos = 0 ∨ o.pos = 1 ∨ o.pos = 2 by omega) with h | h | h
      · have hc : Hid (changeM x o = ({ x with a0 := o.data }, 0)) := by show _ = _; rw [hc0]; unfold ObjV.setAttr; rw [if_pos h]
        rw [h] at q4
        clear hk hlong hc0 h hlongI hpI hth
        have f2 := hX.free 2
        have x2 := (hX.cell 2).trans (show (objC x)[2]? = some (.string (mkS x.a0)) from rfl)
        have hXz := hX.set 2 (.string (mkS o.data))
        have hXz : Has _ w.heap.size 102 (objC { x with a0 := o.data }) := hXz
        have hRz := hR.set_other (a := ⟨w.heap.size, 2, none⟩) (show w.heap.size + 1 + 1 ≠ w.heap.size by omega) (.string (mkS o.data))
        have hbz := hbw.setCell (show w.heap.size ≤ (⟨w.heap.size, 2, none⟩ : Addr).block from Nat.le_refl _) (.string (mkS o.data))
        go_enter Try.func81, Try.ntmps81
        go_wp2_with (first
          | (refine wpList_alloc_has (by rfl) 102 rfl (objC obj0) own_zero ?_; generalize ((w.alloc (.cells (objC x) 102)).alloc (.cells (opC o) 35)).alloc (.cells (objC obj0) 102) = w1 at *)
          | (refine wpList_load_has (by rfl) 102 _ rfl w.heap.size rfl 102 (objC { x with a0 := o.data }) _ Try.underlying102 rfl (own_size _) ?hg ?_; (case hg => exact hXz))
          | (refine wpList_store_has (by rfl) 102 _ _ rfl (w.heap.size + 1 + 1) rfl (objC { x with a0 := o.data }) rfl 102 (objC obj0) (own_size _) rfl (obj_one _) ?hg ?_; (case hg => exact hRz)))
        exact ret_has_tmp rfl (w.heap.size + 1 + 1) rfl 102 (objC { x with a0 := o.data }) _ Try.underlying102 rfl (own_size _) (hRz.row _) rfl ⟨by rw [hc.out]; rfl, below_setRow hbz (by omega) _⟩
      · have hc : Hid (changeM x o = ({ x with a1 := o.data }, 0)) := by show _ = _; rw [hc0]; unfold ObjV.setAttr; rw [if_neg (by omega), if_pos h]
        rw [h] at q4
        clear hk hlong hc0 h hlongI hpI hth
        have f2 := hX.free 3
        have x2 := (hX.cell 3).trans (show (objC x)[3]? = some (.string (mkS x.a1)) from rfl)
        have hXz := hX.set 3 (.string (mkS o.data))
        have hXz : Has _ w.heap.size 102 (objC { x with a1 := o.data }) := hXz
        have hRz := hR.set_other (a := ⟨w.heap.size, 3, none⟩) (show w.heap.size + 1 + 1 ≠ w.heap.size by omega) (.string (mkS o.data))
        have hbz := hbw.setCell (show w.heap.size ≤ (⟨w.heap.size, 3, none⟩ : Addr).block from Nat.le_refl _) (.string (mkS o.data))
        go_enter Try.func81, Try.ntmps81
        go_wp2_with (first
          | (refine wpList_alloc_has (by rfl) 102 rfl (objC obj0) own_zero ?_; generalize ((w.alloc (.cells (objC x) 102)).alloc (.cells (opC o) 35)).alloc (.cells (objC obj0) 102) = w1 at *)
          | (refine wpList_load_has (by rfl) 102 _ rfl w.heap.size rfl 102 (objC { x with a1 := o.data }) _ Try.underlying102 rfl (own_size _) ?hg ?_; (case hg => exact hXz))
          | (refine wpList_store_has (by rfl) 102 _ _ rfl (w.heap.size + 1 + 1) rfl (objC { x with a1 := o.data }) rfl 102 (objC obj0) (own_size _) rfl (obj_one _) ?hg ?_; (case hg => exact hRz)))
        exact ret_has_tmp rfl (w.heap.size + 1 + 1) rfl 102 (objC { x with a1 := o.data }) _ Try.underlying102 rfl (own_size _) (hRz.row _) rfl ⟨by rw [hc.out]; rfl, below_setRow hbz (by omega) _⟩
      · have hc : Hid (changeM x o = ({ x with a2 := o.data }, 0)) := by show _ = _; rw [hc0]; unfold ObjV.setAttr; rw [if_neg (by omega), if_neg (by omega)]
        rw [h] at q4
        clear hk hlong hc0 h hlongI hpI hth
        have f2 := hX.free 4
        have x2 := (hX.cell 4).trans (show (objC x)[4]? = some (.string (mkS x.a2)) from rfl)
        have hXz := hX.set 4 (.string (mkS o.data))
        have hXz : Has _ w.heap.size 102 (objC { x with a2 := o.data }) := hXz
        have hRz := hR.set_other (a := ⟨w.heap.size, 4, none⟩) (show w.heap.size + 1 + 1 ≠ w.heap.size by omega) (.string (mkS o.data))
        have hbz := hbw.setCell (show w.heap.size ≤ (⟨w.heap.size, 4, none⟩ : Addr).block from Nat.le_refl _) (.string (mkS o.data))
        go_enter Try.func81, Try.ntmps81
        go_wp2_with (first
          | (refine wpList_alloc_has (by rfl) 102 rfl (objC obj0) own_zero ?_; generalize ((w.alloc (.cells (objC x) 102)).alloc (.cells (opC o) 35)).alloc (.cells (objC obj0) 102) = w1 at *)
          | (refine wpList_load_has (by rfl) 102 _ rfl w.heap.size rfl 102 (objC { x with a2 := o.data }) _ Try.underlying102 rfl (own_size _) ?hg ?_; (case hg => exact hXz))
          | (refine wpList_store_has (by rfl) 102 _ _ rfl (w.heap.size + 1 + 1) rfl (objC { x with a2 := o.data }) rfl 102 (objC obj0) (own_size _) rfl (obj_one _) ?hg ?_; (case hg => exact hRz)))
        exact ret_has_tmp rfl (w.heap.size + 1 + 1) rfl 102 (objC { x with a2 := o.data }) _ Try.underlying102 rfl (own_size _) (hRz.row _) rfl ⟨by rw [hc.out]; rfl, below_setRow hbz (by omega) _⟩

set_option maxHeartbeats 2000000 in
theorem trunc_any (x : ObjV) (o : OpV) (w : World) (hx : x.data.length ≤ 1000) (ho : OpOk o) (hk : o.kind = 2) :
    Calls Try.prog 80 #[.agg (objC x), .agg (opC o)] w fun e w' => e = .returned (.tuple #[.agg (objC (changeM x o).1), .int .u8 ((changeM x o).2 : Nat)]) ∧ Below w.heap.size w w' := by
  have hX : Has (((w.alloc (.cells (objC x) 102)).alloc (.cells (opC o) 35)).alloc (.cells (objC obj0) 102)) w.heap.size 102 (objC x) := ((Has.new _ _ _).alloc _).alloc _
  have hO : Has (((w.alloc (.cells (objC x) 102)).alloc (.cells (opC o) 35)).alloc (.cells (objC obj0) 102)) (w.heap.size + 1) 35 (opC o) := by
    have := (Has.new (w.alloc (.cells (objC x) 102)) 35 (opC o)).alloc (.cells (objC obj0) 102)
    simpa using this
  have hR : Has (((w.alloc (.cells (objC x) 102)).alloc (.cells (opC o) 35)).alloc (.cells (objC obj0) 102)) (w.heap.size + 1 + 1) 102 (objC obj0) := by
    have := Has.new ((w.alloc (.cells (objC x) 102)).alloc (.cells (opC o) 35)) 102 (objC obj0)
    simpa using this
  have hbw : Below w.heap.size w (((w.alloc (.cells (objC x) 102)).alloc (.cells (opC o) 35)).alloc (.cells (objC obj0) 102)) := (((Below.refl _ _).alloc (Nat.le_refl _) _).alloc (by simp) _).alloc (by simp; omega) _
  have q4 := (hO.cell 4).trans (show (opC o)[4]? = some (.int .u8 (o.pos : Int)) from rfl)
  have q5 := (hO.cell 5).trans (show (opC o)[5]? = some (.string (mkS o.data)) from rfl)
  have x0 := (hX.cell 0).trans (show (objC x)[0]? = some (.bool x.there) from rfl)
  have x1 := (hX.cell 1).trans (show (objC x)[1]? = some (.string (mkS x.data)) from rfl)
  have hp := ho.pos
  have hpI : (o.pos : Int) < 256 := by omega
  have hs1 := mkS_size o.data
  have hs2 := mkS_size x.data
  cases hth : x.there with
  | false =>
    rw [hth] at x0
    have hc : Hid (changeM x o = (x, 1)) := by show _ = _; unfold changeM; rw [if_neg (by omega), if_pos hk, if_pos hth]
    clear hk
    go_enter Try.func80, Try.ntmps80
    go_wp2_with (first
      | (refine wpList_alloc_has (by rfl) 102 rfl (objC obj0) own_zero ?_; generalize ((w.alloc (.cells (objC x) 102)).alloc (.cells (opC o) 35)).alloc (.cells (objC obj0) 102) = w1 at *)
      | (refine wpList_load_has (by rfl) 102 _ rfl w.heap.size rfl 102 (objC x) _ Try.underlying102 rfl (own_size x) ?hg ?_; (case hg => exact hX))
      | (refine wpList_store_has (by rfl) 102 _ _ rfl (w.heap.size + 1 + 1) rfl (objC x) rfl 102 (objC obj0) (own_size _) rfl (obj_one _) ?hg ?_; (case hg => exact hR)))
    exact ret_has_tmp rfl (w.heap.size + 1 + 1) rfl 102 (objC x) _ Try.underlying102 rfl (own_size _) (hR.row _) rfl ⟨by rw [hc.out]; rfl, below_setRow hbw (by omega) _⟩
  | true =>
    rw [hth] at x0
    by_cases hlong : 16 < o.pos
    · have hc : Hid (changeM x o = (x, 2)) := by show _ = _; unfold changeM; rw [if_neg (by omega), if_pos hk, if_neg (by rw [hth]; simp), if_pos hlong]
      have hlongI : (16 : Int) < (o.pos : Int) := by omega
      clear hk hlong
      go_enter Try.func80, Try.ntmps80
      go_wp2_with (first
        | (refine wpList_alloc_has (by rfl) 102 rfl (objC obj0) own_zero ?_; generalize ((w.alloc (.cells (objC x) 102)).alloc (.cells (opC o) 35)).alloc (.cells (objC obj0) 102) = w1 at *)
        | (refine wpList_load_has (by rfl) 102 _ rfl w.heap.size rfl 102 (objC x) _ Try.underlying102 rfl (own_size x) ?hg ?_; (case hg => exact hX))
        | (refine wpList_store_has (by rfl) 102 _ _ rfl (w.heap.size + 1 + 1) rfl (objC x) rfl 102 (objC obj0) (own_size _) rfl (obj_one _) ?hg ?_; (case hg => exact hR)))
      exact ret_has_tmp rfl (w.heap.size + 1 + 1) rfl 102 (objC x) _ Try.underlying102 rfl (own_size _) (hR.row _) rfl ⟨by rw [hc.out]; rfl, below_setRow hbw (by omega) _⟩
    · have hlongI : (o.pos : Int) ≤ 16 := by omega
      have hc0 : changeM x o = (⟨true, fitS o.pos x.data, x.a0, x.a1, x.a2⟩, 0) := by unfold changeM; rw [if_neg (by omega), if_pos hk, if_neg (by rw [hth]; simp), if_neg hlong, ← hth]
      have hsz := fun W => sized_any x.data o.pos W hx (by omega)
      obtain ⟨U, hU⟩ : ∃ U, U = fitS o.pos x.data := ⟨_, rfl⟩
      rw [← hU] at hc0 hsz
      have hc : Hid _ := hc0
      clear hc0 hU hk hlong
      generalize o.pos = p at *
      go_enter Try.func80, Try.ntmps80
      go_wp2_with (first
        | (refine wpList_alloc_has (by rfl) 102 rfl (objC obj0) own_zero ?_; generalize ((w.alloc (.cells (objC x) 102)).alloc (.cells (opC o) 35)).alloc (.cells (objC obj0) 102) = w1 at *)
        | (refine wpList_load_has (by rfl) 102 _ rfl w.heap.size rfl 102 (objC x) _ Try.underlying102 rfl (own_size x) ?hg ?_; (case hg => exact hX))
        | (refine wpList_store_has (by rfl) 102 _ _ rfl (w.heap.size + 1 + 1) rfl (objC x) rfl 102 (objC obj0) (own_size _) rfl (obj_one _) ?hg ?_; (case hg => exact hR)))
      refine (hsz _).mono ?_
      rintro e w2 ⟨rfl, hq⟩
      have x1' : w2.cell? ⟨w.heap.size, 1, none⟩ = some (.string (mkS x.data)) := ((hX.later hq).cell 1).trans rfl
      have f1' := (hX.later hq).free 1
      have hX2 : Has w2 w.heap.size 102 (objC ⟨true, x.data, x.a0, x.a1, x.a2⟩) := by
        have := hX.later hq
        have e : x = ⟨true, x.data, x.a0, x.a1, x.a2⟩ := by rw [← hth]
        rw [e] at this
        exact this
      have hXz : Has (w2.setCell ⟨w.heap.size, 1, none⟩ (.string (mkS U))) w.heap.size 102 (objC ⟨true, U, x.a0, x.a1, x.a2⟩) := hX2.set 1 _
      have hRz := (hR.later hq).set_other (a := ⟨w.heap.size, 1, none⟩) (show w.heap.size + 1 + 1 ≠ w.heap.size by omega) (.string (mkS U))
      have hbz := (hbw.trans (hq.mono hbw.size)).setCell (show w.heap.size ≤ (⟨w.heap.size, 1, none⟩ : Addr).block from Nat.le_refl _) (.string (mkS U))
      clear hX hO hR hbw hq x0 x1 q4 q5 hX2
      go_wp2_with (first
        | (refine wpList_load_has (by rfl) 102 _ rfl w.heap.size rfl 102 (objC (⟨true, U, x.a0, x.a1, x.a2⟩ : ObjV)) _ Try.underlying102 rfl (own_size (⟨true, U, x.a0, x.a1, x.a2⟩ : ObjV)) ?hg ?_; (case hg => exact hXz))
        | (refine wpList_store_has (by rfl) 102 _ _ rfl (w.heap.size + 1 + 1) rfl (objC (⟨true, U, x.a0, x.a1, x.a2⟩ : ObjV)) rfl 102 (objC obj0) (own_size _) rfl (obj_one _) ?hg ?_; (case hg => exact hRz)))
      exact ret_has_tmp rfl (w.heap.size + 1 + 1) rfl 102 (objC (⟨true, U, x.a0, x.a1, x.a2⟩ : ObjV)) _ Try.underlying102 rfl (own_size _) (hRz.row _) rfl ⟨by rw [hc.out]; rfl, below_setRow hbz (by omega) _⟩

set_option maxHeartbeats 2000000 in
theorem write_any (x : ObjV) (o : OpV) (w : World) (hx : x.data.length ≤ 1000) (ho : OpOk o) (hl : o.data.length ≤ 16) (hk : o.kind = 1) :
    Calls Try.prog 79 #[.agg (objC x), .agg (opC o)] w fun e w' => e = .returned (.tuple #[.agg (objC (changeM x o).1), .int .u8 ((changeM x o).2 : Nat)]) ∧ Below w.heap.size w w' := by
  have hX : Has (((w.alloc (.cells (objC x) 102)).alloc (.cells (opC o) 35)).alloc (.cells (objC obj0) 102)) w.heap.size 102 (objC x) := ((Has.new _ _ _).alloc _).alloc _
  have hO : Has (((w.alloc (.cells (objC x) 102)).alloc (.cells (opC o) 35)).alloc (.cells (objC obj0) 102)) (w.heap.size + 1) 35 (opC o) := by
    have := (Has.new (w.alloc (.cells (objC x) 102)) 35 (opC o)).alloc (.cells (objC obj0) 102)
    simpa using this
  have hR : Has (((w.alloc (.cells (objC x) 102)).alloc (.cells (opC o) 35)).alloc (.cells (objC obj0) 102)) (w.heap.size + 1 + 1) 102 (objC obj0) := by
    have := Has.new ((w.alloc (.cells (objC x) 102)).alloc (.cells (opC o) 35)) 102 (objC obj0)
    simpa using this
  have hbw : Below w.heap.size w (((w.alloc (.cells (objC x) 102)).alloc (.cells (opC o) 35)).alloc (.cells (objC obj0) 102)) := (((Below.refl _ _).alloc (Nat.le_refl _) _).alloc (by simp) _).alloc (by simp; omega) _
  have q4 := (hO.cell 4).trans (show (opC o)[4]? = some (.int .u8 (o.pos : Int)) from rfl)
  have q5 := (hO.cell 5).trans (show (opC o)[5]? = some (.string (mkS o.data)) from rfl)
  have x0 := (hX.cell 0).trans (show (objC x)[0]? = some (.bool x.there) from rfl)
  have x1 := (hX.cell 1).trans (show (objC x)[1]? = some (.string (mkS x.data)) from rfl)
  have hp := ho.pos
  have hpI : (o.pos : Int) < 256 := by omega
  have hs1 := mkS_size o.data
  have hs2 := mkS_size x.data
  have hlI : (o.data.length : Int) ≤ 16 := by omega
  by_cases hlong : 16 < o.pos + o.data.length
  · have hc : Hid (changeM x o = (x, 2)) := by show _ = _; unfold changeM; rw [if_pos hk, if_pos hlong]
    have hlongI : (16 : Int) < (o.pos : Int) + (o.data.length : Int) := by omega
    clear hk hlong
    generalize o.data.length = n at *
    generalize o.pos = p at *
    go_enter Try.func79, Try.ntmps79
    go_wp2_with (first
      | (refine wpList_alloc_has (by rfl) 102 rfl (objC obj0) own_zero ?_; generalize ((w.alloc (.cells (objC x) 102)).alloc (.cells (opC o) 35)).alloc (.cells (objC obj0) 102) = w1 at *)
      | (refine wpList_load_has (by rfl) 102 _ rfl w.heap.size rfl 102 (objC x) _ Try.underlying102 rfl (own_size x) ?hg ?_; (case hg => exact hX))
      | (refine wpList_store_has (by rfl) 102 _ _ rfl (w.heap.size + 1 + 1) rfl (objC x) rfl 102 (objC obj0) (own_size _) rfl (obj_one _) ?hg ?_; (case hg => exact hR)))
    exact ret_has_tmp rfl (w.heap.size + 1 + 1) rfl 102 (objC x) _ Try.underlying102 rfl (own_size _) (hR.row _) rfl ⟨by rw [hc.out]; rfl, below_setRow hbw (by omega) _⟩
  · have hlongI : (o.pos : Int) + (o.data.length : Int) ≤ 16 := by omega
    have hc0 : changeM x o = (⟨true, fitS o.pos x.data ++ o.data ++ x.data.drop (min (o.pos + o.data.length) x.data.length), x.a0, x.a1, x.a2⟩, 0) := by
      unfold changeM
      rw [if_pos hk, if_neg hlong, drop_min]
      rfl
    have hsz := fun W => sized_any x.data o.pos W hx (by omega)
    obtain ⟨s, hse⟩ : ∃ s, s = o.data := ⟨_, rfl⟩
    rw [← hse] at q5 hs1 hl hlI hlong hlongI hc0
    obtain ⟨T1, hT⟩ : ∃ T, T = fitS o.pos x.data := ⟨_, rfl⟩
    have hTl : T1.length = o.pos := by rw [hT, fitS_len]
    obtain ⟨R, hR0⟩ : ∃ R, R = x.data.drop (min (o.pos + s.length) x.data.length) := ⟨_, rfl⟩
    have hRl : R.length ≤ 1000 := by rw [hR0, List.length_drop]; omega
    obtain ⟨T2, hT2⟩ : ∃ T, T = T1 ++ s := ⟨_, rfl⟩
    have hT2l : T2.length = o.pos + s.length := by rw [hT2, List.length_append, hTl]
    obtain ⟨U, hU⟩ : ∃ U, U = T2 ++ R := ⟨_, rfl⟩
    have e2 := fun (W : World) => addS (P := Try.prog) W T1 s (by omega)
    have e3 := fun (W : World) => addS (P := Try.prog) W T2 R (by omega)
    rw [← hT2] at e2
    rw [← hU] at e3
    have e4 := fun (W : World) => tailS (P := Try.prog) W 9 Try.underlying9 x.data (min ((o.pos : Int) + (s.length : Int)) (x.data.length : Int)) (min (o.pos + s.length) x.data.length) (by omega) (by omega)
    rw [← hR0] at e4
    rw [← hT, ← hR0, ← hT2, ← hU] at hc0
    rw [← hT] at hsz
    have hc : Hid _ := hc0
    replace hse : Hid (s = o.data) := hse
    clear hc0 hT hTl hR0 hRl hT2 hT2l hU hk hlong
    generalize s.length = n at *
    generalize o.pos = p at *
    have f0 := hX.free 0
    go_enter Try.func79, Try.ntmps79
    go_wp2_with (first
      | (refine wpList_alloc_has (by rfl) 102 rfl (objC obj0) own_zero ?_; generalize ((w.alloc (.cells (objC x) 102)).alloc (.cells (opC o) 35)).alloc (.cells (objC obj0) 102) = w1 at *)
      | (refine wpList_load_has (by rfl) 102 _ rfl w.heap.size rfl 102 (objC x) _ Try.underlying102 rfl (own_size x) ?hg ?_; (case hg => exact hX))
      | (refine wpList_store_has (by rfl) 102 _ _ rfl (w.heap.size + 1 + 1) rfl (objC x) rfl 102 (objC obj0) (own_size _) rfl (obj_one _) ?hg ?_; (case hg => exact hR)))
    have hX1 : Has (w1.setCell ⟨w.heap.size, 0, none⟩ (.bool true)) w.heap.size 102 (objC ⟨true, x.data, x.a0, x.a1, x.a2⟩) := hX.set 0 _
    have hO1 := hO.set_other (a := ⟨w.heap.size, 0, none⟩) (show w.heap.size + 1 ≠ w.heap.size by omega) (.bool true)
    have hR1 := hR.set_other (a := ⟨w.heap.size, 0, none⟩) (show w.heap.size + 1 + 1 ≠ w.heap.size by omega) (.bool true)
    have hb1 := hbw.setCell (show w.heap.size ≤ (⟨w.heap.size, 0, none⟩ : Addr).block from Nat.le_refl _) (.bool true)
    have q4' : (w1.setCell ⟨w.heap.size, 0, none⟩ (.bool true)).cell? ⟨w.heap.size + 1, 4, none⟩ = some (.int .u8 (p : Int)) := (hO1.cell 4).trans ((hO.cell 4).symm.trans q4)
    have q5' : (w1.setCell ⟨w.heap.size, 0, none⟩ (.bool true)).cell? ⟨w.heap.size + 1, 5, none⟩ = some (.string (mkS s)) := (hO1.cell 5).trans ((hO.cell 5).symm.trans q5)
    clear hX hO hR hbw x0 x1 q4 q5 f0
    generalize w1.setCell ⟨w.heap.size, 0, none⟩ (.bool true) = w2 at *
    replace hX1 := hX1.drew
    replace hO1 := hO1.drew
    replace hR1 := hR1.drew
    replace hb1 := hb1.drew
    refine wp_region_plan (fun W => W.cell? ⟨w.heap.size + 1, 4, none⟩ = some (.int .u8 (p : Int)) ∧ W.cell? ⟨w.heap.size + 1, 5, none⟩ = some (.string (mkS s))) (Plan.of [(0, true), (2, true), (3, true), (4, true), (6, true), (7, true), (9, true), (1, false), (5, false), (8, true), (10, true), (11, true), (12, false)] .done) (by kernel_rfl) (by kernel_rfl) (by kernel_rfl) (by kernel_rfl) ⟨q4', q5'⟩ ?_
    have hwp : IntKind.i64.wrap (p : Int) = (p : Int) := by
      simp [IntKind.wrap, IntKind.bits, IntKind.signed]
      omega
    iterate 2
      first
        | (refine plan_pass _ rfl (by rfl) ?_)
        | (refine plan_take _ _ rfl (.inl ⟨by rfl, fun W hS => by clear hS; go_simp; try with_reducible rfl⟩) ?_)
      try simp only [Act.put, List.setIfInBounds_toArray, List.set_cons_zero, List.set_cons_succ]
    iterate 1
      first
        | (refine plan_pass _ rfl (by rfl) ?_)
        | (refine plan_take _ _ rfl (.inl ⟨by rfl, fun W hS => by have z1 := hS.1; go_simp; try with_reducible rfl⟩) ?_)
      try simp only [Act.put, List.setIfInBounds_toArray, List.set_cons_zero, List.set_cons_succ]
    refine plan_take _ (.int .i64 (p : Int)) rfl (.inl ⟨by rfl, fun W hS => by clear hS; go_simp; try with_reducible rfl⟩) ?_
    try simp only [Act.put, List.setIfInBounds_toArray, List.set_cons_zero, List.set_cons_succ]
    iterate 1
      first
        | (refine plan_pass _ rfl (by rfl) ?_)
        | (refine plan_take _ _ rfl (.inl ⟨by rfl, fun W hS => by clear hS; go_simp; try with_reducible rfl⟩) ?_)
      try simp only [Act.put, List.setIfInBounds_toArray, List.set_cons_zero, List.set_cons_succ]
    iterate 1
      first
        | (refine plan_pass _ rfl (by rfl) ?_)
        | (refine plan_take _ _ rfl (.inl ⟨by rfl, fun W hS => by have z1 := hS.2; go_simp; try with_reducible rfl⟩) ?_)
      try simp only [Act.put, List.setIfInBounds_toArray, List.set_cons_zero, List.set_cons_succ]
    iterate 1
      first
        | (refine plan_pass _ rfl (by rfl) ?_)
        | (refine plan_take _ _ rfl (.inl ⟨by rfl, fun W hS => by clear hS; go_simp; try with_reducible rfl⟩) ?_)
      try simp only [Act.put, List.setIfInBounds_toArray, List.set_cons_zero, List.set_cons_succ]
    have x1d : w2.drew.cell? ⟨w.heap.size, 1, none⟩ = some (.string (mkS x.data)) := (hX1.cell 1).trans rfl
    refine plan_run _ rfl (fun K hK => ?_)
    go_simp
    refine hK.out _ w2.drew ⟨q4', q5'⟩ ?_
    clear hK K
    try simp only [Act.put, List.setIfInBounds_toArray, List.set_cons_zero, List.set_cons_succ]
    refine plan_run _ rfl (fun K hK => ?_)
    go_simp
    refine (hsz _).mono ?_
    rintro e w3 ⟨rfl, hq⟩
    replace hX1 := hX1.later hq
    have hO3 := hO1.later hq
    replace hR1 := hR1.later hq
    replace hb1 := hb1.trans (hq.mono hb1.size)
    have hS3 : w3.cell? ⟨w.heap.size + 1, 4, none⟩ = some (.int .u8 (p : Int)) ∧ w3.cell? ⟨w.heap.size + 1, 5, none⟩ = some (.string (mkS s)) := ⟨(hO3.cell 4).trans ((hO1.cell 4).symm.trans q4'), (hO3.cell 5).trans ((hO1.cell 5).symm.trans q5')⟩
    replace hO1 := hO3
    clear hO3
    refine hK.out _ w3 hS3 ?_
    clear hK K hq x1d
    try simp only [Act.put, List.setIfInBounds_toArray, List.set_cons_zero, List.set_cons_succ]
    refine plan_take _ (.string (mkS T2)) rfl (.inl ⟨by rfl, fun W hS => by clear hS; go_simp; try with_reducible rfl⟩) ?_
    try simp only [Act.put, List.setIfInBounds_toArray, List.set_cons_zero, List.set_cons_succ]
    refine plan_take _ (.string (mkS U)) rfl (.inl ⟨by rfl, fun W hS => by clear hS; go_simp; try with_reducible rfl⟩) ?_
    try simp only [Act.put, List.setIfInBounds_toArray, List.set_cons_zero, List.set_cons_succ]
    iterate 1
      first
        | (refine plan_pass _ rfl (by rfl) ?_)
        | (refine plan_take _ _ rfl (.inl ⟨by rfl, fun W hS => by clear hS; go_simp; try with_reducible rfl⟩) ?_)
      try simp only [Act.put, List.setIfInBounds_toArray, List.set_cons_zero, List.set_cons_succ]
    have f1 := hX1.free 1
    have x1d : w3.cell? ⟨w.heap.size, 1, none⟩ = some (.string (mkS x.data)) := (hX1.cell 1).trans rfl
    refine plan_run _ rfl (fun K hK => ?_)
    go_simp
    have hXz : Has (w3.setCell ⟨w.heap.size, 1, none⟩ (.string (mkS U))) w.heap.size 102 (objC ⟨true, U, x.a0, x.a1, x.a2⟩) := hX1.set 1 _
    have hOz := hO1.set_other (a := ⟨w.heap.size, 1, none⟩) (show w.heap.size + 1 ≠ w.heap.size by omega) (.string (mkS U))
    have hRz := hR1.set_other (a := ⟨w.heap.size, 1, none⟩) (show w.heap.size + 1 + 1 ≠ w.heap.size by omega) (.string (mkS U))
    have hbz := hb1.setCell (show w.heap.size ≤ (⟨w.heap.size, 1, none⟩ : Addr).block from Nat.le_refl _) (.string (mkS U))
    refine hK.out _ (w3.setCell ⟨w.heap.size, 1, none⟩ (.string (mkS U))) ⟨(hOz.cell 4).trans ((hO1.cell 4).symm.trans hS3.1), (hOz.cell 5).trans ((hO1.cell 5).symm.trans hS3.2)⟩ ?_
    clear hK K
    generalize w3.setCell ⟨w.heap.size, 1, none⟩ (.string (mkS U)) = w6 at *
    refine plan_done ?_
    go_wp2_with (first
      | (refine wpList_load_has (by rfl) 102 _ rfl w.heap.size rfl 102 (objC (⟨true, U, x.a0, x.a1, x.a2⟩ : ObjV)) _ Try.underlying102 rfl (own_size (⟨true, U, x.a0, x.a1, x.a2⟩ : ObjV)) ?hg ?_; (case hg => exact hXz))
      | (refine wpList_store_has (by rfl) 102 _ _ rfl (w.heap.size + 1 + 1) rfl (objC (⟨true, U, x.a0, x.a1, x.a2⟩ : ObjV)) rfl 102 (objC obj0) (own_size _) rfl (obj_one _) ?hg ?_; (case hg => exact hRz)))
    exact ret_has_tmp rfl (w.heap.size + 1 + 1) rfl 102 (objC (⟨true, U, x.a0, x.a1, x.a2⟩ : ObjV)) _ Try.underlying102 rfl (own_size _) (hRz.row _) rfl ⟨by rw [hc.out]; rfl, below_setRow hbz (by omega) _⟩
end Go.Proofs.Ytphlfepgaghhhaa
