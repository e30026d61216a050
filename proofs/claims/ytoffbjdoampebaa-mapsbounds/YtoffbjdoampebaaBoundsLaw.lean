/- paddocklaw3.MapsBounds returns true, for whatever numbers, where package maps answers as it has to. -/
import Derived.Test.YtoffbjdoampebaaMapsKnown
import Derived.Test.YtoffbjdoampebaaVal
namespace Go.Proofs.Ytoffbjdoampebaa
set_option linter.unusedSimpArgs false
set_option linter.unusedVariables false
open Go.RowKit

/-- The map that is asked about. -/
def boundM (ep : Nat) (wt : Int) (ho : Nat) (k : Fin 5) : MapV := MapV.put { firstM with epoch := ep } k ⟨true, wt, ho⟩

theorem Has.bound {w : World} {g : Nat} {t : TypeId} (h : Has w g t (mapC firstM)) (ep : Nat) (wt : Int) (ho : Nat) (k : Fin 5) :
    Has (((w.setCell ⟨g, 0, none⟩ (.int .u32 ep)).setCell ⟨g, 1 + k.val * 3 + 1, none⟩ (.int .i64 wt)).setCell ⟨g, 1 + k.val * 3 + 2, none⟩ (.int .u8 ho)) g t (mapC (boundM ep wt ho k)) := by
  have h1 := h.set 0 (.int .u32 ep)
  rw [mapC_setEpoch] at h1
  have h2 := h1.set (1 + k.val * 3 + 1) (.int .i64 wt)
  rw [mapC_setWt] at h2
  have h3 := h2.set (1 + k.val * 3 + 2) (.int .u8 ho)
  rw [mapC_setHost] at h3
  simp only [MapV.put_put, MapV.put_at] at h3
  exact h3

theorem below_bound {n g : Nat} {w w3 : World} (hb : Below n w w3) (hg : n ≤ g) (ep : Nat) (wt : Int) (ho : Nat) (k : Fin 5) :
    Below n w (((w3.setCell ⟨g, 0, none⟩ (.int .u32 ep)).setCell ⟨g, 1 + k.val * 3 + 1, none⟩ (.int .i64 wt)).setCell ⟨g, 1 + k.val * 3 + 2, none⟩ (.int .u8 ho)) :=
  ((hb.setCell hg _).setCell hg _).setCell hg _

def boundB (ep : Nat) (wt : Int) (ho : Nat) : Bool := decide (1 ≤ ep ∧ ep ≤ 60 ∧ 0 ≤ wt ∧ wt ≤ 16 ∧ ho < 8)

theorem boundM_is (ep : Nat) (wt : Int) (ho : Nat) (k : Fin 5) : isM (boundM ep wt ho k) = boundB ep wt ho := by
  rw [Bool.eq_iff_iff, isM_is]
  unfold boundB
  rw [decide_eq_true_iff]
  have hf : ∀ i : Fin 5, osdOk (firstM.osd i) = true := by decide
  have hk : (boundM ep wt ho k).osd k = ⟨true, wt, ho⟩ := MapV.put_at _ _ _
  constructor
  · rintro ⟨⟨h1, h2⟩, h3⟩
    have := h3 k
    rw [hk, osdOk_is] at this
    exact ⟨h1, h2, this⟩
  · rintro ⟨h1, h2, h3⟩
    refine ⟨⟨h1, h2⟩, fun i => ?_⟩
    by_cases e : i = k
    · rw [e, hk, osdOk_is]
      exact h3
    · have : (boundM ep wt ho k).osd i = firstM.osd i := by
        unfold boundM MapV.put
        simp [e]
      rw [this]
      exact hf i

theorem boundM_ok (ep : Nat) (wt : Int) (ho : Nat) (k : Fin 5) (h1 : ep < 4294967296) (h2 : -9223372036854775808 ≤ wt ∧ wt ≤ 9223372036854775807) (h3 : ho < 256) : MapOk (boundM ep wt ho k) := by
  refine ⟨h1, fun i => ?_, fun i => ?_⟩
  · show _ ≤ (if i = k then (⟨true, wt, ho⟩ : OsdV) else firstM.osd i).wt ∧ (if i = k then (⟨true, wt, ho⟩ : OsdV) else firstM.osd i).wt ≤ _
    split
    · exact h2
    · exact firstM_ok.wt i
  · show (if i = k then (⟨true, wt, ho⟩ : OsdV) else firstM.osd i).host < 256
    split
    · exact h3
    · exact firstM_ok.host i

theorem bound_cases (ep : Nat) (wt : Int) (ho : Nat) :
    ((ep : Int) < 1 ∧ boundB ep wt ho = false) ∨ ((1 : Int) ≤ (ep : Int) ∧ (60 : Int) < (ep : Int) ∧ boundB ep wt ho = false) ∨ (((1 : Int) ≤ (ep : Int) ∧ (ep : Int) ≤ 60) ∧ wt < 0 ∧ boundB ep wt ho = false) ∨
    (((1 : Int) ≤ (ep : Int) ∧ (ep : Int) ≤ 60) ∧ 0 ≤ wt ∧ 16 < wt ∧ boundB ep wt ho = false) ∨ (((1 : Int) ≤ (ep : Int) ∧ (ep : Int) ≤ 60) ∧ (0 ≤ wt ∧ wt ≤ 16) ∧ (8 : Int) ≤ (ho : Int) ∧ boundB ep wt ho = false) ∨
    (((1 : Int) ≤ (ep : Int) ∧ (ep : Int) ≤ 60) ∧ (0 ≤ wt ∧ wt ≤ 16) ∧ (ho : Int) < 8 ∧ boundB ep wt ho = true) := by
  unfold boundB
  rw [decide_eq_true_iff, decide_eq_false_iff_not]
  omega

set_option maxRecDepth 100000 in
set_option maxHeartbeats 2000000 in
theorem bounds_walk (S : MapsSpec) (ep : Nat) (wt : Int) (ho q : Nat) (w : World) (h1 : ep < 4294967296) (h2 : -9223372036854775808 ≤ wt ∧ wt ≤ 9223372036854775807) (h3 : ho < 256) (h4 : q < 256) :
    Calls Try.prog 7 #[.int .u32 ep, .int .i64 wt, .int .u8 ho, .int .u8 q] w fun e w' => e = .returned (.bool true) ∧ Below w.heap.size w w' := by
  obtain ⟨k, hkq⟩ : ∃ k, Hid (q % 5 = k) := ⟨_, rfl⟩
  have hk : k < 5 := by have := hkq.out; omega
  have hq : Hid (q < 256) := h4
  clear h4
  have hMo : Hid _ := boundM_ok ep wt ho ⟨k, hk⟩ h1 h2 h3
  have hMi : Hid _ := boundM_is ep wt ho ⟨k, hk⟩
  obtain ⟨w1l, w1r⟩ := h2
  rcases bound_cases ep wt ho with ⟨e1, hB⟩ | ⟨e1, e2, hB⟩ | ⟨⟨e1, e2⟩, e3, hB⟩ | ⟨⟨e1, e2⟩, e3, e4, hB⟩ | ⟨⟨e1, e2⟩, ⟨e3, e4⟩, e5, hB⟩ | ⟨⟨e1, e2⟩, ⟨e3, e4⟩, e5, hB⟩
  · go_enter Try.func7, Try.ntmps7
    go_wp2_with (first
      | (go_at_call 9; refine (known_any S _).mono ?_; rintro e w1 ⟨rfl, hb1⟩)
      | (go_at_call 19; refine (S.first _).mono ?_; rintro e w2 ⟨rfl, hb2⟩; replace hb2 := hb1.trans (hb2.mono hb1.size); clear hb1)
      | (refine alloc_map (by rfl) rfl ?_)
      | (refine store_map _ zeroM (by rfl) _ _ rfl _ rfl rfl ?hg ?_; (case hg => exact Has.new _ _ _); have hH := (Has.new w2 27 (mapC zeroM)).row (mapC firstM); have hb3 := below_setRow (hb2.alloc hb2.size (.cells (mapC zeroM) 27)) hb2.size (mapC firstM); have hg2 := hb2.size; clear hb2; generalize (w2.alloc (.cells (mapC zeroM) 27)).setRow w2.heap.size (mapC firstM) = w3 at *; generalize w2.heap.size = g at *; have c0 := hH.cell 0; have c1 := hH.cell (1 + k * 3 + 1); have c2 := hH.cell (1 + k * 3 + 2); rw [mapC_epoch] at c0; rw [mapC_wt _ ⟨k, hk⟩] at c1; rw [mapC_host _ ⟨k, hk⟩] at c2; have f0 := hH.free)
      | (refine wpList_val (.int .u8 (k : Int)) (by rfl) (run_rem_u8 _ _ _ _ rfl q 5 k rfl rfl hq.out (by decide) hkq.out) ?_)
      | (refine load_map (boundM ep wt ho ⟨k, hk⟩) (by rfl) _ rfl _ rfl ?hg ?_; (case hg => exact hH.bound ep wt ho ⟨k, hk⟩)))
    refine (S.apply _ ⟨4, 0, 0⟩ _ hMo.out ⟨by decide, by decide, by decide, by decide⟩).mono ?_
    rintro e w4 ⟨rfl, hb4⟩
    have hM4 := (hH.bound ep wt ho ⟨k, hk⟩).later hb4
    have hbs := below_bound hb3 hg2 ep wt ho ⟨k, hk⟩
    replace hb4 := hbs.trans (hb4.mono hbs.size)
    clear c0 c1 c2 f0 hH hb3 hbs
    have hlt := hM4.lt
    obtain ⟨o1, o2⟩ := okA_not (m := boundM ep wt ho ⟨k, hk⟩) (x := ⟨4, 0, 0⟩) (.inl (hMi.out.trans hB))
    rw [o1, o2, errI_false]
    have hM5 := (hM4.alloc (.cells (mapC zeroM) 27)).row_other (k := w4.heap.size) (by omega) (mapC zeroM)
    have hb5 := below_setRow (hb4.alloc hb4.size (.cells (mapC zeroM) 27)) hb4.size (mapC zeroM)
    go_wp2_with (first
      | (refine alloc_map (by rfl) rfl ?_)
      | (refine store_map _ zeroM (by rfl) _ _ rfl _ rfl rfl ?hg ?_; (case hg => exact Has.new _ _ _); generalize (w4.alloc (.cells (mapC zeroM) 27)).setRow w4.heap.size (mapC zeroM) = w5 at *)
      | (refine load_map (boundM ep wt ho ⟨k, hk⟩) (by rfl) _ rfl _ rfl ?hg ?_; (case hg => exact hM5)))
    refine (S.is _ _ hMo.out).mono ?_
    rintro e w6 ⟨rfl, hb6⟩
    rw [hMi.out, hB]
    go_wp2
    go_ret
    exact ⟨rfl, hb5.trans (hb6.mono hb5.size)⟩
  · go_enter Try.func7, Try.ntmps7
    go_wp2_with (first
      | (go_at_call 9; refine (known_any S _).mono ?_; rintro e w1 ⟨rfl, hb1⟩)
      | (go_at_call 19; refine (S.first _).mono ?_; rintro e w2 ⟨rfl, hb2⟩; replace hb2 := hb1.trans (hb2.mono hb1.size); clear hb1)
      | (refine alloc_map (by rfl) rfl ?_)
      | (refine store_map _ zeroM (by rfl) _ _ rfl _ rfl rfl ?hg ?_; (case hg => exact Has.new _ _ _); have hH := (Has.new w2 27 (mapC zeroM)).row (mapC firstM); have hb3 := below_setRow (hb2.alloc hb2.size (.cells (mapC zeroM) 27)) hb2.size (mapC firstM); have hg2 := hb2.size; clear hb2; generalize (w2.alloc (.cells (mapC zeroM) 27)).setRow w2.heap.size (mapC firstM) = w3 at *; generalize w2.heap.size = g at *; have c0 := hH.cell 0; have c1 := hH.cell (1 + k * 3 + 1); have c2 := hH.cell (1 + k * 3 + 2); rw [mapC_epoch] at c0; rw [mapC_wt _ ⟨k, hk⟩] at c1; rw [mapC_host _ ⟨k, hk⟩] at c2; have f0 := hH.free)
      | (refine wpList_val (.int .u8 (k : Int)) (by rfl) (run_rem_u8 _ _ _ _ rfl q 5 k rfl rfl hq.out (by decide) hkq.out) ?_)
      | (refine load_map (boundM ep wt ho ⟨k, hk⟩) (by rfl) _ rfl _ rfl ?hg ?_; (case hg => exact hH.bound ep wt ho ⟨k, hk⟩)))
    refine (S.apply _ ⟨4, 0, 0⟩ _ hMo.out ⟨by decide, by decide, by decide, by decide⟩).mono ?_
    rintro e w4 ⟨rfl, hb4⟩
    have hM4 := (hH.bound ep wt ho ⟨k, hk⟩).later hb4
    have hbs := below_bound hb3 hg2 ep wt ho ⟨k, hk⟩
    replace hb4 := hbs.trans (hb4.mono hbs.size)
    clear c0 c1 c2 f0 hH hb3 hbs
    have hlt := hM4.lt
    obtain ⟨o1, o2⟩ := okA_not (m := boundM ep wt ho ⟨k, hk⟩) (x := ⟨4, 0, 0⟩) (.inl (hMi.out.trans hB))
    rw [o1, o2, errI_false]
    have hM5 := (hM4.alloc (.cells (mapC zeroM) 27)).row_other (k := w4.heap.size) (by omega) (mapC zeroM)
    have hb5 := below_setRow (hb4.alloc hb4.size (.cells (mapC zeroM) 27)) hb4.size (mapC zeroM)
    go_wp2_with (first
      | (refine alloc_map (by rfl) rfl ?_)
      | (refine store_map _ zeroM (by rfl) _ _ rfl _ rfl rfl ?hg ?_; (case hg => exact Has.new _ _ _); generalize (w4.alloc (.cells (mapC zeroM) 27)).setRow w4.heap.size (mapC zeroM) = w5 at *)
      | (refine load_map (boundM ep wt ho ⟨k, hk⟩) (by rfl) _ rfl _ rfl ?hg ?_; (case hg => exact hM5)))
    refine (S.is _ _ hMo.out).mono ?_
    rintro e w6 ⟨rfl, hb6⟩
    rw [hMi.out, hB]
    go_wp2
    go_ret
    exact ⟨rfl, hb5.trans (hb6.mono hb5.size)⟩
  · go_enter Try.func7, Try.ntmps7
    go_wp2_with (first
      | (go_at_call 9; refine (known_any S _).mono ?_; rintro e w1 ⟨rfl, hb1⟩)
      | (go_at_call 19; refine (S.first _).mono ?_; rintro e w2 ⟨rfl, hb2⟩; replace hb2 := hb1.trans (hb2.mono hb1.size); clear hb1)
      | (refine alloc_map (by rfl) rfl ?_)
      | (refine store_map _ zeroM (by rfl) _ _ rfl _ rfl rfl ?hg ?_; (case hg => exact Has.new _ _ _); have hH := (Has.new w2 27 (mapC zeroM)).row (mapC firstM); have hb3 := below_setRow (hb2.alloc hb2.size (.cells (mapC zeroM) 27)) hb2.size (mapC firstM); have hg2 := hb2.size; clear hb2; generalize (w2.alloc (.cells (mapC zeroM) 27)).setRow w2.heap.size (mapC firstM) = w3 at *; generalize w2.heap.size = g at *; have c0 := hH.cell 0; have c1 := hH.cell (1 + k * 3 + 1); have c2 := hH.cell (1 + k * 3 + 2); rw [mapC_epoch] at c0; rw [mapC_wt _ ⟨k, hk⟩] at c1; rw [mapC_host _ ⟨k, hk⟩] at c2; have f0 := hH.free)
      | (refine wpList_val (.int .u8 (k : Int)) (by rfl) (run_rem_u8 _ _ _ _ rfl q 5 k rfl rfl hq.out (by decide) hkq.out) ?_)
      | (refine load_map (boundM ep wt ho ⟨k, hk⟩) (by rfl) _ rfl _ rfl ?hg ?_; (case hg => exact hH.bound ep wt ho ⟨k, hk⟩)))
    refine (S.apply _ ⟨4, 0, 0⟩ _ hMo.out ⟨by decide, by decide, by decide, by decide⟩).mono ?_
    rintro e w4 ⟨rfl, hb4⟩
    have hM4 := (hH.bound ep wt ho ⟨k, hk⟩).later hb4
    have hbs := below_bound hb3 hg2 ep wt ho ⟨k, hk⟩
    replace hb4 := hbs.trans (hb4.mono hbs.size)
    clear c0 c1 c2 f0 hH hb3 hbs
    have hlt := hM4.lt
    obtain ⟨o1, o2⟩ := okA_not (m := boundM ep wt ho ⟨k, hk⟩) (x := ⟨4, 0, 0⟩) (.inl (hMi.out.trans hB))
    rw [o1, o2, errI_false]
    have hM5 := (hM4.alloc (.cells (mapC zeroM) 27)).row_other (k := w4.heap.size) (by omega) (mapC zeroM)
    have hb5 := below_setRow (hb4.alloc hb4.size (.cells (mapC zeroM) 27)) hb4.size (mapC zeroM)
    go_wp2_with (first
      | (refine alloc_map (by rfl) rfl ?_)
      | (refine store_map _ zeroM (by rfl) _ _ rfl _ rfl rfl ?hg ?_; (case hg => exact Has.new _ _ _); generalize (w4.alloc (.cells (mapC zeroM) 27)).setRow w4.heap.size (mapC zeroM) = w5 at *)
      | (refine load_map (boundM ep wt ho ⟨k, hk⟩) (by rfl) _ rfl _ rfl ?hg ?_; (case hg => exact hM5)))
    refine (S.is _ _ hMo.out).mono ?_
    rintro e w6 ⟨rfl, hb6⟩
    rw [hMi.out, hB]
    go_wp2
    go_ret
    exact ⟨rfl, hb5.trans (hb6.mono hb5.size)⟩
  · go_enter Try.func7, Try.ntmps7
    go_wp2_with (first
      | (go_at_call 9; refine (known_any S _).mono ?_; rintro e w1 ⟨rfl, hb1⟩)
      | (go_at_call 19; refine (S.first _).mono ?_; rintro e w2 ⟨rfl, hb2⟩; replace hb2 := hb1.trans (hb2.mono hb1.size); clear hb1)
      | (refine alloc_map (by rfl) rfl ?_)
      | (refine store_map _ zeroM (by rfl) _ _ rfl _ rfl rfl ?hg ?_; (case hg => exact Has.new _ _ _); have hH := (Has.new w2 27 (mapC zeroM)).row (mapC firstM); have hb3 := below_setRow (hb2.alloc hb2.size (.cells (mapC zeroM) 27)) hb2.size (mapC firstM); have hg2 := hb2.size; clear hb2; generalize (w2.alloc (.cells (mapC zeroM) 27)).setRow w2.heap.size (mapC firstM) = w3 at *; generalize w2.heap.size = g at *; have c0 := hH.cell 0; have c1 := hH.cell (1 + k * 3 + 1); have c2 := hH.cell (1 + k * 3 + 2); rw [mapC_epoch] at c0; rw [mapC_wt _ ⟨k, hk⟩] at c1; rw [mapC_host _ ⟨k, hk⟩] at c2; have f0 := hH.free)
      | (refine wpList_val (.int .u8 (k : Int)) (by rfl) (run_rem_u8 _ _ _ _ rfl q 5 k rfl rfl hq.out (by decide) hkq.out) ?_)
      | (refine load_map (boundM ep wt ho ⟨k, hk⟩) (by rfl) _ rfl _ rfl ?hg ?_; (case hg => exact hH.bound ep wt ho ⟨k, hk⟩)))
    refine (S.apply _ ⟨4, 0, 0⟩ _ hMo.out ⟨by decide, by decide, by decide, by decide⟩).mono ?_
    rintro e w4 ⟨rfl, hb4⟩
    have hM4 := (hH.bound ep wt ho ⟨k, hk⟩).later hb4
    have hbs := below_bound hb3 hg2 ep wt ho ⟨k, hk⟩
    replace hb4 := hbs.trans (hb4.mono hbs.size)
    clear c0 c1 c2 f0 hH hb3 hbs
    have hlt := hM4.lt
    obtain ⟨o1, o2⟩ := okA_not (m := boundM ep wt ho ⟨k, hk⟩) (x := ⟨4, 0, 0⟩) (.inl (hMi.out.trans hB))
    rw [o1, o2, errI_false]
    have hM5 := (hM4.alloc (.cells (mapC zeroM) 27)).row_other (k := w4.heap.size) (by omega) (mapC zeroM)
    have hb5 := below_setRow (hb4.alloc hb4.size (.cells (mapC zeroM) 27)) hb4.size (mapC zeroM)
    go_wp2_with (first
      | (refine alloc_map (by rfl) rfl ?_)
      | (refine store_map _ zeroM (by rfl) _ _ rfl _ rfl rfl ?hg ?_; (case hg => exact Has.new _ _ _); generalize (w4.alloc (.cells (mapC zeroM) 27)).setRow w4.heap.size (mapC zeroM) = w5 at *)
      | (refine load_map (boundM ep wt ho ⟨k, hk⟩) (by rfl) _ rfl _ rfl ?hg ?_; (case hg => exact hM5)))
    refine (S.is _ _ hMo.out).mono ?_
    rintro e w6 ⟨rfl, hb6⟩
    rw [hMi.out, hB]
    go_wp2
    go_ret
    exact ⟨rfl, hb5.trans (hb6.mono hb5.size)⟩
  · go_enter Try.func7, Try.ntmps7
    go_wp2_with (first
      | (go_at_call 9; refine (known_any S _).mono ?_; rintro e w1 ⟨rfl, hb1⟩)
      | (go_at_call 19; refine (S.first _).mono ?_; rintro e w2 ⟨rfl, hb2⟩; replace hb2 := hb1.trans (hb2.mono hb1.size); clear hb1)
      | (refine alloc_map (by rfl) rfl ?_)
      | (refine store_map _ zeroM (by rfl) _ _ rfl _ rfl rfl ?hg ?_; (case hg => exact Has.new _ _ _); have hH := (Has.new w2 27 (mapC zeroM)).row (mapC firstM); have hb3 := below_setRow (hb2.alloc hb2.size (.cells (mapC zeroM) 27)) hb2.size (mapC firstM); have hg2 := hb2.size; clear hb2; generalize (w2.alloc (.cells (mapC zeroM) 27)).setRow w2.heap.size (mapC firstM) = w3 at *; generalize w2.heap.size = g at *; have c0 := hH.cell 0; have c1 := hH.cell (1 + k * 3 + 1); have c2 := hH.cell (1 + k * 3 + 2); rw [mapC_epoch] at c0; rw [mapC_wt _ ⟨k, hk⟩] at c1; rw [mapC_host _ ⟨k, hk⟩] at c2; have f0 := hH.free)
      | (refine wpList_val (.int .u8 (k : Int)) (by rfl) (run_rem_u8 _ _ _ _ rfl q 5 k rfl rfl hq.out (by decide) hkq.out) ?_)
      | (refine load_map (boundM ep wt ho ⟨k, hk⟩) (by rfl) _ rfl _ rfl ?hg ?_; (case hg => exact hH.bound ep wt ho ⟨k, hk⟩)))
    refine (S.apply _ ⟨4, 0, 0⟩ _ hMo.out ⟨by decide, by decide, by decide, by decide⟩).mono ?_
    rintro e w4 ⟨rfl, hb4⟩
    have hM4 := (hH.bound ep wt ho ⟨k, hk⟩).later hb4
    have hbs := below_bound hb3 hg2 ep wt ho ⟨k, hk⟩
    replace hb4 := hbs.trans (hb4.mono hbs.size)
    clear c0 c1 c2 f0 hH hb3 hbs
    have hlt := hM4.lt
    obtain ⟨o1, o2⟩ := okA_not (m := boundM ep wt ho ⟨k, hk⟩) (x := ⟨4, 0, 0⟩) (.inl (hMi.out.trans hB))
    rw [o1, o2, errI_false]
    have hM5 := (hM4.alloc (.cells (mapC zeroM) 27)).row_other (k := w4.heap.size) (by omega) (mapC zeroM)
    have hb5 := below_setRow (hb4.alloc hb4.size (.cells (mapC zeroM) 27)) hb4.size (mapC zeroM)
    go_wp2_with (first
      | (refine alloc_map (by rfl) rfl ?_)
      | (refine store_map _ zeroM (by rfl) _ _ rfl _ rfl rfl ?hg ?_; (case hg => exact Has.new _ _ _); generalize (w4.alloc (.cells (mapC zeroM) 27)).setRow w4.heap.size (mapC zeroM) = w5 at *)
      | (refine load_map (boundM ep wt ho ⟨k, hk⟩) (by rfl) _ rfl _ rfl ?hg ?_; (case hg => exact hM5)))
    refine (S.is _ _ hMo.out).mono ?_
    rintro e w6 ⟨rfl, hb6⟩
    rw [hMi.out, hB]
    go_wp2
    go_ret
    exact ⟨rfl, hb5.trans (hb6.mono hb5.size)⟩
  · by_cases e6 : ep = 60
    · have e7 : (60 : Int) ≤ (ep : Int) := by omega
      clear e6
      go_enter Try.func7, Try.ntmps7
      go_wp2_with (first
        | (go_at_call 9; refine (known_any S _).mono ?_; rintro e w1 ⟨rfl, hb1⟩)
        | (go_at_call 19; refine (S.first _).mono ?_; rintro e w2 ⟨rfl, hb2⟩; replace hb2 := hb1.trans (hb2.mono hb1.size); clear hb1)
        | (refine alloc_map (by rfl) rfl ?_)
        | (refine store_map _ zeroM (by rfl) _ _ rfl _ rfl rfl ?hg ?_; (case hg => exact Has.new _ _ _); have hH := (Has.new w2 27 (mapC zeroM)).row (mapC firstM); have hb3 := below_setRow (hb2.alloc hb2.size (.cells (mapC zeroM) 27)) hb2.size (mapC firstM); have hg2 := hb2.size; clear hb2; generalize (w2.alloc (.cells (mapC zeroM) 27)).setRow w2.heap.size (mapC firstM) = w3 at *; generalize w2.heap.size = g at *; have c0 := hH.cell 0; have c1 := hH.cell (1 + k * 3 + 1); have c2 := hH.cell (1 + k * 3 + 2); rw [mapC_epoch] at c0; rw [mapC_wt _ ⟨k, hk⟩] at c1; rw [mapC_host _ ⟨k, hk⟩] at c2; have f0 := hH.free)
        | (refine wpList_val (.int .u8 (k : Int)) (by rfl) (run_rem_u8 _ _ _ _ rfl q 5 k rfl rfl hq.out (by decide) hkq.out) ?_)
        | (refine load_map (boundM ep wt ho ⟨k, hk⟩) (by rfl) _ rfl _ rfl ?hg ?_; (case hg => exact hH.bound ep wt ho ⟨k, hk⟩)))
      refine (S.apply _ ⟨4, 0, 0⟩ _ hMo.out ⟨by decide, by decide, by decide, by decide⟩).mono ?_
      rintro e w4 ⟨rfl, hb4⟩
      have hM4 := (hH.bound ep wt ho ⟨k, hk⟩).later hb4
      have hbs := below_bound hb3 hg2 ep wt ho ⟨k, hk⟩
      replace hb4 := hbs.trans (hb4.mono hbs.size)
      clear c0 c1 c2 f0 hH hb3 hbs
      have hlt := hM4.lt
      obtain ⟨o1, o2⟩ := okA_not (m := boundM ep wt ho ⟨k, hk⟩) (x := ⟨4, 0, 0⟩) (.inr (.inr (show 60 ≤ ep by omega)))
      rw [o1, o2, errI_false]
      have hM5 := (hM4.alloc (.cells (mapC zeroM) 27)).row_other (k := w4.heap.size) (by omega) (mapC zeroM)
      have hb5 := below_setRow (hb4.alloc hb4.size (.cells (mapC zeroM) 27)) hb4.size (mapC zeroM)
      go_wp2_with (first
        | (refine alloc_map (by rfl) rfl ?_)
        | (refine store_map _ zeroM (by rfl) _ _ rfl _ rfl rfl ?hg ?_; (case hg => exact Has.new _ _ _); generalize (w4.alloc (.cells (mapC zeroM) 27)).setRow w4.heap.size (mapC zeroM) = w5 at *)
        | (refine load_map (boundM ep wt ho ⟨k, hk⟩) (by rfl) _ rfl _ rfl ?hg ?_; (case hg => exact hM5)))
      refine (S.is _ _ hMo.out).mono ?_
      rintro e w6 ⟨rfl, hb6⟩
      rw [hMi.out, hB]
      go_wp2
      go_ret
      exact ⟨ret_bool (by simp; omega), hb5.trans (hb6.mono hb5.size)⟩
    · have e7 : (ep : Int) < 60 := by omega
      go_enter Try.func7, Try.ntmps7
      go_wp2_with (first
        | (go_at_call 9; refine (known_any S _).mono ?_; rintro e w1 ⟨rfl, hb1⟩)
        | (go_at_call 19; refine (S.first _).mono ?_; rintro e w2 ⟨rfl, hb2⟩; replace hb2 := hb1.trans (hb2.mono hb1.size); clear hb1)
        | (refine alloc_map (by rfl) rfl ?_)
        | (refine store_map _ zeroM (by rfl) _ _ rfl _ rfl rfl ?hg ?_; (case hg => exact Has.new _ _ _); have hH := (Has.new w2 27 (mapC zeroM)).row (mapC firstM); have hb3 := below_setRow (hb2.alloc hb2.size (.cells (mapC zeroM) 27)) hb2.size (mapC firstM); have hg2 := hb2.size; clear hb2; generalize (w2.alloc (.cells (mapC zeroM) 27)).setRow w2.heap.size (mapC firstM) = w3 at *; generalize w2.heap.size = g at *; have c0 := hH.cell 0; have c1 := hH.cell (1 + k * 3 + 1); have c2 := hH.cell (1 + k * 3 + 2); rw [mapC_epoch] at c0; rw [mapC_wt _ ⟨k, hk⟩] at c1; rw [mapC_host _ ⟨k, hk⟩] at c2; have f0 := hH.free)
        | (refine wpList_val (.int .u8 (k : Int)) (by rfl) (run_rem_u8 _ _ _ _ rfl q 5 k rfl rfl hq.out (by decide) hkq.out) ?_)
        | (refine load_map (boundM ep wt ho ⟨k, hk⟩) (by rfl) _ rfl _ rfl ?hg ?_; (case hg => exact hH.bound ep wt ho ⟨k, hk⟩)))
      refine (S.apply _ ⟨4, 0, 0⟩ _ hMo.out ⟨by decide, by decide, by decide, by decide⟩).mono ?_
      rintro e w4 ⟨rfl, hb4⟩
      have hM4 := (hH.bound ep wt ho ⟨k, hk⟩).later hb4
      have hbs := below_bound hb3 hg2 ep wt ho ⟨k, hk⟩
      replace hb4 := hbs.trans (hb4.mono hbs.size)
      clear c0 c1 c2 f0 hH hb3 hbs
      have hlt := hM4.lt
      obtain ⟨o1, o2⟩ := okA_yes (m := boundM ep wt ho ⟨k, hk⟩) (x := ⟨4, 0, 0⟩) (hMi.out.trans hB) (by decide) (show ep < 60 by omega)
      have hNo : Hid (MapOk (applyM (boundM ep wt ho ⟨k, hk⟩) ⟨4, 0, 0⟩)) := by show MapOk _; rw [o2]; exact next_ok hMo.out ⟨by decide, by decide, by decide, by decide⟩ (show ep < 60 by omega)
      have hNe : Hid ((applyM (boundM ep wt ho ⟨k, hk⟩) ⟨4, 0, 0⟩).epoch = ep + 1) := by show _ = _; rw [o2]; rfl
      have hNs : Hid (sameO (applyM (boundM ep wt ho ⟨k, hk⟩) ⟨4, 0, 0⟩) (boundM ep wt ho ⟨k, hk⟩) = true) := by show _ = _; rw [o2, next_none _ _ rfl]; exact (sameO_is _ _).2 rfl
      rw [o1, errI_true]
      clear o1 o2
      generalize applyM (boundM ep wt ho ⟨k, hk⟩) ⟨4, 0, 0⟩ = N at *
      have hM5 := (hM4.alloc (.cells (mapC zeroM) 27)).row_other (k := w4.heap.size) (by omega) (mapC N)
      have hN5 := (Has.new w4 27 (mapC zeroM)).row (mapC N)
      have hb5 := below_setRow (hb4.alloc hb4.size (.cells (mapC zeroM) 27)) hb4.size (mapC N)
      go_wp2_with (first
        | (refine alloc_map (by rfl) rfl ?_)
        | (refine store_map _ zeroM (by rfl) _ _ rfl _ rfl rfl ?hg ?_; (case hg => exact Has.new _ _ _); generalize (w4.alloc (.cells (mapC zeroM) 27)).setRow w4.heap.size (mapC N) = w5 at *)
        | (refine load_map (boundM ep wt ho ⟨k, hk⟩) (by rfl) _ rfl _ rfl ?hg ?_; (case hg => exact hM5)))
      refine (S.is _ _ hMo.out).mono ?_
      rintro e w6 ⟨rfl, hb6⟩
      rw [hMi.out, hB]
      replace hM5 := hM5.later hb6
      replace hN5 := hN5.later hb6
      have n0 := hN5.cell 0
      rw [mapC_epoch, hNe.out] at n0
      go_wp2_with (first
        | (refine load_osds N (by first | rfl | simp [Region.wanted, yielded]) _ rfl w4.heap.size rfl ?hg ?_; (case hg => exact hN5))
        | (refine load_osds (boundM ep wt ho ⟨k, hk⟩) (by first | rfl | simp [Region.wanted, yielded]) _ rfl g rfl ?hg ?_; (case hg => exact hM5))
        | (refine bin_osds N (boundM ep wt ho ⟨k, hk⟩) hNo.out hMo.out (by first | rfl | simp [Region.wanted, yielded]) _ _ _ rfl rfl rfl ?_; rw [hNs.out]))
      go_ret
      exact ⟨rfl, hb5.trans (hb6.mono hb5.size)⟩
end Go.Proofs.Ytoffbjdoampebaa
