/- paddocklaw4.PlaceStays returns true, for whatever map, row of bools, epoch and daemon. -/
import Derived.Test.YtmobdnaejfldnaaPlaceKnown
import Derived.Test.YtmobdnaejfldnaaPlaceMoved
import Derived.Test.YtmobdnaejfldnaaBools
import Derived.Test.YtmobdnaejfldnaaVal
namespace Go.Proofs.Ytmobdnaejfldnaa
set_option linter.unusedSimpArgs false
set_option linter.unusedVariables false
open Go.RowKit

theorem ix_head' {w : World} {ad : Addr} {c : Nat} {x : Int} {l : List Int} (h : Ix w (some ad) c (x :: l)) : w.cell? ad = some (.int .i64 x) := by
  have c0 := h.at' ad rfl 0 (by simp)
  have e : ad.add 0 = ad := by cases ad; simp [Addr.add]
  rw [e] at c0
  exact c0

/-- A map with another epoch. -/
def epochM (m : MapV) (e : Nat) : MapV := { m with epoch := e }

theorem epochM_is {m : MapV} {e : Nat} (h : isM m = true) (he : 1 ≤ e ∧ e ≤ 60) : isM (epochM m e) = true := by
  rw [isM_is] at h ⊢
  exact ⟨he, h.2⟩

theorem stays_pick {m : MapV} {e : Nat} (h : isM m = true) (he : 1 ≤ e ∧ e ≤ 60) (f : Fin 5 → Bool) (n g : Nat) : pickM (upsM (epochM m e) f n) g = pickM m g := by
  rw [pick_ups]
  exact pickM_congr (m := epochM m e) (n := m) (wtI_congr fun i => rfl) (hostI_congr fun i => rfl) ((epochM_is h he).trans h.symm) g

/-- The map in which a daemon weighs nothing. -/
def lightM (m : MapV) (i : Fin 5) : MapV := m.put i { m.osd i with wt := 0 }

theorem light_is {m : MapV} (h : isM m = true) (i : Fin 5) : isM (lightM m i) = true := by
  refine isM_put h ((osdOk_is _).2 ⟨by show (0 : Int) ≤ 0; omega, by show (0 : Int) ≤ 16; omega, ?_⟩)
  exact ((osdOk_is _).1 (((isM_is m).1 h).2 i)).2.2

theorem light_not {m : MapV} {g k : Nat} (hk : k < 5) : ∀ x ∈ pickM (lightM m ⟨k, hk⟩) g, x ≠ (k : Int) := by
  intro x hx he
  have h := (pickM_apart (lightM m ⟨k, hk⟩) g).2 x hx
  have e : wtI (lightM m ⟨k, hk⟩) k = 0 := wtI_put m ⟨k, hk⟩ _
  rw [he, e] at h
  omega

theorem light_first {m : MapV} {g k : Nat} (hk : k < 5) {x y : Int} {l l' : List Int} (h : pickM m g = x :: l) (h' : pickM (lightM m ⟨k, hk⟩) g = y :: l') (hx : x ≠ (k : Int)) : y = x := by
  obtain ⟨hi, hg, h0, he⟩ := pick_cons h
  obtain ⟨_, _, _, he'⟩ := pick_cons h'
  have e : wtI (lightM m ⟨k, hk⟩) k = 0 := wtI_put m ⟨k, hk⟩ _
  have hw := wt_of_is hi k hk
  have := stays_less (m := lightM m ⟨k, hk⟩) (n := m) (k := k) (g := g) (q := 0) (fun j hj hne => (wtI_put_other m ⟨k, hk⟩ _ j hj hne).symm) (by rw [e]; exact hw.1) hw.2 h0 (by rw [← he]; exact hx)
  rw [he, he', this]

theorem decide_refl' (l : List Int) : decide (l = l) = true := decide_eq_true rfl

theorem rem_u32 {n : Nat} : ((n % 60 + 1 : Nat) : Int) = (n : Int) % 60 + 1 := by omega

set_option maxRecDepth 100000 in
set_option maxHeartbeats 4000000 in
theorem stays_walk (S : PlaceSpec) (m : MapV) (f : Fin 5 → Bool) (ep o : Nat) (w : World) (hm : MapOk m) (hep : ep < 4294967296) (ho : o < 256) :
    Calls Try.prog 6 #[.agg (mapC m), .agg (boolC f), .int .u32 ep, .int .u8 o] w fun e w' => e = .returned (.bool true) ∧ Below w.heap.size w w' := by
  have hM0 : Has ((w.alloc (.cells (mapC m) 27)).alloc (.cells (boolC f) 37)) w.heap.size 27 (mapC m) := (Has.new _ _ _).alloc _
  have hO0 : Has ((w.alloc (.cells (mapC m) 27)).alloc (.cells (boolC f) 37)) (w.heap.size + 1) 37 (boolC f) := by
    have := Has.new (w.alloc (.cells (mapC m) 27)) 37 (boolC f)
    simpa using this
  have hb0 : Below w.heap.size w ((w.alloc (.cells (mapC m) 27)).alloc (.cells (boolC f) 37)) := ((Below.refl _ _).alloc (Nat.le_refl _) _).alloc (by simp) _
  go_enter Try.func6, Try.ntmps6
  go_wp2_with (first
    | (go_at_call 9; refine (pknown_any S _).mono ?_; rintro e w1 ⟨rfl, hq⟩; have hM := hM0.later hq; have hO := hO0.later hq; have hb := hb0.trans (hq.mono hb0.size); clear hq hM0 hO0 hb0)
    | (refine load_map m (by rfl) _ rfl w.heap.size rfl ?hg ?_; (case hg => exact hM)))
  refine (is_any m _ hm).mono ?_
  rintro e w2 ⟨rfl, hq⟩
  replace hM := hM.later hq
  replace hO := hO.later hq
  replace hb := hb.trans (hq.mono hb.size)
  clear hq
  cases hI : isM m with
  | false =>
    go_wp2
    go_ret
    exact ⟨rfl, hb⟩
  | true =>
    have hltM := hM.lt
    have hltO := hO.lt
    go_wp2_with (first
      | (refine load_map m (by rfl) _ rfl w.heap.size rfl ?hg ?_; (case hg => exact hM))
      | (refine alloc_map (by rfl) rfl ?_)
      | (refine store_map m zeroM (by rfl) _ _ rfl _ rfl rfl ?hg ?_; (case hg => exact Has.new _ _ _); have hN := (Has.new w2 27 (mapC zeroM)).row (mapC m); have hbb := below_setRow ((Below.refl w2.heap.size w2).alloc (Nat.le_refl _) (.cells (mapC zeroM) 27)) (Nat.le_refl _) (mapC m); replace hO := hO.later hbb; replace hM := hM.later hbb; replace hb := hb.trans (hbb.mono hb.size); clear hbb; generalize (w2.alloc (.cells (mapC zeroM) 27)).setRow w2.heap.size (mapC m) = w3 at *; have cE := hN.cell 0; rw [mapC_epoch] at cE; have fE := hN.free 0))
    obtain ⟨E, hE⟩ : ∃ E, E = ep % 60 + 1 := ⟨_, rfl⟩
    have hE1 : 1 ≤ E ∧ E ≤ 60 := by omega
    rw [← rem_u32, ← hE]
    have hN2 := hN.set 0 (.int .u32 E)
    rw [mapC_setEpoch] at hN2
    have hM2 := hM.set_other (a := ⟨w2.heap.size, 0, none⟩) (by show w.heap.size ≠ w2.heap.size; omega) (.int .u32 E)
    have hO2 := hO.set_other (a := ⟨w2.heap.size, 0, none⟩) (by show w.heap.size + 1 ≠ w2.heap.size; omega) (.int .u32 E)
    have hb2 := hb.setCell (p := ⟨w2.heap.size, 0, none⟩) (by show w.heap.size ≤ w2.heap.size; omega) (.int .u32 E)
    clear hN hM hO hb cE fE hE
    generalize w3.setCell ⟨w2.heap.size, 0, none⟩ (.int .u32 E) = w4 at *
    have hN2 : Has w4 w2.heap.size 27 (mapC (upsM (epochM m E) f 0)) := by rw [upsM_0]; exact hN2
    have hpn := fun g => stays_pick hI hE1 f 5 g
    have hNok : MapOk (upsM (epochM m E) f 5) := upsM_ok (m := epochM m E) ⟨show E < 4294967296 by omega, hm.wt, hm.host⟩ f 5
    clear hE1
    go_loopw [10] (fun i wr => ∃ n : Nat, n ≤ 5 ∧ i = .int .i64 n ∧ Has wr w2.heap.size 27 (mapC (upsM (epochM m E) f n)) ∧ Has wr w.heap.size 27 (mapC m) ∧ Has wr (w.heap.size + 1) 37 (boolC f) ∧ Below w.heap.size w wr) (fun i _ => (5 - intOf i).toNat)
    case atStart => exact ⟨0, by decide, rfl, hN2, hM2, hO2, hb2⟩
    case round =>
      clear hN2 hM2 hO2 hb2
      obtain ⟨n, hn, rfl, hN, hM, hO, hb⟩ := hrel
      by_cases hlt5 : n < 5
      · have hnI : (n : Int) < 5 := by omega
        have cb := hO.cell n
        rw [boolC_at f ⟨n, hlt5⟩] at cb
        have cu := hN.cell (1 + n * 3)
        rw [mapC_up _ ⟨n, hlt5⟩] at cu
        have fu := hN.free (1 + n * 3)
        have hN2 := hN.set (1 + n * 3) (.bool (f ⟨n, hlt5⟩))
        rw [mapC_setUp _ ⟨n, hlt5⟩, upsM_step (epochM m E) f n hlt5] at hN2
        have hM2 := hM.set_other (a := ⟨w2.heap.size, 1 + n * 3, none⟩) (by show w.heap.size ≠ w2.heap.size; omega) (.bool (f ⟨n, hlt5⟩))
        have hO2 := hO.set_other (a := ⟨w2.heap.size, 1 + n * 3, none⟩) (by show w.heap.size + 1 ≠ w2.heap.size; omega) (.bool (f ⟨n, hlt5⟩))
        have hb2 := hb.setCell (p := ⟨w2.heap.size, 1 + n * 3, none⟩) (by show w.heap.size ≤ w2.heap.size; omega) (.bool (f ⟨n, hlt5⟩))
        generalize (upsM (epochM m E) f n).osd ⟨n, hlt5⟩ = OS at *
        generalize f ⟨n, hlt5⟩ = OF at *
        go_wp2
        go_roundw
        case rel => exact ⟨n + 1, by omega, by go_num, hN2, hM2, hO2, hb2⟩
        case measure => simp [intOf]; omega
      · have e5 : n = 5 := by omega
        subst e5
        rw [show ((5 : Nat) : Int) = 5 from rfl]
        generalize upsM (epochM m E) f 5 = N at *
        obtain ⟨k, hk⟩ : ∃ k, k = o % 5 := ⟨_, rfl⟩
        have hk5 : k < 5 := by omega
        have hkI : (k : Int) < 5 := by omega
        have hk' : Hid (o % 5 = k) := hk.symm
        clear hk hO
        obtain ⟨W5, hW5⟩ : ∃ W, W = wr := ⟨_, rfl⟩
        subst hW5
        have hltN := hN.lt
        have hltM5 := hM.lt
        go_wp2_with (first
          | (refine wpList_val (.int .u8 (k : Int)) (by rfl) (run_rem_u8 _ _ _ _ rfl o 5 k rfl rfl ho (by decide) hk'.out) ?_)
          | (refine load_map m (by rfl) _ rfl w.heap.size rfl ?hg ?_; (case hg => exact hM))
          | (refine alloc_map (by rfl) rfl ?_)
          | (refine store_map m zeroM (by rfl) _ _ rfl _ rfl rfl ?hg ?_; (case hg => exact Has.new _ _ _); have hU := (Has.new W5 27 (mapC zeroM)).row (mapC m); have hbb := below_setRow ((Below.refl W5.heap.size W5).alloc (Nat.le_refl _) (.cells (mapC zeroM) 27)) (Nat.le_refl _) (mapC m); replace hN := hN.later hbb; replace hM := hM.later hbb; replace hb := hb.trans (hbb.mono hb.size); clear hbb; generalize (W5.alloc (.cells (mapC zeroM) 27)).setRow W5.heap.size (mapC m) = w6 at *; have cU := hU.cell (1 + k * 3 + 1); rw [mapC_wt _ ⟨k, hk5⟩] at cU; have fU := hU.free (1 + k * 3 + 1); generalize (m.osd ⟨k, hk5⟩).wt = WT at cU))
        have hU2 := hU.set (1 + k * 3 + 1) (.int .i64 0)
        rw [mapC_setWt _ ⟨k, hk5⟩] at hU2
        have hM2 := hM.set_other (a := ⟨W5.heap.size, 1 + k * 3 + 1, none⟩) (by show w.heap.size ≠ W5.heap.size; omega) (.int .i64 0)
        have hN2 := hN.set_other (a := ⟨W5.heap.size, 1 + k * 3 + 1, none⟩) (by show w2.heap.size ≠ W5.heap.size; omega) (.int .i64 0)
        have hb2 := hb.setCell (p := ⟨W5.heap.size, 1 + k * 3 + 1, none⟩) (by show w.heap.size ≤ W5.heap.size; omega) (.int .i64 0)
        clear hU hM hN hb cU fU
        generalize w6.setCell ⟨W5.heap.size, 1 + k * 3 + 1, none⟩ (.int .i64 0) = w7 at *
        have hUis := light_is hI ⟨k, hk5⟩
        have hUok : MapOk (lightM m ⟨k, hk5⟩) := ok_put hm ⟨by show _ ≤ (0 : Int); omega, by show (0 : Int) ≤ _; omega⟩ (hm.host _)
        have hnot := fun g => light_not (m := m) (g := g) hk5
        have hfst := fun g x y l l' => light_first (m := m) (g := g) hk5 (x := x) (y := y) (l := l) (l' := l')
        have hU2 : Has w7 W5.heap.size 27 (mapC (lightM m ⟨k, hk5⟩)) := hU2
        generalize lightM m ⟨k, hk5⟩ = U at *
        have hmv : Hid (movedTo m N 4 = 0) := moved_none (fun g => (hpn g).symm) 4
        have keep : ∀ W W' : World, (Has W w.heap.size 27 (mapC m) ∧ Has W w2.heap.size 27 (mapC N) ∧ Has W W5.heap.size 27 (mapC U) ∧ Below w.heap.size w W) → Below W.heap.size W W' → (Has W' w.heap.size 27 (mapC m) ∧ Has W' w2.heap.size 27 (mapC N) ∧ Has W' W5.heap.size 27 (mapC U) ∧ Below w.heap.size w W') :=
          fun W W' h hq => ⟨h.1.later hq, h.2.1.later hq, h.2.2.1.later hq, h.2.2.2.trans (hq.mono h.2.2.2.size)⟩
        have keepD : ∀ (W : World) (k : Nat), (Has W w.heap.size 27 (mapC m) ∧ Has W w2.heap.size 27 (mapC N) ∧ Has W W5.heap.size 27 (mapC U) ∧ Below w.heap.size w W) → (Has (W.drewN k) w.heap.size 27 (mapC m) ∧ Has (W.drewN k) w2.heap.size 27 (mapC N) ∧ Has (W.drewN k) W5.heap.size 27 (mapC U) ∧ Below w.heap.size w (W.drewN k)) :=
          fun W k h => ⟨h.1.drewN k, h.2.1.drewN k, h.2.2.1.drewN k, ⟨h.2.2.2.os, h.2.2.2.tape, h.2.2.2.output, h.2.2.2.size, h.2.2.2.block⟩⟩
        go_loopw [13] (fun i wr => ∃ g : Nat, g ≤ 4 ∧ i = .int .u8 g ∧ Has wr w.heap.size 27 (mapC m) ∧ Has wr w2.heap.size 27 (mapC N) ∧ Has wr W5.heap.size 27 (mapC U) ∧ Below w.heap.size w wr) (fun i _ => (4 - intOf i).toNat)
        case atStart => exact ⟨0, by decide, rfl, hM2, hN2, hU2, hb2⟩
        case round =>
          clear hM2 hN2 hU2 hb2
          obtain ⟨g, hg, rfl, hS⟩ := hrel
          by_cases hlt4 : g < 4
          · have hgI : (g : Int) < 4 := by omega
            have hpm := fun w => S.pick m g w hm (by omega)
            have hpN := fun w => S.pick N g w hNok (by omega)
            have hpU := fun w => S.pick U g w hUok (by omega)
            rw [hpn g] at hpN
            have hnt := hnot g
            have hft : Hid _ := hfst g
            have hln := (pickM_mem m g).2
            have hlu := (pickM_mem U g).2
            generalize pickM m g = L at *
            generalize pickM U g = B at *
            go_wp2_with (first
              | (refine load_map m (by rfl) _ rfl w.heap.size rfl ?hg ?_; (case hg => exact hS.1)))
            refine (hpm _).mono ?_
            rintro e w8 ⟨ao, c, rfl, hIL, hq⟩
            replace hS := keep _ _ hS hq
            clear hq
            have hLc := hIL.cap
            have hLl := hIL.le
            go_wp2_with (first
              | (refine load_map N (by rfl) _ rfl w2.heap.size rfl ?hg ?_; (case hg => exact hS.2.1)))
            refine (hpN _).mono ?_
            rintro e w9 ⟨a1, c1, rfl, hI1, hq⟩
            replace hS := keep _ _ hS hq
            replace hIL := hIL.later hq
            clear hq
            go_wp2_with fail
            refine (ints_any ao a1 c c1 L L _ hIL hI1).mono ?_
            rintro e w10 ⟨rfl, nq, rfl⟩
            replace hS := keepD _ nq hS
            replace hIL := hIL.drewN nq
            rw [decide_refl']
            clear hI1
            generalize w9.drewN nq = w11 at *
            go_wp2_with (first
              | (refine load_map U (by rfl) _ rfl W5.heap.size rfl ?hg ?_; (case hg => exact hS.2.2.1)))
            refine (hpU _).mono ?_
            rintro e w12 ⟨bo, d, rfl, hIB, hq⟩
            replace hS := keep _ _ hS hq
            replace hIL := hIL.later hq
            clear hq
            have hBc := hIB.cap
            have hBl := hIB.le
            go_wp2
            go_loopw [16] (fun i wr => ∃ n : Nat, n ≤ B.length ∧ i = .int .i64 n ∧ wr = w12) (fun i _ => B.length - (intOf i).toNat)
            case atStart => exact ⟨0, Nat.zero_le _, rfl, rfl⟩
            case round =>
              obtain ⟨n, hn, rfl, rfl⟩ := hrel
              by_cases hltn : n < B.length
              · have hnI : (n : Int) < (B.length : Int) := by omega
                cases bo with
                | none => have h1 := hIB.nil rfl; omega
                | some bd =>
                  have cn := hIB.at' bd rfl n hltn
                  have hne := hnt B[n] (List.getElem_mem hltn)
                  generalize B[n] = y at *
                  have hneb : (y == (k : Int)) = false := by rw [beq_eq_false_iff_ne]; exact hne
                  clear hne
                  go_wp2
                  go_roundw
                  case rel => exact ⟨n + 1, by omega, by go_num, by first | rfl | trivial⟩
                  case measure => simp [intOf]; omega
              · have e6 : n = B.length := by omega
                subst e6
                obtain ⟨W13, hW13⟩ : ∃ W, W = wr := ⟨_, rfl⟩
                subst hW13
                clear hpm hpN hpU hnt
                cases B with
                | nil =>
                  go_wp2
                  replace hS := keepD _ 1 hS
                  have hS2 : True := trivial
                  refine wp_region_plan (fun _ => True) (Plan.of [(0, true), (1, false), (2, true), (3, true), (4, true), (5, false), (6, true), (7, true), (8, true), (9, true), (10, true), (11, true), (12, true), (13, true), (14, true), (15, true), (16, true), (17, true), (18, true), (19, true), (20, true), (21, true), (22, true), (23, true)] .done) (by kernel_rfl) (by kernel_rfl) (by kernel_rfl) (by kernel_rfl) hS2 ?_
                  iterate 1
                    first
                      | (refine plan_pass _ rfl (by rfl) ?_)
                      | (refine plan_take _ _ rfl (.inl ⟨by rfl, fun W hS => by clear hS; go_simp; try with_reducible rfl⟩) ?_)
                    try simp only [Act.put, List.setIfInBounds_toArray, List.set_cons_zero, List.set_cons_succ]
                  refine plan_run _ rfl (fun K hK => ?_)
                  go_simp
                  refine hK.out _ _ hS2 ?_
                  clear hK K
                  iterate 3
                    first
                      | (refine plan_pass _ rfl (by rfl) ?_)
                      | (refine plan_take _ _ rfl (.inl ⟨by rfl, fun W hS => by clear hS; go_simp; try with_reducible rfl⟩) ?_)
                    try simp only [Act.put, List.setIfInBounds_toArray, List.set_cons_zero, List.set_cons_succ]
                  refine plan_run _ rfl (fun K hK => ?_)
                  go_simp
                  refine hK.out _ _ hS2 ?_
                  clear hK K
                  iterate 18
                    first
                      | (refine plan_pass _ rfl (by rfl) ?_)
                      | (refine plan_take _ _ rfl (.inl ⟨by rfl, fun W hS => by clear hS; go_simp; try with_reducible rfl⟩) ?_)
                    try simp only [Act.put, List.setIfInBounds_toArray, List.set_cons_zero, List.set_cons_succ]
                  refine plan_done ?_
                  go_wp2
                  go_roundw
                  case rel => exact ⟨g + 1, by omega, by go_num, hS⟩
                  case measure => simp [intOf]; omega
                | cons y l' =>
                  have hl1 : (y :: l').length = l'.length + 1 := rfl
                  rw [hl1] at hBl hlu
                  rw [hl1]
                  have hyI : (0 : Int) < (l'.length : Int) + 1 := by omega
                  cases bo with
                  | none => have h1 := hIB.nil rfl; omega
                  | some bd =>
                    have cy := ix_head' hIB
                    cases L with
                    | nil =>
                      go_wp2
                      replace hS := keepD _ 1 hS
                      have hS2 : (W13.drew.cell? bd = some (.int .i64 y)) := cy
                      refine wp_region_plan (fun W => W.cell? bd = some (.int .i64 y)) (Plan.of [(0, true), (1, false), (2, true), (3, true), (4, true), (5, false), (6, true), (7, true), (8, true), (9, true), (10, true), (11, true), (12, true), (13, true), (14, true), (15, true), (16, true), (17, true), (18, true), (19, true), (20, true), (21, true), (22, true), (23, true)] .done) (by kernel_rfl) (by kernel_rfl) (by kernel_rfl) (by kernel_rfl) hS2 ?_
                      iterate 1
                        first
                          | (refine plan_pass _ rfl (by rfl) ?_)
                          | (refine plan_take _ _ rfl (.inl ⟨by rfl, fun W hS => by have z1 := hS; go_simp; try with_reducible rfl⟩) ?_)
                        try simp only [Act.put, List.setIfInBounds_toArray, List.set_cons_zero, List.set_cons_succ]
                      refine plan_run _ rfl (fun K hK => ?_)
                      go_simp
                      refine hK.out _ _ hS2 ?_
                      clear hK K
                      iterate 3
                        first
                          | (refine plan_pass _ rfl (by rfl) ?_)
                          | (refine plan_take _ _ rfl (.inl ⟨by rfl, fun W hS => by have z1 := hS; go_simp; try with_reducible rfl⟩) ?_)
                        try simp only [Act.put, List.setIfInBounds_toArray, List.set_cons_zero, List.set_cons_succ]
                      refine plan_run _ rfl (fun K hK => ?_)
                      go_simp
                      refine hK.out _ _ hS2 ?_
                      clear hK K
                      iterate 18
                        first
                          | (refine plan_pass _ rfl (by rfl) ?_)
                          | (refine plan_take _ _ rfl (.inl ⟨by rfl, fun W hS => by have z1 := hS; go_simp; try with_reducible rfl⟩) ?_)
                        try simp only [Act.put, List.setIfInBounds_toArray, List.set_cons_zero, List.set_cons_succ]
                      refine plan_done ?_
                      go_wp2
                      go_roundw
                      case rel => exact ⟨g + 1, by omega, by go_num, hS⟩
                      case measure => simp [intOf]; omega
                    | cons x l =>
                      have hl2 : (x :: l).length = l.length + 1 := rfl
                      rw [hl2] at hLl hln
                      rw [hl2]
                      have hxI : (0 : Int) < (l.length : Int) + 1 := by omega
                      cases ao with
                      | none => have h1 := hIL.nil rfl; omega
                      | some ad =>
                        have cx := ix_head' hIL
                        by_cases hxk : x = (k : Int)
                        · have hb1 : (x == (k : Int)) = true := by rw [beq_iff_eq]; exact hxk
                          have hb1' : (x != (k : Int)) = false := by simp [hxk]
                          have hxk' : Hid (x = (k : Int)) := hxk
                          clear hxk hft
                          go_wp2
                          replace hS := keepD _ 1 hS
                          have hS2 : (W13.drew.cell? bd = some (.int .i64 y) ∧ W13.drew.cell? ad = some (.int .i64 x)) := ⟨cy, cx⟩
                          refine wp_region_plan (fun W => W.cell? bd = some (.int .i64 y) ∧ W.cell? ad = some (.int .i64 x)) (Plan.of [(0, true), (1, false), (2, true), (3, true), (4, true), (5, false), (6, true), (7, true), (8, true), (9, true), (10, true), (11, true), (12, true), (13, true), (14, true), (15, true), (16, true), (17, true), (18, true), (19, true), (20, true), (21, true), (22, true), (23, true)] .done) (by kernel_rfl) (by kernel_rfl) (by kernel_rfl) (by kernel_rfl) hS2 ?_
                          iterate 1
                            first
                              | (refine plan_pass _ rfl (by rfl) ?_)
                              | (refine plan_take _ _ rfl (.inl ⟨by rfl, fun W hS => by obtain ⟨z1, z2⟩ := hS; go_simp; try with_reducible rfl⟩) ?_)
                            try simp only [Act.put, List.setIfInBounds_toArray, List.set_cons_zero, List.set_cons_succ]
                          refine plan_run _ rfl (fun K hK => ?_)
                          go_simp
                          refine hK.out _ _ hS2 ?_
                          clear hK K
                          iterate 3
                            first
                              | (refine plan_pass _ rfl (by rfl) ?_)
                              | (refine plan_take _ _ rfl (.inl ⟨by rfl, fun W hS => by obtain ⟨z1, z2⟩ := hS; go_simp; try with_reducible rfl⟩) ?_)
                            try simp only [Act.put, List.setIfInBounds_toArray, List.set_cons_zero, List.set_cons_succ]
                          refine plan_run _ rfl (fun K hK => ?_)
                          go_simp
                          refine hK.out _ _ hS2 ?_
                          clear hK K
                          iterate 18
                            first
                              | (refine plan_pass _ rfl (by rfl) ?_)
                              | (refine plan_take _ _ rfl (.inl ⟨by rfl, fun W hS => by obtain ⟨z1, z2⟩ := hS; go_simp; try with_reducible rfl⟩) ?_)
                            try simp only [Act.put, List.setIfInBounds_toArray, List.set_cons_zero, List.set_cons_succ]
                          refine plan_done ?_
                          go_wp2
                          go_roundw
                          case rel => exact ⟨g + 1, by omega, by go_num, hS⟩
                          case measure => simp [intOf]; omega
                        · have hyx : Hid (y = x) := hft.out x y l l' rfl rfl hxk
                          have hyx' := hyx.out
                          subst hyx'
                          have hb1 : (y == (k : Int)) = false := by rw [beq_eq_false_iff_ne]; exact hxk
                          have hb1' : (y != (k : Int)) = true := by simp [hxk]
                          clear hxk hft
                          go_wp2
                          replace hS := keepD _ 1 hS
                          have hS2 : (W13.drew.cell? bd = some (.int .i64 y) ∧ W13.drew.cell? ad = some (.int .i64 y)) := ⟨cy, cx⟩
                          refine wp_region_plan (fun W => W.cell? bd = some (.int .i64 y) ∧ W.cell? ad = some (.int .i64 y)) (Plan.of [(0, true), (1, false), (2, true), (3, true), (4, true), (5, false), (6, true), (7, true), (8, true), (9, true), (10, true), (11, true), (12, true), (13, true), (14, true), (15, true), (16, true), (17, true), (18, true), (19, true), (20, true), (21, true), (22, true), (23, true)] .done) (by kernel_rfl) (by kernel_rfl) (by kernel_rfl) (by kernel_rfl) hS2 ?_
                          iterate 1
                            first
                              | (refine plan_pass _ rfl (by rfl) ?_)
                              | (refine plan_take _ _ rfl (.inl ⟨by rfl, fun W hS => by obtain ⟨z1, z2⟩ := hS; go_simp; try with_reducible rfl⟩) ?_)
                            try simp only [Act.put, List.setIfInBounds_toArray, List.set_cons_zero, List.set_cons_succ]
                          refine plan_run _ rfl (fun K hK => ?_)
                          go_simp
                          refine hK.out _ _ hS2 ?_
                          clear hK K
                          iterate 3
                            first
                              | (refine plan_pass _ rfl (by rfl) ?_)
                              | (refine plan_take _ _ rfl (.inl ⟨by rfl, fun W hS => by obtain ⟨z1, z2⟩ := hS; go_simp; try with_reducible rfl⟩) ?_)
                            try simp only [Act.put, List.setIfInBounds_toArray, List.set_cons_zero, List.set_cons_succ]
                          refine plan_run _ rfl (fun K hK => ?_)
                          go_simp
                          refine hK.out _ _ hS2 ?_
                          clear hK K
                          iterate 18
                            first
                              | (refine plan_pass _ rfl (by rfl) ?_)
                              | (refine plan_take _ _ rfl (.inl ⟨by rfl, fun W hS => by obtain ⟨z1, z2⟩ := hS; go_simp; try with_reducible rfl⟩) ?_)
                            try simp only [Act.put, List.setIfInBounds_toArray, List.set_cons_zero, List.set_cons_succ]
                          refine plan_done ?_
                          go_wp2
                          go_roundw
                          case rel => exact ⟨g + 1, by omega, by go_num, hS⟩
                          case measure => simp [intOf]; omega
          · have e4 : g = 4 := by omega
            subst e4
            rw [show ((4 : Nat) : Int) = 4 from rfl]
            have hmov := fun w => S.moved m N w hm hNok
            rw [hmv.out] at hmov
            go_wp2_with (first
              | (refine load_map m (by rfl) _ rfl w.heap.size rfl ?hg ?_; (case hg => exact hS.1))
              | (refine load_map N (by rfl) _ rfl w2.heap.size rfl ?hg ?_; (case hg => exact hS.2.1))
              | (go_at_call 14; refine (hmov _).mono ?_; rintro e w5 ⟨rfl, hq⟩; replace hS := keep _ _ hS hq; clear hq))
            go_ret
            exact ⟨rfl, hS.2.2.2⟩
end Go.Proofs.Ytmobdnaejfldnaa
