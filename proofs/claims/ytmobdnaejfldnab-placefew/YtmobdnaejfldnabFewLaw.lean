/- paddocklaw4.PlaceFew returns true, for whatever group, daemon and host. -/
import Derived.Test.YtmobdnaejfldnabPlaceKnown
import Derived.Test.YtmobdnaejfldnabPlaceMoved
import Derived.Test.YtmobdnaejfldnabTurned
import Derived.Test.YtmobdnaejfldnabVal
namespace Go.Proofs.Ytmobdnaejfldnab
set_option linter.unusedSimpArgs false
set_option linter.unusedVariables false
open Go.RowKit

theorem ix_first {w : World} {ad : Addr} {c : Nat} {x : Int} {l : List Int} (h : Ix w (some ad) c (x :: l)) : w.cell? ad = some (.int .i64 x) := by
  have c0 := h.at' ad rfl 0 (by simp)
  have e : ad.add 0 = ad := by cases ad; simp [Addr.add]
  rw [e] at c0
  exact c0

/-- All daemons on one host. -/
def hostT (j : Fin 5) : OsdV := ⟨true, 8, 5⟩
/-- No daemon weighs anything. -/
def lightT (j : Fin 5) : OsdV := ⟨true, 0, j.val % 4⟩
/-- One daemon alone weighs anything. -/
def aloneT (k : Nat) (j : Fin 5) : OsdV := if j.val = k then firstM.osd j else ⟨true, 0, j.val % 4⟩

theorem hostT_ok (i : Fin 5) : osdOk (hostT i) = true := rfl
theorem lightT_ok (i : Fin 5) : osdOk (lightT i) = true := by
  rw [osdOk_is]
  exact ⟨by show (0 : Int) ≤ 0; omega, by show (0 : Int) ≤ 16; omega, by show i.val % 4 < 8; omega⟩
theorem aloneT_ok (k : Nat) (i : Fin 5) : osdOk (aloneT k i) = true := by
  unfold aloneT
  split
  · rw [osdOk_is]
    exact ⟨by show (0 : Int) ≤ 8; omega, by show (8 : Int) ≤ 16; omega, by show i.val % 4 < 8; omega⟩
  · exact lightT_ok i

theorem host_pick {g : Nat} (hg : g < 4) : pickM (turnM firstM hostT 5) g = [bestM (turnM firstM hostT 5) g 0] :=
  pick_one_host (turnM_is ⟨by decide, by decide⟩ hostT_ok) hg (by rw [show ((0 : Int)) = ((0 : Nat) : Int) from rfl, turnM_wt _ _ 0 (by decide)]; show (1 : Int) ≤ 8; omega) (fun j hj => turnM_host _ _ j hj)

theorem alone_pick {g k : Nat} (hg : g < 4) (hk : k < 5) : pickM (turnM firstM (aloneT k) 5) g = [(k : Int)] := by
  refine pick_one_wt (turnM_is ⟨by decide, by decide⟩ (aloneT_ok k)) hg hk ?_ fun j hj hne => ?_
  · rw [turnM_wt _ _ k hk]
    unfold aloneT
    rw [if_pos rfl]
    show (1 : Int) ≤ 8
    omega
  · rw [turnM_wt _ _ j hj]
    unfold aloneT
    rw [if_neg hne]
    show (0 : Int) < 1
    omega

theorem light_pick (g : Nat) : pickM (turnM firstM lightT 5) g = [] ∧ primM (turnM firstM lightT 5) g = -1 := by
  have h : pickM (turnM firstM lightT 5) g = [] := pick_no_wt fun j hj => by rw [turnM_wt _ _ j hj]; show (0 : Int) < 1; omega
  refine ⟨h, ?_⟩
  unfold primM actM
  rw [h]
  rfl

theorem host_step (n : Nat) (h : n < 5) : (mapC (turnM firstM hostT n)).setIfInBounds (1 + n * 3 + 2) (.int .u8 5) = mapC (turnM firstM hostT (n + 1)) := by
  rw [show (Value.int .u8 5) = .int .u8 ((5 : Nat) : Int) from rfl, mapC_setHost (turnM firstM hostT n) ⟨n, h⟩ 5, turnM_at, ← turnM_step firstM hostT n h]
  rfl

theorem light_step (n : Nat) (h : n < 5) : (mapC (turnM firstM lightT n)).setIfInBounds (1 + n * 3 + 1) (.int .i64 0) = mapC (turnM firstM lightT (n + 1)) := by
  rw [mapC_setWt (turnM firstM lightT n) ⟨n, h⟩ 0, turnM_at, ← turnM_step firstM lightT n h]
  rfl

theorem alone_step (k n : Nat) (h : n < 5) (hne : n ≠ k) : (mapC (turnM firstM (aloneT k) n)).setIfInBounds (1 + n * 3 + 1) (.int .i64 0) = mapC (turnM firstM (aloneT k) (n + 1)) := by
  rw [mapC_setWt (turnM firstM (aloneT k) n) ⟨n, h⟩ 0, turnM_at, ← turnM_step firstM (aloneT k) n h]
  congr 2
  unfold aloneT
  rw [if_neg hne]
  rfl

theorem alone_same (k n : Nat) (h : n < 5) (e : n = k) : turnM firstM (aloneT k) (n + 1) = turnM firstM (aloneT k) n :=
  turnM_same firstM (aloneT k) n h (by unfold aloneT; rw [if_pos e])

set_option maxRecDepth 100000 in
set_option maxHeartbeats 4000000 in
theorem few_walk (S : PlaceSpec) (g o : Nat) (H : Bool) (w : World) (hg : g < 256) (ho : o < 256) :
    Calls Try.prog 3 #[.int .u8 g, .int .u8 o, .bool H] w fun e w' => e = .returned (.bool true) ∧ Below w.heap.size w w' := by
  have hb := Below.refl w.heap.size w
  obtain ⟨r, hr⟩ : ∃ r, r = g % 4 := ⟨_, rfl⟩
  have hr4 : r < 4 := by omega
  have hr' : Hid (g % 4 = r) := hr.symm
  obtain ⟨k, hk⟩ : ∃ k, k = o % 5 := ⟨_, rfl⟩
  have hk5 : k < 5 := by omega
  have hkI : (k : Int) < 5 := by omega
  have hk' : Hid (o % 5 = k) := hk.symm
  clear hr hk
  have hlp := light_pick r
  have hZok := turnM_ok firstM_ok lightT_ok
  have hpZ := fun w => S.pick _ r w hZok (by omega)
  have hqZ := fun w => S.primary _ r w hZok (by omega)
  rw [hlp.1] at hpZ
  rw [hlp.2] at hqZ
  clear hlp
  go_enter Try.func3, Try.ntmps3
  go_wp2_with (first
    | (go_at_call 5; refine (pknown_any S _).mono ?_; rintro e w1 ⟨rfl, hq⟩; replace hb := hb.trans (hq.mono hb.size); clear hq)
    | (go_at_call 6; refine (first_any _).mono ?_; rintro e w2 ⟨rfl, hq⟩; replace hb := hb.trans (hq.mono hb.size); have hsz := hb.size; clear hq)
    | (refine wpList_val (.int .u8 (r : Int)) (by rfl) (run_rem_u8 _ _ _ _ rfl g 4 r rfl rfl hg (by decide) hr'.out) ?_)
    | (refine wpList_val (.int .u8 (k : Int)) (by rfl) (run_rem_u8 _ _ _ _ rfl o 5 k rfl rfl ho (by decide) hk'.out) ?_)
    | (refine alloc_map (by rfl) rfl ?_)
    | (refine store_map firstM zeroM (by rfl) _ _ rfl _ rfl rfl ?hg ?_; (case hg => exact Has.new _ _ _); have hM := (Has.new w2 28 (mapC zeroM)).row (mapC firstM); have hbb := below_setRow ((Below.refl w2.heap.size w2).alloc (Nat.le_refl _) (.cells (mapC zeroM) 28)) (Nat.le_refl _) (mapC firstM); replace hb := hb.trans (hbb.mono hb.size); clear hbb; generalize (w2.alloc (.cells (mapC zeroM) 28)).setRow w2.heap.size (mapC firstM) = w3 at *))
  cases H with
  | true =>
    have hM : Has w3 w2.heap.size 28 (mapC (turnM firstM hostT 0)) := by rw [turnM_0]; exact hM
    go_loopw [10] (fun i wr => ∃ n : Nat, n ≤ 5 ∧ i = .int .i64 n ∧ Has wr w2.heap.size 28 (mapC (turnM firstM hostT n)) ∧ Below w.heap.size w wr) (fun i _ => (5 - intOf i).toNat)
    case atStart => exact ⟨0, by decide, rfl, hM, hb⟩
    case round =>
      clear hM hb
      obtain ⟨n, hn, rfl, hM, hb⟩ := hrel
      by_cases hlt5 : n < 5
      · have hnI : (n : Int) < 5 := by omega
        have cu := hM.cell (1 + n * 3 + 2)
        rw [mapC_host _ ⟨n, hlt5⟩] at cu
        have fu := hM.free (1 + n * 3 + 2)
        have hM2 := hM.set (1 + n * 3 + 2) (.int .u8 5)
        rw [host_step n hlt5] at hM2
        have hb2 := hb.setCell (p := ⟨w2.heap.size, 1 + n * 3 + 2, none⟩) hsz (.int .u8 5)
        generalize (turnM firstM hostT n).osd ⟨n, hlt5⟩ = OS at *
        go_wp2
        go_roundw
        case rel => exact ⟨n + 1, by omega, by go_num, hM2, hb2⟩
        case measure => simp [intOf]; omega
      · have e5 : n = 5 := by omega
        subst e5
        rw [show ((5 : Nat) : Int) = 5 from rfl]
        have hMok := turnM_ok firstM_ok hostT_ok
        have hpM := fun w => S.pick _ r w hMok (by omega)
        rw [host_pick hr4] at hpM
        generalize bestM (turnM firstM hostT 5) r 0 = B at *
        generalize turnM firstM hostT 5 = M at *
        go_wp2_with (first
          | (refine load_map M (by rfl) _ rfl w2.heap.size rfl ?hg ?_; (case hg => exact hM)))
        refine (hpM _).mono ?_
        rintro e w4 ⟨ao, c, rfl, hIx, hq⟩
        replace hb := hb.trans (hq.mono hb.size)
        clear hq hM hpM hMok
        have hcap := hIx.cap
        have hle := hIx.le
        cases ao with
        | none => have h1 := hIx.nil rfl; simp at hle; omega
        | some ad =>
        go_wp2_with (first
          | (go_at_call 6; refine (first_any _).mono ?_; rintro e w5 ⟨rfl, hq⟩; replace hb := hb.trans (hq.mono hb.size); replace hIx := hIx.later hq; have hsz5 := hb.size; clear hq)
          | (refine alloc_map (by rfl) rfl ?_)
          | (refine store_map firstM zeroM (by rfl) _ _ rfl _ rfl rfl ?hg ?_; (case hg => exact Has.new _ _ _); have hZ := (Has.new w5 28 (mapC zeroM)).row (mapC firstM); have hbb := below_setRow ((Below.refl w5.heap.size w5).alloc (Nat.le_refl _) (.cells (mapC zeroM) 28)) (Nat.le_refl _) (mapC firstM); generalize (w5.alloc (.cells (mapC zeroM) 28)).setRow w5.heap.size (mapC firstM) = w6 at *))
        have hZ : Has w6 w5.heap.size 28 (mapC (turnM firstM lightT 0)) := by rw [turnM_0]; exact hZ
        go_loopw [13] (fun i wr => ∃ n : Nat, n ≤ 5 ∧ i = .int .i64 n ∧ Has wr w5.heap.size 28 (mapC (turnM firstM lightT n)) ∧ Below w5.heap.size w5 wr) (fun i _ => (5 - intOf i).toNat)
        case atStart => exact ⟨0, by decide, rfl, hZ, hbb⟩
        case round =>
          clear hZ hbb
          obtain ⟨n, hn2, rfl, hZ, hbb⟩ := hrel
          by_cases hlt5' : n < 5
          · have hnI : (n : Int) < 5 := by omega
            have cu := hZ.cell (1 + n * 3 + 1)
            rw [mapC_wt _ ⟨n, hlt5'⟩] at cu
            have fu := hZ.free (1 + n * 3 + 1)
            have hZ2 := hZ.set (1 + n * 3 + 1) (.int .i64 0)
            rw [light_step n hlt5'] at hZ2
            have hb2 := hbb.setCell (p := ⟨w5.heap.size, 1 + n * 3 + 1, none⟩) (Nat.le_refl _) (.int .i64 0)
            generalize (turnM firstM lightT n).osd ⟨n, hlt5'⟩ = OS at *
            go_wp2
            go_roundw
            case rel => exact ⟨n + 1, by omega, by go_num, hZ2, hb2⟩
            case measure => simp [intOf]; omega
          · have e6 : n = 5 := by omega
            subst e6
            rw [show ((5 : Nat) : Int) = 5 from rfl]
            replace hIx := hIx.later hbb
            have cx := ix_first hIx
            have hS : (Has wr w5.heap.size 28 (mapC (turnM firstM lightT 5)) ∧ Below w.heap.size w wr) := ⟨hZ, hb.trans (hbb.mono hb.size)⟩
            have keep : ∀ W W' : World, (Has W w5.heap.size 28 (mapC (turnM firstM lightT 5)) ∧ Below w.heap.size w W) → Below W.heap.size W W' → (Has W' w5.heap.size 28 (mapC (turnM firstM lightT 5)) ∧ Below w.heap.size w W') :=
              fun W W' h hq => ⟨h.1.later hq, h.2.trans (hq.mono h.2.size)⟩
            clear hZ hbb hb hIx
            generalize turnM firstM lightT 5 = Z at *
            go_wp2_with (first
              | (refine load_map Z (by first | rfl | simp [Region.wanted, yielded]) _ rfl w5.heap.size rfl ?hg ?_; (case hg => exact hS.1))
              | (go_at_call 7; refine (hpZ _).mono ?_; rintro e w7 ⟨a1, c1, rfl, hI1, hq⟩; have hk1 := hI1.cap; replace hS := keep _ _ hS hq; clear hq hI1)
              | (go_at_call 8; refine (hqZ _).mono ?_; rintro e w8 ⟨rfl, hq⟩; replace hS := keep _ _ hS hq; clear hq))
            go_ret
            exact ⟨rfl, hS.2⟩
  | false =>
    have hM : Has w3 w2.heap.size 28 (mapC (turnM firstM (aloneT k) 0)) := by rw [turnM_0]; exact hM
    go_loopw [10] (fun i wr => ∃ n : Nat, n ≤ 5 ∧ i = .int .i64 n ∧ Has wr w2.heap.size 28 (mapC (turnM firstM (aloneT k) n)) ∧ Below w.heap.size w wr) (fun i _ => (5 - intOf i).toNat)
    case atStart => exact ⟨0, by decide, rfl, hM, hb⟩
    case round =>
      clear hM hb
      obtain ⟨n, hn, rfl, hM, hb⟩ := hrel
      by_cases hlt5 : n < 5
      · have hnI : (n : Int) < 5 := by omega
        by_cases hne : n = k
        · have n1 : ((n : Int) == (k : Int)) = true := by rw [beq_iff_eq]; omega
          have n2 : ((n : Int) != (k : Int)) = false := by simp; omega
          have n3 : (n == k) = true := by rw [beq_iff_eq]; omega
          have n4 : (n != k) = false := by simp; omega
          have hM2 : Hid (Has wr w2.heap.size 28 (mapC (turnM firstM (aloneT k) (n + 1)))) := by
            show Has _ _ _ _
            rw [alone_same k n hlt5 hne]
            exact hM
          clear hne
          go_wp2
          go_roundw
          case rel => exact ⟨n + 1, by omega, by go_num, hM2.out, hb⟩
          case measure => simp [intOf]; omega
        · have n1 : ((n : Int) == (k : Int)) = false := by rw [beq_eq_false_iff_ne]; omega
          have n2 : ((n : Int) != (k : Int)) = true := by simp; omega
          have n3 : (n == k) = false := by rw [beq_eq_false_iff_ne]; omega
          have n4 : (n != k) = true := by simp; omega
          have cu := hM.cell (1 + n * 3 + 1)
          rw [mapC_wt _ ⟨n, hlt5⟩] at cu
          have fu := hM.free (1 + n * 3 + 1)
          have hM2 := hM.set (1 + n * 3 + 1) (.int .i64 0)
          rw [alone_step k n hlt5 hne] at hM2
          have hb2 := hb.setCell (p := ⟨w2.heap.size, 1 + n * 3 + 1, none⟩) hsz (.int .i64 0)
          generalize (turnM firstM (aloneT k) n).osd ⟨n, hlt5⟩ = OS at *
          clear hne
          go_wp2
          go_roundw
          case rel => exact ⟨n + 1, by omega, by go_num, hM2, hb2⟩
          case measure => simp [intOf]; omega
      · have e5 : n = 5 := by omega
        subst e5
        rw [show ((5 : Nat) : Int) = 5 from rfl]
        have hMok := turnM_ok firstM_ok (aloneT_ok k)
        have hpM := fun w => S.pick _ r w hMok (by omega)
        rw [alone_pick hr4 hk5] at hpM
        generalize turnM firstM (aloneT k) 5 = M at *
        go_wp2_with (first
          | (refine load_map M (by rfl) _ rfl w2.heap.size rfl ?hg ?_; (case hg => exact hM)))
        refine (hpM _).mono ?_
        rintro e w4 ⟨ao, c, rfl, hIx, hq⟩
        replace hb := hb.trans (hq.mono hb.size)
        clear hq hM hpM hMok
        have hcap := hIx.cap
        have hle := hIx.le
        cases ao with
        | none => have h1 := hIx.nil rfl; simp at hle; omega
        | some ad =>
        go_wp2_with (first
          | (go_at_call 6; refine (first_any _).mono ?_; rintro e w5 ⟨rfl, hq⟩; replace hb := hb.trans (hq.mono hb.size); replace hIx := hIx.later hq; have hsz5 := hb.size; clear hq)
          | (refine alloc_map (by rfl) rfl ?_)
          | (refine store_map firstM zeroM (by rfl) _ _ rfl _ rfl rfl ?hg ?_; (case hg => exact Has.new _ _ _); have hZ := (Has.new w5 28 (mapC zeroM)).row (mapC firstM); have hbb := below_setRow ((Below.refl w5.heap.size w5).alloc (Nat.le_refl _) (.cells (mapC zeroM) 28)) (Nat.le_refl _) (mapC firstM); generalize (w5.alloc (.cells (mapC zeroM) 28)).setRow w5.heap.size (mapC firstM) = w6 at *))
        have hZ : Has w6 w5.heap.size 28 (mapC (turnM firstM lightT 0)) := by rw [turnM_0]; exact hZ
        go_loopw [13] (fun i wr => ∃ n : Nat, n ≤ 5 ∧ i = .int .i64 n ∧ Has wr w5.heap.size 28 (mapC (turnM firstM lightT n)) ∧ Below w5.heap.size w5 wr) (fun i _ => (5 - intOf i).toNat)
        case atStart => exact ⟨0, by decide, rfl, hZ, hbb⟩
        case round =>
          clear hZ hbb
          obtain ⟨n, hn2, rfl, hZ, hbb⟩ := hrel
          by_cases hlt5' : n < 5
          · have hnI : (n : Int) < 5 := by omega
            have cu := hZ.cell (1 + n * 3 + 1)
            rw [mapC_wt _ ⟨n, hlt5'⟩] at cu
            have fu := hZ.free (1 + n * 3 + 1)
            have hZ2 := hZ.set (1 + n * 3 + 1) (.int .i64 0)
            rw [light_step n hlt5'] at hZ2
            have hb2 := hbb.setCell (p := ⟨w5.heap.size, 1 + n * 3 + 1, none⟩) (Nat.le_refl _) (.int .i64 0)
            generalize (turnM firstM lightT n).osd ⟨n, hlt5'⟩ = OS at *
            go_wp2
            go_roundw
            case rel => exact ⟨n + 1, by omega, by go_num, hZ2, hb2⟩
            case measure => simp [intOf]; omega
          · have e6 : n = 5 := by omega
            subst e6
            rw [show ((5 : Nat) : Int) = 5 from rfl]
            replace hIx := hIx.later hbb
            have cx := ix_first hIx
            have hS : (Has wr w5.heap.size 28 (mapC (turnM firstM lightT 5)) ∧ Below w.heap.size w wr) := ⟨hZ, hb.trans (hbb.mono hb.size)⟩
            have keep : ∀ W W' : World, (Has W w5.heap.size 28 (mapC (turnM firstM lightT 5)) ∧ Below w.heap.size w W) → Below W.heap.size W W' → (Has W' w5.heap.size 28 (mapC (turnM firstM lightT 5)) ∧ Below w.heap.size w W') :=
              fun W W' h hq => ⟨h.1.later hq, h.2.trans (hq.mono h.2.size)⟩
            clear hZ hbb hb hIx
            generalize turnM firstM lightT 5 = Z at *
            go_wp2_with (first
              | (refine load_map Z (by first | rfl | simp [Region.wanted, yielded]) _ rfl w5.heap.size rfl ?hg ?_; (case hg => exact hS.1))
              | (go_at_call 7; refine (hpZ _).mono ?_; rintro e w7 ⟨a1, c1, rfl, hI1, hq⟩; have hk1 := hI1.cap; replace hS := keep _ _ hS hq; clear hq hI1)
              | (go_at_call 8; refine (hqZ _).mono ?_; rintro e w8 ⟨rfl, hq⟩; replace hS := keep _ _ hS hq; clear hq))
            go_ret
            exact ⟨rfl, hS.2⟩
end Go.Proofs.Ytmobdnaejfldnab
