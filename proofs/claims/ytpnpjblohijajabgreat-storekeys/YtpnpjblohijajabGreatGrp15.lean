/- Get, joined. -/
import Derived.Test.YtpnpjblohijajabGreatGrp14
import Derived.Laws.IdiomStrings
import Derived.Deep.RegionWith
namespace Go.Proofs.YtpnpjblohijajabGreat
section
set_option maxRecDepth 100000
open Go.RowKit

/-- Get's world at the call of caught. -/
def gotW (w : World) (ao : Option Addr) (n c : Nat) (k : Int) : World :=
  ((w.alloc (.cells #[.int .i64 k] 3)).alloc (.cells #[.slice ao n c] 153)).alloc (.cells #[.int .u64 0] 71)

theorem gotW_size (w : World) (ao : Option Addr) (n c : Nat) (k : Int) : (gotW w ao n c k).heap.size = w.heap.size + 3 := by simp [gotW]

theorem gotW_below (w : World) (ao : Option Addr) (n c : Nat) (k : Int) : Below w.heap.size w (gotW w ao n c k) := by
  unfold gotW
  exact (((Below.refl _ _).alloc (Nat.le_refl _) _).alloc (by simp) _).alloc (by simp; omega) _

theorem caught_here_ok (w : World) (ao : Option Addr) (c : Nat) (xs : List UInt8) (k : Int) (h : By w ao c xs) (hk : heldI k ≤ xs.length) :
    Calls Tryz.prog 111 #[.func (.func 139) #[] #[.pointer (some ⟨w.heap.size + 1, 0, none⟩), .pointer (some ⟨w.heap.size, 0, none⟩), .pointer (some ⟨w.heap.size + 1 + 1, 0, none⟩)]] (gotW w ao xs.length c k) fun e w' =>
      e = .returned (.int .i64 0) ∧ w'.cell? ⟨w.heap.size + 1, 0, none⟩ = some (.slice (restAddr ao c (heldI k).toNat) (xs.length - (heldI k).toNat) (c - (heldI k).toNat)) ∧
        w'.cell? ⟨w.heap.size + 1 + 1, 0, none⟩ = some (.int .u64 (getN (xs.take (heldI k).toNat) : Int)) ∧ Below w.heap.size w w' ∧ w.heap.size + 3 < w'.heap.size := by
  have hb := gotW_below w ao xs.length c k
  have hs := gotW_size w ao xs.length c k
  have cr : (gotW w ao xs.length c k).cell? ⟨w.heap.size + 1, 0, none⟩ = some (.slice ao xs.length c) := by simp [gotW, go_sem]
  have cb : (gotW w ao xs.length c k).cell? ⟨w.heap.size, 0, none⟩ = some (.int .i64 k) := by simp [gotW, go_sem]
  have cq : (gotW w ao xs.length c k).cell? ⟨w.heap.size + 1 + 1, 0, none⟩ = some (.int .u64 0) := by simp [gotW, go_sem]
  have zr : (gotW w ao xs.length c k).frozen? ⟨w.heap.size + 1, 0, none⟩ = false := by simp [gotW, go_sem]
  have zq : (gotW w ao xs.length c k).frozen? ⟨w.heap.size + 1 + 1, 0, none⟩ = false := by simp [gotW, go_sem]
  have hW := h.later hb
  have hne : ∀ ad, ao = some ad → 0 < xs.length → ad.block ≠ w.heap.size + 1 := by
    intro ad had hl
    have := World.block_lt_of_cell? w _ (h.at' ad had 0 _ (Bs_at hl))
    simp [Addr.add] at this
    omega
  generalize gotW w ao xs.length c k = W at *
  have bE : Below w.heap.size w (W.alloc (.cells #[.int .i64 0] 25)) := hb.alloc (by omega) _
  have bE' : Below W.heap.size W (W.alloc (.cells #[.int .i64 0] 25)) := (Below.refl _ _).alloc (Nat.le_refl _) _
  have cr' := (World.cell?_alloc_past (w := W) (.cells #[.int .i64 0] 25) (w.heap.size + 1) 0 (by omega)).trans cr
  have cb' := (World.cell?_alloc_past (w := W) (.cells #[.int .i64 0] 25) w.heap.size 0 (by omega)).trans cb
  have cq' := (World.cell?_alloc_past (w := W) (.cells #[.int .i64 0] 25) (w.heap.size + 1 + 1) 0 (by omega)).trans cq
  have zr' := (World.frozen?_alloc_past (w := W) (.cells #[.int .i64 0] 25) (w.heap.size + 1) 0 (by omega)).trans zr
  have zq' := (World.frozen?_alloc_past (w := W) (.cells #[.int .i64 0] 25) (w.heap.size + 1 + 1) 0 (by omega)).trans zq
  have ce : (W.alloc (.cells #[.int .i64 0] 25)).cell? ⟨W.heap.size, 0, none⟩ = some (.int .i64 0) := by simp [go_sem]
  have ze : (W.alloc (.cells #[.int .i64 0] 25)).frozen? ⟨W.heap.size, 0, none⟩ = false := by simp [go_sem]
  have hsz : (W.alloc (.cells #[.int .i64 0] 25)).heap.size = W.heap.size + 1 := by simp
  have hF := get1_ok ⟨w.heap.size + 1, 0, none⟩ ⟨w.heap.size, 0, none⟩ ⟨w.heap.size + 1 + 1, 0, none⟩ ao xs.length c xs k 0 (W.alloc (.cells #[.int .i64 0] 25)) (hW.later bE') rfl hk cr' cb' cq' zr' zq' hne (by simp)
  generalize hV1 : Value.slice (restAddr ao c (heldI k).toNat) (xs.length - (heldI k).toNat) (c - (heldI k).toNat) = V1 at *
  generalize hV2 : Value.int .u64 (getN (xs.take (heldI k).toNat) : Int) = V2 at *
  have ne1 : (⟨w.heap.size + 1, 0, none⟩ : Addr) ≠ ⟨w.heap.size + 1 + 1, 0, none⟩ := by simp
  have ne2 : (⟨W.heap.size, 0, none⟩ : Addr) ≠ ⟨w.heap.size + 1 + 1, 0, none⟩ := by simp [hs]
  have ne3 : (⟨W.heap.size, 0, none⟩ : Addr) ≠ ⟨w.heap.size + 1, 0, none⟩ := by simp [hs]
  refine (caught_get_ok _ _ _ W _ hF ?_ ?_).mono ?_
  · rw [World.cell?_setCell_other _ _ _ _ ne2.symm, World.cell?_setCell_other _ _ _ _ ne3.symm]
    exact ce
  · rw [World.frozen?_setCell, World.frozen?_setCell]
    exact ze
  · rintro e w' ⟨rfl, rfl⟩
    refine ⟨rfl, ?_, ?_, ?_, ?_⟩
    · rw [World.cell?_setCell_other _ _ _ _ ne3, World.cell?_setCell_other _ _ _ _ ne1.symm, World.cell?_setCell_same _ _ _ cr']
    · rw [World.cell?_setCell_other _ _ _ _ ne2, World.cell?_setCell_same _ _ _ ((World.cell?_setCell_other _ _ _ _ ne1).trans cq')]
    · exact ((bE.setCell (by simp) _).setCell (by simp; omega) _).setCell (by simp; omega) _
    · simp [World.setCell]; omega

theorem caught_here_short (w : World) (ao : Option Addr) (c : Nat) (xs : List UInt8) (k : Int) (h : By w ao c xs) (hk : xs.length < heldI k) :
    Calls Tryz.prog 111 #[.func (.func 139) #[] #[.pointer (some ⟨w.heap.size + 1, 0, none⟩), .pointer (some ⟨w.heap.size, 0, none⟩), .pointer (some ⟨w.heap.size + 1 + 1, 0, none⟩)]] (gotW w ao xs.length c k) fun e w' =>
      e = .returned (.int .i64 11) ∧ Below w.heap.size w w' := by
  have hb := gotW_below w ao xs.length c k
  have hs := gotW_size w ao xs.length c k
  have cr : (gotW w ao xs.length c k).cell? ⟨w.heap.size + 1, 0, none⟩ = some (.slice ao xs.length c) := by simp [gotW, go_sem]
  have cb : (gotW w ao xs.length c k).cell? ⟨w.heap.size, 0, none⟩ = some (.int .i64 k) := by simp [gotW, go_sem]
  generalize gotW w ao xs.length c k = W at *
  have bE : Below w.heap.size w (W.alloc (.cells #[.int .i64 0] 25)) := hb.alloc (by omega) _
  have cr' := (World.cell?_alloc_past (w := W) (.cells #[.int .i64 0] 25) (w.heap.size + 1) 0 (by omega)).trans cr
  have cb' := (World.cell?_alloc_past (w := W) (.cells #[.int .i64 0] 25) w.heap.size 0 (by omega)).trans cb
  have ce : (W.alloc (.cells #[.int .i64 0] 25)).cell? ⟨W.heap.size, 0, none⟩ = some (.int .i64 0) := by simp [go_sem]
  have ze : (W.alloc (.cells #[.int .i64 0] 25)).frozen? ⟨W.heap.size, 0, none⟩ = false := by simp [go_sem]
  have hF := get1_short ⟨w.heap.size + 1, 0, none⟩ ⟨w.heap.size, 0, none⟩ ⟨w.heap.size + 1 + 1, 0, none⟩ ao xs.length c k (W.alloc (.cells #[.int .i64 0] 25)) h.le h.cap hk cr' cb'
  refine (caught_get_err _ _ _ 11 W _ hF ce ze).mono ?_
  rintro e w' ⟨rfl, rfl⟩
  exact ⟨rfl, bE.setCell (by simp; omega) _⟩

set_option maxHeartbeats 800000 in
theorem get_ok (ao : Option Addr) (n c : Nat) (xs : List UInt8) (k : Int) (w : World) (h : By w ao c xs) (hn : n = xs.length) (hl : n ≤ 1099511627776) (hk : heldI k ≤ n) :
    Calls Tryz.prog 114 #[.slice ao n c, .int .i64 k] w fun e w' =>
      ∃ g c', e = .returned (.tuple #[.int .u64 (getN (xs.take (heldI k).toNat) : Int), .slice (some ⟨g, 0, none⟩) (n - (heldI k).toNat) c', .int .i64 0]) ∧ By w' (some ⟨g, 0, none⟩) c' (xs.drop (heldI k).toNat) ∧ Below w.heap.size w w' := by
  have hmf : ∀ (fn : Fn) (first cap : Array Value) (w : World), (Instr.makeFunc fn first cap).run Tryz.prog w = .ok (.func fn first cap) w := fun _ _ _ _ => rfl
  subst hn
  go_enter Tryz.func114, Tryz.ntmps114
  go_wp2_with fail
  refine (caught_here_ok w ao c xs k h hk).mono ?_
  rintro e w1 ⟨rfl, cr, cq, hb, hs⟩
  have hR := (h.later hb).rest (k := (heldI k).toNat) (by omega)
  have hL : Hid (xs.length - (heldI k).toNat = (xs.drop (heldI k).toNat).length) := by show _ = _; rw [List.length_drop]
  go_wp2_with fail
  go_region_with (go_at_call 95; refine (grown_any _ _ _ _ 0 _ (hR.later ?_) hL.out (by omega) (by decide) (by decide)).mono ?_; exact (Below.refl _ _).drew; rintro e w2 ⟨rfl, hown, hb2⟩; have cq2 := (hb2.cell (p := ⟨w.heap.size + 1 + 1, 0, none⟩) (by simp; omega)).trans cq)
  all_goals
    have hb3 : Below w.heap.size w w2 := hb.trans ((of_drew hb2).mono (by show w.heap.size ≤ w1.heap.size; omega))
    have hcap : xs.length - (heldI k).toNat + Int.toNat 0 ≤ 9223372036854775807 := by simp; omega
    have R := By.own hown hcap
    clear hown hb2 cq2 hcap
    go_wp2
    go_ret3
    exact ⟨_, _, rfl, R, hb3⟩

set_option maxHeartbeats 800000 in
theorem get_short (ao : Option Addr) (n c : Nat) (xs : List UInt8) (k : Int) (w : World) (h : By w ao c xs) (hn : n = xs.length) (hl : n ≤ 1099511627776) (hk : n < heldI k) :
    Calls Tryz.prog 114 #[.slice ao n c, .int .i64 k] w fun e w' =>
      ∃ g c', e = .returned (.tuple #[.int .u64 0, .slice (some ⟨g, 0, none⟩) n c', .int .i64 11]) ∧ By w' (some ⟨g, 0, none⟩) c' xs ∧ Below w.heap.size w w' := by
  have hmf : ∀ (fn : Fn) (first cap : Array Value) (w : World), (Instr.makeFunc fn first cap).run Tryz.prog w = .ok (.func fn first cap) w := fun _ _ _ _ => rfl
  subst hn
  go_enter Tryz.func114, Tryz.ntmps114
  go_wp2_with fail
  refine (caught_here_short w ao c xs k h hk).mono ?_
  rintro e w1 ⟨rfl, hb⟩
  go_wp2_with fail
  refine (grown_any ao xs.length c xs 0 w1 (h.later hb) rfl hl (by decide) (by decide)).mono ?_
  rintro e w2 ⟨rfl, hown, hb2⟩
  have hb3 : Below w.heap.size w w2 := hb.trans (hb2.mono hb.size)
  have R := By.own hown (by simp; omega)
  clear hown hb2
  go_wp2
  go_ret3
  exact ⟨_, _, rfl, R, hb3⟩
theorem str_of {w : World} {ao : Option Addr} {c n : Nat} {xs : List UInt8} (h : By w ao c xs) (hn : n = xs.length) :
    (convert 60 9 (.slice ao n c)).run Tryz.prog w = .ok (.string ⟨xs.toArray⟩) w := by
  subst hn
  cases ao with
  | none =>
    have h0 : xs = [] := by have := h.nil rfl; have := h.le; exact List.eq_nil_of_length_eq_zero (by omega)
    subst h0
    rw [run_convert_bytes_string w 60 9 5 _ _ c Tryz.underlying60 Tryz.underlying5 Tryz.underlying9]
    simp [Conv.bytesToString]
    rfl
  | some ad => exact run_convert_bytes_back w 60 9 5 ad c xs Tryz.underlying60 Tryz.underlying5 Tryz.underlying9 (fun j hj => h.cell j hj)
end
end Go.Proofs.YtpnpjblohijajabGreat
