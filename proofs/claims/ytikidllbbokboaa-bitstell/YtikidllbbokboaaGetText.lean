/- The contracts of bits.GetText over this seat's program. -/
import Derived.Test.YtikidllbbokboaaText
import Derived.Deep.RegionWith
namespace Go.Proofs.Ytikidllbbokboaa
open Go.RowKit
set_option linter.unusedVariables false

/-- What a text's bytes are. -/
def txtOf (xs : List UInt8) : ByteArray := ⟨((xs.drop 2).take (lenN xs)).toArray⟩

theorem gettext1_ok (r b q : Addr) (ao : Option Addr) (n c : Nat) (xs : List UInt8) (most : Int) (z : ByteArray) (w : World) (h : By w ao c xs) (hn : n = xs.length) (hk : 2 ≤ n) (hm : (lenN xs : Int) ≤ most) (hl : lenN xs + 2 ≤ n)
    (hr : w.cell? r = some (.slice ao n c)) (hb : w.cell? b = some (.int .i64 most)) (hq : w.cell? q = some (.string z)) (zr : w.frozen? r = false) (zq : w.frozen? q = false)
    (hne : ∀ ad, ao = some ad → 0 < xs.length → ad.block ≠ r.block) (hrq : r.block ≠ q.block) :
    Calls Try.prog 32 #[.pointer (some r), .pointer (some b), .pointer (some q)] w fun e w' =>
      e = .returned (.tuple #[]) ∧ w' = ((w.setCell r (.slice (restAddr ao c 2) (n - 2) (c - 2))).setCell r (.slice (restAddr (restAddr ao c 2) (c - 2) (lenN xs)) (n - 2 - lenN xs) (c - 2 - lenN xs))).setCell q (.string (txtOf xs)) := by
  subst hn
  have hrq' : r ≠ q := fun e => hrq (by rw [e])
  have hq' : ((w.setCell r (.slice (restAddr ao c 2) (xs.length - 2) (c - 2))).setCell r (.slice (restAddr (restAddr ao c 2) (c - 2) (lenN xs)) (xs.length - 2 - lenN xs) (c - 2 - lenN xs))).cell? q = some (.string z) := by
    rw [World.cell?_setCell_other _ _ _ _ hrq', World.cell?_setCell_other _ _ _ _ hrq']
    exact hq
  go_enter Try.func32, Try.ntmps32
  go_wp2_with (go_at_call 33; refine (rtext_ok r ao xs.length c xs most _ h rfl hk hm hl hr zr hne).mono ?_; rintro e w' ⟨rfl, rfl⟩)
  go_end0
  exact ⟨rfl, rfl⟩

theorem gettext1_err (r b q : Addr) (ao : Option Addr) (n c : Nat) (xs : List UInt8) (most : Int) (w : World) (h : By w ao c xs) (hn : n = xs.length) (he : textErr xs most ≠ 0)
    (hr : w.cell? r = some (.slice ao n c)) (hb : w.cell? b = some (.int .i64 most)) (zr : w.frozen? r = false) (hne : ∀ ad, ao = some ad → 0 < xs.length → ad.block ≠ r.block) :
    Calls Try.prog 32 #[.pointer (some r), .pointer (some b), .pointer (some q)] w fun e w' =>
      e = .panicked [{ v := .iface 26 (.int .i64 (textErr xs most)), recovered := false }] ∧ (w' = w ∨ ∃ V, w' = w.setCell r V) := by
  subst hn
  generalize hx : textErr xs most = x at *
  go_enter Try.func32, Try.ntmps32
  go_wp2_with fail
  have H := rtext_err r ao xs.length c xs most w h rfl (by rw [hx]; exact he) hr zr hne
  rw [hx] at H
  refine H.mono ?_
  rintro e w' ⟨rfl, hw⟩
  clear H
  go_wp2
  exact ⟨rfl, rfl, hw⟩

/-- bits.caught over GetText's closure, where that returns. -/
theorem caught_text_ok (a b q : Value) (w w1 : World)
    (hF : Calls Try.prog 32 #[a, b, q] (w.alloc (.cells #[.int .i64 0] 26)) fun e w' => e = .returned (.tuple #[]) ∧ w' = w1)
    (hc : w1.cell? ⟨w.heap.size, 0, none⟩ = some (.int .i64 0)) (hz : w1.frozen? ⟨w.heap.size, 0, none⟩ = false) :
    Calls Try.prog 26 #[.func (.func 32) #[] #[a, b, q]] w fun e w' => e = .returned (.int .i64 0) ∧ w' = w1.setCell ⟨w.heap.size, 0, none⟩ (.int .i64 0) := by
  have hmf : ∀ (fn : Fn) (first cap : Array Value) (w : World), (Instr.makeFunc fn first cap).run Try.prog w = .ok (.func fn first cap) w := fun _ _ _ _ => rfl
  have H : Hid (Calls Try.prog 32 #[a, b, q] (w.alloc (.cells #[.int .i64 0] 26)) fun e w' => e = .returned (.tuple #[]) ∧ w' = w1) := hF
  clear hF
  go_enter_defers Try.func26, Try.ntmps26
  go_wp2_with fail
  refine H.out.mono ?_
  rintro e w' ⟨rfl, rfl⟩
  go_wp2
  refine leaves_cons (f := 34) (args := #[.pointer (some ⟨w.heap.size, 0, none⟩)]) (by simp) (by simp [go_sem]) ?_
  refine (catch_idle ⟨w.heap.size, 0, none⟩ _).mono ?_
  rintro e u' w'' ⟨rfl, rfl, rfl⟩
  have hc2 : (w'.setCell ⟨w.heap.size, 0, none⟩ (.int .i64 0)).cell? ⟨w.heap.size, 0, none⟩ = some (.int .i64 0) := by
    rw [World.cell?_setCell_same _ _ _ hc]
  simp [Leaves, settle, results, Try.results26, go_sem, hc2]

/-- bits.caught over GetText's closure, where that panics with an error. -/
theorem caught_text_err (a b q : Value) (x : Int) (w : World) (R : World → Prop)
    (hF : Calls Try.prog 32 #[a, b, q] (w.alloc (.cells #[.int .i64 0] 26)) fun e w' => e = .panicked [{ v := .iface 26 (.int .i64 x), recovered := false }] ∧ R w')
    (hR : ∀ w1, R w1 → w1.cell? ⟨w.heap.size, 0, none⟩ = some (.int .i64 0) ∧ w1.frozen? ⟨w.heap.size, 0, none⟩ = false) :
    Calls Try.prog 26 #[.func (.func 32) #[] #[a, b, q]] w fun e w' => e = .returned (.int .i64 x) ∧ ∃ w1, R w1 ∧ w' = w1.setCell ⟨w.heap.size, 0, none⟩ (.int .i64 x) := by
  have hmf : ∀ (fn : Fn) (first cap : Array Value) (w : World), (Instr.makeFunc fn first cap).run Try.prog w = .ok (.func fn first cap) w := fun _ _ _ _ => rfl
  have H : Hid (Calls Try.prog 32 #[a, b, q] (w.alloc (.cells #[.int .i64 0] 26)) fun e w' => e = .panicked [{ v := .iface 26 (.int .i64 x), recovered := false }] ∧ R w') := hF
  have HR : Hid (∀ w1, R w1 → w1.cell? ⟨w.heap.size, 0, none⟩ = some (.int .i64 0) ∧ w1.frozen? ⟨w.heap.size, 0, none⟩ = false) := hR
  clear hF hR
  go_enter_defers Try.func26, Try.ntmps26
  go_wp2_with fail
  refine H.out.mono ?_
  rintro e w' ⟨rfl, hw⟩
  obtain ⟨hc, hz⟩ := HR.out w' hw
  have HW : Hid (R w') := hw
  clear hw
  go_wp2
  refine leaves_cons (f := 34) (args := #[.pointer (some ⟨w.heap.size, 0, none⟩)]) (by simp) (by simp [go_sem]) ?_
  refine (catch_panicking ⟨w.heap.size, 0, none⟩ x 0 [] _ hc hz).mono ?_
  rintro e u' w'' ⟨rfl, rfl, rfl⟩
  have hc2 : (w'.setCell ⟨w.heap.size, 0, none⟩ (.int .i64 x)).cell? ⟨w.heap.size, 0, none⟩ = some (.int .i64 x) := by
    rw [World.cell?_setCell_same _ _ _ hc]
  simp [Leaves, settle, results, Try.results26, go_sem, hc2]
  exact ⟨w', HW.out, rfl⟩

/-- GetText's world at the call of caught. -/
def gotT (w : World) (ao : Option Addr) (n c : Nat) (most : Int) : World :=
  ((w.alloc (.cells #[.int .i64 most] 3)).alloc (.cells #[.slice ao n c] 52)).alloc (.cells #[.string ⟨#[]⟩] 9)

theorem gotT_size (w : World) (ao : Option Addr) (n c : Nat) (k : Int) : (gotT w ao n c k).heap.size = w.heap.size + 3 := by simp [gotT]

theorem gotT_below (w : World) (ao : Option Addr) (n c : Nat) (k : Int) : Below w.heap.size w (gotT w ao n c k) := by
  unfold gotT
  exact (((Below.refl _ _).alloc (Nat.le_refl _) _).alloc (by simp) _).alloc (by simp; omega) _

theorem caught_gett_ok (w : World) (ao : Option Addr) (c : Nat) (xs : List UInt8) (most : Int) (h : By w ao c xs) (hk : 2 ≤ xs.length) (hm : (lenN xs : Int) ≤ most) (hl : lenN xs + 2 ≤ xs.length) :
    Calls Try.prog 26 #[.func (.func 32) #[] #[.pointer (some ⟨w.heap.size + 1, 0, none⟩), .pointer (some ⟨w.heap.size, 0, none⟩), .pointer (some ⟨w.heap.size + 1 + 1, 0, none⟩)]] (gotT w ao xs.length c most) fun e w' =>
      e = .returned (.int .i64 0) ∧ w'.cell? ⟨w.heap.size + 1, 0, none⟩ = some (.slice (restAddr (restAddr ao c 2) (c - 2) (lenN xs)) (xs.length - 2 - lenN xs) (c - 2 - lenN xs)) ∧
        w'.cell? ⟨w.heap.size + 1 + 1, 0, none⟩ = some (.string (txtOf xs)) ∧ Below w.heap.size w w' ∧ w.heap.size + 3 < w'.heap.size := by
  have hb := gotT_below w ao xs.length c most
  have hs := gotT_size w ao xs.length c most
  have cr : (gotT w ao xs.length c most).cell? ⟨w.heap.size + 1, 0, none⟩ = some (.slice ao xs.length c) := by simp [gotT, go_sem]
  have cb : (gotT w ao xs.length c most).cell? ⟨w.heap.size, 0, none⟩ = some (.int .i64 most) := by simp [gotT, go_sem]
  have cq : (gotT w ao xs.length c most).cell? ⟨w.heap.size + 1 + 1, 0, none⟩ = some (.string ⟨#[]⟩) := by simp [gotT, go_sem]
  have zr : (gotT w ao xs.length c most).frozen? ⟨w.heap.size + 1, 0, none⟩ = false := by simp [gotT, go_sem]
  have zq : (gotT w ao xs.length c most).frozen? ⟨w.heap.size + 1 + 1, 0, none⟩ = false := by simp [gotT, go_sem]
  have hW := h.later hb
  have hne : ∀ ad, ao = some ad → 0 < xs.length → ad.block ≠ w.heap.size + 1 := by
    intro ad had hl
    have := World.block_lt_of_cell? w _ (h.at' ad had 0 _ (Bs_at hl))
    simp [Addr.add] at this
    omega
  generalize gotT w ao xs.length c most = W at *
  have bE : Below w.heap.size w (W.alloc (.cells #[.int .i64 0] 26)) := hb.alloc (by omega) _
  have bE' : Below W.heap.size W (W.alloc (.cells #[.int .i64 0] 26)) := (Below.refl _ _).alloc (Nat.le_refl _) _
  have cr' := (World.cell?_alloc_past (w := W) (.cells #[.int .i64 0] 26) (w.heap.size + 1) 0 (by omega)).trans cr
  have cb' := (World.cell?_alloc_past (w := W) (.cells #[.int .i64 0] 26) w.heap.size 0 (by omega)).trans cb
  have cq' := (World.cell?_alloc_past (w := W) (.cells #[.int .i64 0] 26) (w.heap.size + 1 + 1) 0 (by omega)).trans cq
  have zr' := (World.frozen?_alloc_past (w := W) (.cells #[.int .i64 0] 26) (w.heap.size + 1) 0 (by omega)).trans zr
  have zq' := (World.frozen?_alloc_past (w := W) (.cells #[.int .i64 0] 26) (w.heap.size + 1 + 1) 0 (by omega)).trans zq
  have ce : (W.alloc (.cells #[.int .i64 0] 26)).cell? ⟨W.heap.size, 0, none⟩ = some (.int .i64 0) := by simp [go_sem]
  have ze : (W.alloc (.cells #[.int .i64 0] 26)).frozen? ⟨W.heap.size, 0, none⟩ = false := by simp [go_sem]
  have hF := gettext1_ok ⟨w.heap.size + 1, 0, none⟩ ⟨w.heap.size, 0, none⟩ ⟨w.heap.size + 1 + 1, 0, none⟩ ao xs.length c xs most ⟨#[]⟩ (W.alloc (.cells #[.int .i64 0] 26)) (hW.later bE') rfl hk hm hl cr' cb' cq' zr' zq' hne (by simp)
  generalize hV0 : Value.slice (restAddr ao c 2) (xs.length - 2) (c - 2) = V0 at *
  generalize hV1 : Value.slice (restAddr (restAddr ao c 2) (c - 2) (lenN xs)) (xs.length - 2 - lenN xs) (c - 2 - lenN xs) = V1 at *
  generalize hV2 : Value.string (txtOf xs) = V2 at *
  have ne1 : (⟨w.heap.size + 1, 0, none⟩ : Addr) ≠ ⟨w.heap.size + 1 + 1, 0, none⟩ := by simp
  have ne2 : (⟨W.heap.size, 0, none⟩ : Addr) ≠ ⟨w.heap.size + 1 + 1, 0, none⟩ := by simp [hs]
  have ne3 : (⟨W.heap.size, 0, none⟩ : Addr) ≠ ⟨w.heap.size + 1, 0, none⟩ := by simp [hs]
  refine (caught_text_ok _ _ _ W _ hF ?_ ?_).mono ?_
  · rw [World.cell?_setCell_other _ _ _ _ ne2.symm, World.cell?_setCell_other _ _ _ _ ne3.symm, World.cell?_setCell_other _ _ _ _ ne3.symm]
    exact ce
  · rw [World.frozen?_setCell, World.frozen?_setCell, World.frozen?_setCell]
    exact ze
  · rintro e w' ⟨rfl, rfl⟩
    refine ⟨rfl, ?_, ?_, ?_, ?_⟩
    · rw [World.cell?_setCell_other _ _ _ _ ne3, World.cell?_setCell_other _ _ _ _ ne1.symm, World.cell?_setCell_same _ _ _ (World.cell?_setCell_same _ _ _ cr')]
    · rw [World.cell?_setCell_other _ _ _ _ ne2, World.cell?_setCell_same _ _ _ ((World.cell?_setCell_other _ _ _ _ ne1).trans ((World.cell?_setCell_other _ _ _ _ ne1).trans cq'))]
    · exact (((bE.setCell (by simp) _).setCell (by simp) _).setCell (by simp; omega) _).setCell (by simp; omega) _
    · simp [World.setCell]; omega

theorem caught_gett_err (w : World) (ao : Option Addr) (c : Nat) (xs : List UInt8) (most : Int) (h : By w ao c xs) (he : textErr xs most ≠ 0) :
    Calls Try.prog 26 #[.func (.func 32) #[] #[.pointer (some ⟨w.heap.size + 1, 0, none⟩), .pointer (some ⟨w.heap.size, 0, none⟩), .pointer (some ⟨w.heap.size + 1 + 1, 0, none⟩)]] (gotT w ao xs.length c most) fun e w' =>
      e = .returned (.int .i64 (textErr xs most)) ∧ Below w.heap.size w w' := by
  have hb := gotT_below w ao xs.length c most
  have hs := gotT_size w ao xs.length c most
  have cr : (gotT w ao xs.length c most).cell? ⟨w.heap.size + 1, 0, none⟩ = some (.slice ao xs.length c) := by simp [gotT, go_sem]
  have cb : (gotT w ao xs.length c most).cell? ⟨w.heap.size, 0, none⟩ = some (.int .i64 most) := by simp [gotT, go_sem]
  have zr : (gotT w ao xs.length c most).frozen? ⟨w.heap.size + 1, 0, none⟩ = false := by simp [gotT, go_sem]
  have hW := h.later hb
  have hne : ∀ ad, ao = some ad → 0 < xs.length → ad.block ≠ w.heap.size + 1 := by
    intro ad had hl
    have := World.block_lt_of_cell? w _ (h.at' ad had 0 _ (Bs_at hl))
    simp [Addr.add] at this
    omega
  generalize gotT w ao xs.length c most = W at *
  have bE : Below w.heap.size w (W.alloc (.cells #[.int .i64 0] 26)) := hb.alloc (by omega) _
  have bE' : Below W.heap.size W (W.alloc (.cells #[.int .i64 0] 26)) := (Below.refl _ _).alloc (Nat.le_refl _) _
  have cr' := (World.cell?_alloc_past (w := W) (.cells #[.int .i64 0] 26) (w.heap.size + 1) 0 (by omega)).trans cr
  have cb' := (World.cell?_alloc_past (w := W) (.cells #[.int .i64 0] 26) w.heap.size 0 (by omega)).trans cb
  have zr' := (World.frozen?_alloc_past (w := W) (.cells #[.int .i64 0] 26) (w.heap.size + 1) 0 (by omega)).trans zr
  have ce : (W.alloc (.cells #[.int .i64 0] 26)).cell? ⟨W.heap.size, 0, none⟩ = some (.int .i64 0) := by simp [go_sem]
  have ze : (W.alloc (.cells #[.int .i64 0] 26)).frozen? ⟨W.heap.size, 0, none⟩ = false := by simp [go_sem]
  have ne3 : (⟨W.heap.size, 0, none⟩ : Addr) ≠ ⟨w.heap.size + 1, 0, none⟩ := by simp [hs]
  have hF := gettext1_err ⟨w.heap.size + 1, 0, none⟩ ⟨w.heap.size, 0, none⟩ ⟨w.heap.size + 1 + 1, 0, none⟩ ao xs.length c xs most (W.alloc (.cells #[.int .i64 0] 26)) (hW.later bE') rfl he cr' cb' zr' hne
  refine (caught_text_err _ _ _ _ W _ hF ?_).mono ?_
  · rintro w1 (rfl | ⟨V, rfl⟩)
    · exact ⟨ce, ze⟩
    · exact ⟨(World.cell?_setCell_other _ _ _ _ ne3.symm).trans ce, (World.frozen?_setCell _ _ _ _).trans ze⟩
  · rintro e w' ⟨rfl, w1, hw1, rfl⟩
    refine ⟨rfl, ?_⟩
    rcases hw1 with rfl | ⟨V, rfl⟩
    · exact bE.setCell (by simp; omega) _
    · exact (bE.setCell (by simp) _).setCell (by simp; omega) _

set_option maxHeartbeats 800000 in
theorem gettext_ok (ao : Option Addr) (n c : Nat) (xs : List UInt8) (most : Int) (w : World) (h : By w ao c xs) (hn : n = xs.length) (hl : n ≤ 1099511627776) (he : textErr xs most = 0) :
    Calls Try.prog 23 #[.slice ao n c, .int .i64 most] w fun e w' =>
      ∃ g c', e = .returned (.tuple #[.string (txtOf xs), .slice (some ⟨g, 0, none⟩) (n - 2 - lenN xs) c', .int .i64 0]) ∧ By w' (some ⟨g, 0, none⟩) c' ((xs.drop 2).drop (lenN xs)) ∧ Below w.heap.size w w' := by
  have hmf : ∀ (fn : Fn) (first cap : Array Value) (w : World), (Instr.makeFunc fn first cap).run Try.prog w = .ok (.func fn first cap) w := fun _ _ _ _ => rfl
  subst hn
  obtain ⟨hk, hm, hL⟩ : 2 ≤ xs.length ∧ (lenN xs : Int) ≤ most ∧ lenN xs + 2 ≤ xs.length := by
    unfold textErr at he
    split at he
    · cases he
    · split at he
      · cases he
      · split at he
        · cases he
        · refine ⟨by omega, by omega, by omega⟩
  clear he
  go_enter Try.func23, Try.ntmps23
  go_wp2_with fail
  refine (caught_gett_ok w ao c xs most h hk hm hL).mono ?_
  rintro e w1 ⟨rfl, cr, cq, hb, hs⟩
  have hR := ((h.later hb).rest (k := 2) (by omega)).rest (k := lenN xs) (by rw [List.length_drop]; omega)
  have hLL : Hid (xs.length - 2 - lenN xs = ((xs.drop 2).drop (lenN xs)).length) := by show _ = _; rw [List.length_drop, List.length_drop]
  generalize restAddr (restAddr ao c 2) (c - 2) (lenN xs) = A at *
  go_wp2_with fail
  go_region_with (go_at_call 30; refine (grown_any _ _ _ _ 0 _ (hR.later ?_) hLL.out (by omega) (by decide) (by decide)).mono ?_; exact (Below.refl _ _).drew; rintro e w2 ⟨rfl, hown, hb2⟩; have cq2 := (hb2.cell (p := ⟨w.heap.size + 1 + 1, 0, none⟩) (by simp; omega)).trans cq)
  all_goals
    have hb3 : Below w.heap.size w w2 := hb.trans ((of_drew hb2).mono (by show w.heap.size ≤ w1.heap.size; omega))
    have R := By.own hown (by simp; omega)
    clear hown hb2 cq2
    go_wp2
    go_ret3
    exact ⟨_, _, rfl, R, hb3⟩

set_option maxHeartbeats 800000 in
theorem gettext_err (ao : Option Addr) (n c : Nat) (xs : List UInt8) (most : Int) (w : World) (h : By w ao c xs) (hn : n = xs.length) (hl : n ≤ 1099511627776) (he : textErr xs most ≠ 0) :
    Calls Try.prog 23 #[.slice ao n c, .int .i64 most] w fun e w' =>
      ∃ g c', e = .returned (.tuple #[.string ⟨#[]⟩, .slice (some ⟨g, 0, none⟩) n c', .int .i64 (textErr xs most)]) ∧ By w' (some ⟨g, 0, none⟩) c' xs ∧ Below w.heap.size w w' := by
  have hmf : ∀ (fn : Fn) (first cap : Array Value) (w : World), (Instr.makeFunc fn first cap).run Try.prog w = .ok (.func fn first cap) w := fun _ _ _ _ => rfl
  subst hn
  have hc := caught_gett_err w ao c xs most h he
  have hne : (textErr xs most != 0) = true := by rw [bne_iff_ne]; exact he
  clear he
  generalize textErr xs most = x at *
  have HC : Hid (Calls Try.prog 26 #[.func (.func 32) #[] #[.pointer (some ⟨w.heap.size + 1, 0, none⟩), .pointer (some ⟨w.heap.size, 0, none⟩), .pointer (some ⟨w.heap.size + 1 + 1, 0, none⟩)]] (gotT w ao xs.length c most) fun e w' => e = .returned (.int .i64 x) ∧ Below w.heap.size w w') := hc
  clear hc
  go_enter Try.func23, Try.ntmps23
  go_wp2_with fail
  refine HC.out.mono ?_
  rintro e w1 ⟨rfl, hb⟩
  clear HC
  go_wp2_with fail
  refine (grown_any ao xs.length c xs 0 w1 (h.later hb) rfl hl (by decide) (by decide)).mono ?_
  rintro e w2 ⟨rfl, hown, hb2⟩
  have hb3 : Below w.heap.size w w2 := hb.trans (hb2.mono hb.size)
  have R := By.own hown (by simp; omega)
  clear hown hb2
  go_wp2
  go_ret3
  exact ⟨_, _, rfl, R, hb3⟩
end Go.Proofs.Ytikidllbbokboaa
