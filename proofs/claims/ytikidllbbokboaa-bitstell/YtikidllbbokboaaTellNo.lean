/- paddocklaw1.BitsTell returns true where there are too few bytes. -/
import Derived.Test.YtikidllbbokboaaTell
namespace Go.Proofs.Ytikidllbbokboaa
open Go.RowKit
set_option linter.unusedVariables false

attribute [local go_sem ↓] Go.wp_at_zero Go.wp_at_succ
set_option maxRecDepth 100000 in
set_option maxHeartbeats 16000000 in
theorem tell_no (ao bo : Option Addr) (c d : Nat) (xs ys : List UInt8) (x : Int) (p q r : Nat) (k : Int) (o : Int) (w : World) (h : By w ao c xs) (h' : By w bo d ys)
    (hx0 : 0 ≤ x) (hx1 : x < 18446744073709551616) (hp : p < 4294967296) (hq : q < 4294967296) (hr : r < 4294967296) (ho0 : 0 ≤ o) (ho1 : o < 256)
    (h300 : ¬ 300 < xs.length) (hs300 : ¬ 300 < ys.length) (hE : ¬ heldI k ≤ xs.length) :
    Calls Try.prog 3 #[.slice ao xs.length c, .slice bo ys.length d, .int .u64 x, .int .u32 p, .int .u32 q, .int .u32 r, .int .i64 k, .int .u8 o] w fun e w' => e = .returned (.bool true) ∧ Below w.heap.size w w' := by
  have hle := h.le
  have hcap := h.cap
  have hle' := h'.le
  have hcap' := h'.cap
  have hG : gotE xs k = 11 := by unfold gotE; rw [if_neg hE]
  have hE' : decide (heldI k ≤ xs.length) = false := decide_eq_false hE
  go_enter Try.func3, Try.ntmps3
  go_wp2_with (first | (go_at_call 9; refine (known_any _).mono ?_; rintro e w1 ⟨rfl, hb1⟩; have hB1 := h.later hb1) | (at_builtin; refine wpList_copy _ rfl _ _ rfl w.heap.size ao xs.length c xs rfl rfl hB1 rfl (by omega) hb1.size ?_; intro ao2 c2 w2 hown2 hC2 hb2))
  refine (get_any ao2 xs.length c2 xs k w2 hC2 rfl (by omega)).mono ?_
  rintro e w3 ⟨A3, c3, rfl, hR3, hb3⟩
  have hB3 := (hB1.later hb2).later hb3
  replace hb3 := (hb1.trans (hb2.mono hb1.size)).trans (hb3.mono (hb1.trans (hb2.mono hb1.size)).size)
  clear hown2 hC2 hb2 hb1 hB1
  go_wp2_with fail
  refine (refget_any ao xs.length c xs k w3 hB3 rfl (by omega)).mono ?_
  rintro e w4 ⟨A4, c4, rfl, hR4, hb4⟩
  rw [hE']
  have hX := by_drew2 (hB3.later hb4)
  have hY := by_drew2 ((h'.later hb3).later hb4)
  have hR := by_drew2 (hR3.later hb4)
  have hL := by_drew2 hR4
  replace hb4 := (hb3.trans (hb4.mono hb3.size)).drew
  have hbb : Below w4.drew.heap.size w4.drew w4.drew := Below.refl _ _
  clear hB3 hR3 hR4 hb3
  generalize gotL xs k = R at *
  generalize gotN xs k = M at *
  go_wp2_with fail
  refine wp_region_noPanic ?_
  go_region_held_law (fun W => (convert 22 9 (.slice A3 R.length c3)).run Try.prog W = .ok (.string ⟨R.toArray⟩) W ∧ (convert 22 9 (.slice A4 R.length c4)).run Try.prog W = .ok (.string ⟨R.toArray⟩) W)
    (exact ⟨str_of (hR.later hbb) rfl, str_of (hL.later hbb) rfl⟩)
    (first
      | (go_at_call 12; refine (sum_any _ _ _ xs _ (hX.later hbb) rfl).mono ?_; rintro e w' ⟨rfl, rfl⟩)
      | (go_at_call 13; refine (refsum_any _ _ _ xs _ (hX.later hbb) rfl).mono ?_; rintro e w' ⟨rfl, rfl⟩)
      | (go_at_call 14; refine (mix_any x _ hx0 hx1).mono ?_; rintro e w' ⟨rfl, rfl⟩)
      | (go_at_call 15; refine (refmix_any x _ hx0 hx1).mono ?_; rintro e w' ⟨rfl, rfl⟩)
      | (go_at_call 16; refine (hash_any p q r _ hp hq hr).mono ?_; rintro e w' ⟨rfl, rfl⟩)
      | (go_at_call 17; refine (refhash_any p q r _ hp hq hr).mono ?_; rintro e w' ⟨rfl, rfl⟩)
      | (go_at_call 18; refine (group_any o _ ho0 ho1).mono ?_; rintro e w' ⟨rfl, rfl⟩)
      | (go_at_call 19; refine (refgroup_any o _ ho0 ho1).mono ?_; rintro e w' ⟨rfl, rfl⟩)
      | (go_at_call 20; refine (put_str a8 ys.length c8 ys x k _ hC8 rfl (by omega) hx0 hx1).mono ?_; rintro e w9 ⟨P1, c9, rfl, hP, hb9⟩; replace hbb := hbb.trans (hb9.mono hbb.size); have hs1 := str_of hP rfl)
      | (go_at_call 21; refine (refput_str _ ys.length ys x k _ _ hown10 (by omega) hb10.size hx0 hx1).mono ?_; rintro e w11 ⟨P2, c11, rfl, hQ, hb11⟩; replace hP := hP0.later (hb10.trans hb11); replace hbb := hbb0.trans ((hb10.trans hb11).mono hbb0.size); have hs1 := str_of hP rfl; have hs2 := str_of hQ rfl)
      | (refine step_copy _ (by rfl) _ (.tmp 82) (by rfl) _ bo ys.length d ys (by rfl) (by rfl) (hY.later hbb) rfl (by omega) (Nat.le_refl _) ?_; intro a8 c8 w8 hown8 hC8 hb8; replace hbb := hbb.trans (hb8.mono hbb.size))
      | (refine step_copy _ (by rfl) _ (.tmp 88) (by rfl) _ bo ys.length d ys (by rfl) (by rfl) (hY.later hbb) rfl (by omega) (Nat.le_refl _) ?_; intro a10 c10 w10 hown10 hC10 hb10; have hbb0 := hbb; have hP0 := hP; replace hbb := hbb.trans (hb10.mono hbb.size); replace hP := hP.later hb10; have hs1 := str_of hP rfl))
  all_goals
    refine NoPanic.normal ?_
    go_wp2
    go_ret
    exact ⟨rfl, hb4.trans (hbb.mono hb4.size)⟩

end Go.Proofs.Ytikidllbbokboaa
