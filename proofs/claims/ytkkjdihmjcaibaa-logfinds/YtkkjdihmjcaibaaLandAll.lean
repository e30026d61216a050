/- The contract of objects.All. -/
import Derived.Test.YtkkjdihmjcaibaaLandDo
import Derived.Test.YtkkjdihmjcaibaaResRow
namespace Go.Proofs.Ytkkjdihmjcaibaa
set_option linter.unusedSimpArgs false
set_option linter.unusedVariables false
set_option maxRecDepth 100000
open Go.RowKit

set_option maxHeartbeats 4000000 in
theorem all_fresh (b : BaseV) (ao : Option Addr) (c : Nat) (l : List OpV) (w : World) (hb : BaseOk b) (h : Sl w ao c 6 (opR l)) (ho : ∀ o ∈ l, OpOk o) (hl : l.length ≤ 1000) :
    Calls Try.prog 30 #[.agg (baseC b), .slice ao l.length c] w fun e w' => ∃ ro rc, e = .returned (.tuple #[.agg (baseC (allM b l).1), .slice ro l.length rc]) ∧ Sl w' ro rc 2 (resR (allM b l).2) ∧ Below w.heap.size w w' ∧ ∀ d, ro = some d → w.heap.size ≤ d.block := by
  obtain ⟨i0, hi, hz0, hz1, hz2⟩ := res_info
  have hle := h.le
  have hol : (opR l).length = l.length := by unfold opR; rw [List.length_map]
  rw [hol] at hle
  have hcap := h.cap
  have hB0 : Has ((w.alloc (.cells (baseC b) 33)).alloc (.cells (baseC base0) 33)) w.heap.size 33 (baseC b) := (Has.new _ _ _).alloc _
  have hQ0 : Has ((w.alloc (.cells (baseC b) 33)).alloc (.cells (baseC base0) 33)) (w.heap.size + 1) 33 (baseC base0) := by
    have := Has.new (w.alloc (.cells (baseC b) 33)) 33 (baseC base0)
    simpa using this
  have hbw : Below w.heap.size w ((w.alloc (.cells (baseC b) 33)).alloc (.cells (baseC base0) 33)) := ((Below.refl _ _).alloc (Nat.le_refl _) _).alloc (by simp) _
  obtain ⟨w0, hw0⟩ : ∃ W, (w.alloc (.cells (baseC b) 33)).alloc (.cells (baseC base0) 33) = W := ⟨_, rfl⟩
  have hs0 : w0.heap.size = w.heap.size + 1 + 1 := by rw [← hw0]; simp
  rw [hw0] at hB0 hQ0 hbw
  go_enter Try.func30, Try.ntmps30
  go_wp2_with (first
    | (refine wpList_alloc_has (by rfl) 33 rfl (baseC base0) base_zero ?_; try rw [alloc_size]; try rw [hw0])
    | (refine wpList_make_full _ rfl _ _ 63 rfl w0.heap.size 28 i0 (.agg (resC res0)) 2 Try.underlying63 hi hz0 hz1 _ _ _ _ l.length rfl rfl rfl rfl (by rw [hz2]; omega) (by unfold maxLen; omega) (Nat.le_refl _) ?_))
  intro w1 hown hgrow
  have hb1 : Below w0.heap.size w0 w1 := (Below.refl w0.heap.size w0).grown hgrow (Nat.le_refl _) (fun k hk => by cases hk)
  have hR0 : Has w1 (w.heap.size + 1 + 1) 28 (rowC [] l.length) := row_has hown
  replace hB0 := hB0.later hb1
  replace hQ0 := hQ0.later hb1
  replace hbw := hbw.trans (hb1.mono hbw.size)
  have hS0 := h.later hbw
  clear hown hgrow hb1 hw0 hs0
  go_wp2
  go_loopw [14] (fun i wr => ∃ n : Nat, n ≤ l.length ∧ i = .int .i64 n ∧ Has wr (w.heap.size + 1 + 1) 28 (rowC (allM b (l.take n)).2 l.length) ∧ Has wr w.heap.size 33 (baseC (allM b (l.take n)).1) ∧ Has wr (w.heap.size + 1) 33 (baseC base0) ∧ Sl wr ao c 6 (opR l) ∧ BaseOk (allM b (l.take n)).1 ∧ Below w.heap.size w wr) (fun i _ => l.length - (intOf i).toNat)
  case atStart => exact ⟨0, Nat.zero_le _, rfl, hR0, hB0, hQ0, hS0, hb, hbw⟩
  case round =>
    clear hR0 hB0 hQ0 hS0 hbw
    obtain ⟨n, hn, rfl, hR, hB, hQ, hS, hbo, hbw⟩ := hrel
    by_cases hlt : n < l.length
    · cases ao with
      | none => have := hS.nil rfl; omega
      | some ad =>
        have hci := op_at hS n hlt
        have hon := ho l[n] (List.getElem_mem hlt)
        have i1 : (n : Int) < (l.length : Int) := by omega
        have hnext : Hid _ := all_take b l n hlt
        have hpl := all_take_len b l n (by omega)
        have hok2 : Hid _ := (do_ok hbo hon).1
        generalize l[n] = y at *
        generalize (allM b (l.take n)).2 = ps at *
        generalize (allM b (l.take n)).1 = B at *
        subst hpl
        have hY := (Has.new wr 35 (opC op0)).row (opC y)
        have hlt1 := hR.lt
        have hbb := below_setRow ((Below.refl wr.heap.size wr).alloc (Nat.le_refl _) (.cells (opC op0) 35)) (Nat.le_refl _) (opC y)
        obtain ⟨w3, hw3⟩ : ∃ W, (wr.alloc (.cells (opC op0) 35)).setRow wr.heap.size (opC y) = W := ⟨_, rfl⟩
        rw [hw3] at hY hbb
        have hR1 := hR.later hbb
        have hB1 := hB.later hbb
        have hQ1 := hQ.later hbb
        have hb1 := hbw.trans (hbb.mono hbw.size)
        clear hbb hR hB hQ
        go_wp2_with (first
          | (refine wpList_load_any (by rfl) 35 _ rfl _ rfl (opL y) _ ?hg Try.underlying35 rfl (op_size y) ?_; (case hg => exact hci))
          | (refine wpList_alloc_has (by rfl) 35 rfl (opC op0) op_zero ?_)
          | (refine wpList_store_to (by rfl) 35 _ _ rfl wr.heap.size rfl (opC y) rfl 35 (opC op0) (op_size _) rfl (op_one _) ?hg w3 ?hW ?_; (case hg => exact Has.new _ _ _); (case hW => exact hw3); clear hw3)
          | (refine wpList_load_has (by rfl) 33 _ rfl w.heap.size rfl 33 (baseC B) _ Try.underlying33 rfl (base_size _) ?hg ?_; (case hg => exact hB1))
          | (refine wpList_load_has (by rfl) 35 _ rfl wr.heap.size rfl 35 (opC y) _ Try.underlying35 rfl (op_size _) ?hg ?_; (case hg => exact hY)))
        refine (do_any B y _ hbo hon).mono ?_
        rintro e w4 ⟨rfl, hb4⟩
        replace hR1 := hR1.later hb4
        replace hB1 := hB1.later hb4
        replace hQ1 := hQ1.later hb4
        replace hb1 := hb1.trans (hb4.mono hb1.size)
        clear hb4 hS hY
        generalize (doM B y).1 = B2 at *
        generalize (doM B y).2 = r at *
        have hB2 := hB1.row (baseC B2)
        have hR2 := hR1.row_other (k := w.heap.size) (by omega) (baseC B2)
        have hQ2 := hQ1.row_other (k := w.heap.size) (by omega) (baseC B2)
        have hb2 := below_setRow hb1 (Nat.le_refl _) (baseC B2)
        obtain ⟨w5, hw5⟩ : ∃ W, w4.setRow w.heap.size (baseC B2) = W := ⟨_, rfl⟩
        rw [hw5] at hB2 hR2 hQ2 hb2
        have ht : Hid (w5.there (w.heap.size + 1 + 1) (ps.length * 2) (resC r).size) := hR2.there (ps.length * 2) 2 (by rw [rowC_size _ _ (by omega)]; omega)
        have hR3 := hR2.next_res hlt r
        have hB3 := hB2.cells_other (k := w.heap.size + 1 + 1) (by omega) (resL r) (ps.length * 2)
        have hQ3 := hQ2.cells_other (k := w.heap.size + 1 + 1) (by omega) (resL r) (ps.length * 2)
        have hb3 := below_setCells hb2 (show w.heap.size ≤ w.heap.size + 1 + 1 by omega) (resL r) (ps.length * 2)
        have hS3 := h.later hb3
        go_wp2_with (first
          | (refine wpList_store_to (by rfl) 33 _ _ rfl w.heap.size rfl (baseC B2) rfl 33 (baseC B) (base_size _) rfl (base_one _) ?hg w5 ?hW ?_; (case hg => exact hB1); (case hW => exact hw5); clear hw5)
          | (refine wpList_store_mid' (by rfl) 28 _ _ rfl (w.heap.size + 1 + 1) (ps.length * 2) (resC r) rfl rfl ?hg (res_size r) (res_one r) ?_; (case hg => exact ht.out)))
        go_roundw
        case rel => exact ⟨ps.length + 1, by omega, by go_num, by rw [hnext.out]; exact hR3, by rw [hnext.out]; exact hB3, hQ3, hS3, by rw [hnext.out]; exact hok2.out, hb3⟩
        case measure => simp [intOf]; omega
    · have e5 : n = l.length := by omega
      subst e5
      have hpl := all_len b l
      rw [List.take_length] at hR hB
      have hSr : Sl wr (some ⟨w.heap.size + 1 + 1, 0, none⟩) (allM b l).2.length 2 (resR (allM b l).2) := Has.res_slice (by rw [hpl]; exact hR) (by omega)
      rw [hpl] at hSr
      obtain ⟨BB, hBB⟩ : ∃ B, B = (allM b l).1 := ⟨_, rfl⟩
      rw [← hBB] at hB
      replace hBB : Hid _ := hBB
      have hlt1 := hR.lt
      have hSz : Sl (wr.setRow (w.heap.size + 1) (baseC BB)) (some ⟨w.heap.size + 1 + 1, 0, none⟩) l.length 2 (resR (allM b l).2) := by
        rw [← hpl]
        exact Has.res_slice (by rw [hpl]; exact hR.row_other (by omega) _) (by omega)
      have hQz := hQ.row (baseC BB)
      have hbz := below_setRow hbw (show w.heap.size ≤ w.heap.size + 1 by omega) (baseC BB)
      go_wp2_with (first
        | (refine wpList_load_has (by rfl) 33 _ rfl w.heap.size rfl 33 (baseC BB) _ Try.underlying33 rfl (base_size _) ?hg ?_; (case hg => exact hB))
        | (refine wpList_store_has (by rfl) 33 _ _ rfl (w.heap.size + 1) rfl (baseC BB) rfl 33 (baseC base0) (base_size _) rfl (base_one _) ?hg ?_; (case hg => exact hQ)))
      exact ret_has_tmp rfl (w.heap.size + 1) rfl 33 (baseC BB) _ Try.underlying33 rfl (base_size _) hQz rfl ⟨_, _, by rw [← hBB.out]; rfl, hSz, hbz, fun d hd => by obtain rfl := Option.some.inj hd; show w.heap.size ≤ w.heap.size + 1 + 1; omega⟩

theorem all_any (b : BaseV) (ao : Option Addr) (c : Nat) (l : List OpV) (w : World) (hb : BaseOk b) (h : Sl w ao c 6 (opR l)) (ho : ∀ o ∈ l, OpOk o) (hl : l.length ≤ 1000) :
    Calls Try.prog 30 #[.agg (baseC b), .slice ao l.length c] w fun e w' => ∃ ro rc, e = .returned (.tuple #[.agg (baseC (allM b l).1), .slice ro l.length rc]) ∧ Sl w' ro rc 2 (resR (allM b l).2) ∧ Below w.heap.size w w' := by
  refine (all_fresh b ao c l w hb h ho hl).mono ?_
  rintro e w' ⟨ro, rc, h1, h2, h3, _⟩
  exact ⟨ro, rc, h1, h2, h3⟩
end Go.Proofs.Ytkkjdihmjcaibaa
