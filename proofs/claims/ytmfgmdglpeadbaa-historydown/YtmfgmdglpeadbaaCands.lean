/- The contracts of package place's candidates: what one draws, whether it fits, what all of them draw. -/
import Derived.Test.YtmfgmdglpeadbaaCandMem
import Derived.Test.YtmfgmdglpeadbaaHeld
namespace Go.Proofs.Ytmfgmdglpeadbaa
set_option linter.unusedSimpArgs false
set_option linter.unusedVariables false
open Go.RowKit

theorem Try.infoI64 : (Try.prog.info? 2).map (fun i => (i.zero, i.size, i.bytes)) = some (some (.int .i64 0), 1, 8) := by kernel_rfl

set_option maxRecDepth 100000 in
theorem cdraw_any (x : CandV) (g : Nat) (t : Int) (w : World) (hg : g < 256) (hq : -9223372036854775808 ≤ x.wt ∧ x.wt ≤ 9223372036854775807) :
    Calls Try.prog 47 #[.agg (candC x), .int .u8 g, .int .i64 t] w fun e w' => e = .returned (.int .i64 (drawI g x.o t x.wt)) ∧ Below w.heap.size w w' := by
  have c0 : (candC x)[0]? = some (.int .i64 x.o) := rfl
  have c1 : (candC x)[1]? = some (.int .i64 x.wt) := rfl
  have hb := (Below.refl w.heap.size w).alloc (Nat.le_refl _) (.cells (candC x) 87)
  go_enter Try.func47, Try.ntmps47
  go_wp2_with fail
  refine (draw_any g x.o t x.wt _ hg hq.1 hq.2).mono ?_
  rintro e w1 ⟨rfl, hb1⟩
  go_wp2
  go_ret
  exact ⟨rfl, hb.trans (hb1.mono hb.size)⟩

theorem all_snoc {α : Type} {p : α → Bool} {l : List α} {n : Nat} (h : n < l.length) (ha : (l.take n).all p = true) : (l.take (n + 1)).all p = p l[n] := by
  rw [List.take_succ_eq_append_getElem h, List.all_append, ha]
  simp

theorem all_false {α : Type} {p : α → Bool} {l : List α} {n : Nat} (h : n < l.length) (hp : p l[n] = false) : l.all p = false := by
  rw [List.all_eq_false]
  exact ⟨l[n], List.getElem_mem h, by simp [hp]⟩

set_option maxRecDepth 100000 in
set_option maxHeartbeats 1000000 in
theorem fits_any (x : CandV) (ao : Option Addr) (c : Nat) (cs : List CandV) (w : World) (h : Sl w ao c 3 (candR cs)) :
    Calls Try.prog 56 #[.agg (candC x), .slice ao cs.length c] w fun e w' => e = .returned (.bool (cs.all fun y => y.host != x.host)) ∧ Below w.heap.size w w' := by
  have hle := h.le
  rw [candR_len] at hle
  have hcap := h.cap
  have hX := Has.new w 87 (candC x)
  have hb0 := (Below.refl w.heap.size w).alloc (Nat.le_refl _) (.cells (candC x) 87)
  have hS0 := h.later hb0
  go_enter Try.func56, Try.ntmps56
  go_wp2
  generalize w.alloc (.cells (candC x) 87) = w1 at *
  go_loopw [9] (fun i wr => ∃ n : Nat, n ≤ cs.length ∧ i = .int .i64 n ∧ (cs.take n).all (fun y => y.host != x.host) = true ∧ Has wr w.heap.size 87 (candC x) ∧ Sl wr ao c 3 (candR cs) ∧ Below w.heap.size w wr) (fun i _ => cs.length - (intOf i).toNat)
  case atStart => exact ⟨0, Nat.zero_le _, rfl, by simp, hX, hS0, hb0⟩
  case round =>
    clear hX hS0 hb0
    obtain ⟨n, hn, rfl, hall, hX, hS, hb⟩ := hrel
    by_cases hlt : n < cs.length
    · cases ao with
      | none => have := hS.nil rfl; omega
      | some ad =>
        have hci := cand_at hS n hlt
        have i1 : (n : Int) < (cs.length : Int) := by omega
        have hsn : Hid _ := all_snoc hlt hall
        have hfn : Hid _ := @all_false _ (fun y : CandV => y.host != x.host) cs n hlt
        clear hall
        generalize cs[n] = y at *
        have hY := (Has.new wr 87 (candC ⟨0, 0, 0⟩)).row (candC y)
        have hlt1 := hX.lt
        have hX1 := (hX.alloc (.cells (candC ⟨0, 0, 0⟩) 87)).row_other (k := wr.heap.size) (by omega) (candC y)
        have hbb := below_setRow ((Below.refl wr.heap.size wr).alloc (Nat.le_refl _) (.cells (candC ⟨0, 0, 0⟩) 87)) (Nat.le_refl _) (candC y)
        have hS1 := hS.later hbb
        have hb1 := hb.trans (hbb.mono hb.size)
        clear hbb
        have cx := hX1.cell 2
        have cy := hY.cell 2
        rw [show (candC x)[2]? = some (.int .u8 x.host) from rfl] at cx
        rw [show (candC y)[2]? = some (.int .u8 y.host) from rfl] at cy
        by_cases he : y.host = x.host
        · have hr : Hid _ := hfn.out (by simp [he])
          have heb : ((y.host : Int) == (x.host : Int)) = true := by rw [beq_iff_eq]; omega
          clear hsn hfn he
          generalize y.host = HY at *
          go_wp2_with (first
            | (refine load_cand_at y (by rfl) _ rfl _ rfl hci ?_)
            | (refine alloc_cand (by rfl) rfl ?_)
            | (refine store_cand _ ⟨0, 0, 0⟩ (by rfl) _ _ rfl _ rfl rfl (Has.new _ _ _) ?_; generalize (wr.alloc (.cells (candC ⟨0, 0, 0⟩) 87)).setRow wr.heap.size (candC y) = w3 at *))
          go_ret
          exact ⟨ret_bool (by rw [hr.out]), hb1⟩
        · have hr : Hid ((cs.take (n + 1)).all (fun y => y.host != x.host) = true) := by
            have := hsn.out
            show _ = _
            rw [this]
            simp [he]
          have heb : ((y.host : Int) == (x.host : Int)) = false := by rw [beq_eq_false_iff_ne]; omega
          clear hsn hfn he
          have hXh : Hid (x.host = x.host) := rfl
          generalize hHY : y.host = HY at *
          clear hHY
          go_wp2_with (first
            | (refine load_cand_at y (by rfl) _ rfl _ rfl hci ?_)
            | (refine alloc_cand (by rfl) rfl ?_)
            | (refine store_cand _ ⟨0, 0, 0⟩ (by rfl) _ _ rfl _ rfl rfl (Has.new _ _ _) ?_; generalize (wr.alloc (.cells (candC ⟨0, 0, 0⟩) 87)).setRow wr.heap.size (candC y) = w3 at *))
          go_roundw
          case rel => exact ⟨n + 1, by omega, by go_num, hr.out, hX1, hS1, hb1⟩
          case measure => simp [intOf]; omega
    · have e5 : n = cs.length := by omega
      subst e5
      rw [List.take_length] at hall
      go_wp2
      go_ret
      exact ⟨ret_bool (by rw [hall]), hb⟩
end Go.Proofs.Ytmfgmdglpeadbaa
