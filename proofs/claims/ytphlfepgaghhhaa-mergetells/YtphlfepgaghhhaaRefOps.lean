/- The contracts of the document's IsOp, Writes and noughts. -/
import Derived.Test.YtphlfepgaghhhaaObjMem
namespace Go.Proofs.Ytphlfepgaghhhaa
set_option linter.unusedSimpArgs false
set_option linter.unusedVariables false
set_option maxRecDepth 100000
open Go.RowKit

structure OpOk (o : OpV) : Prop where
  client : o.client < 256
  seq : o.seq < 4294967296
  kind : o.kind < 256
  obj : o.obj < 256
  pos : o.pos < 256
  data : o.data.length ≤ 9223372036854775807

set_option maxHeartbeats 4000000 in
theorem refisop_any (o : OpV) (w : World) (h : OpOk o) :
    Calls Try.prog 66 #[.agg (opC o)] w fun e w' => e = .returned (.bool (isOpM o)) ∧ Below w.heap.size w w' := by
  obtain ⟨cl, sq, kd, ob, at', da⟩ := o
  obtain ⟨h1, h2, h3, h4, h5, h6⟩ := h
  have hs := mkS_size da
  have he := mkS_isEmpty da
  have hm := isOp_is ⟨cl, sq, kd, ob, at', da⟩
  simp only at h1 h2 h3 h4 h5 h6 hm
  show Calls Try.prog 66 #[.agg #[.int .u8 (cl : Int), .int .u32 (sq : Int), .int .u8 (kd : Int), .int .u8 (ob : Int), .int .u8 (at' : Int), .string (mkS da)]] w _
  generalize mkS da = s at *
  have hd0 : da = [] ↔ da.length = 0 := List.length_eq_zero_iff.symm
  rw [hd0] at hm
  have hm' : Hid _ := hm
  clear hm hd0
  generalize da.length = n at *
  have he' : Hid _ := he
  clear he
  go_enter Try.func66, Try.ntmps66
  go_wp2
  all_goals
    go_ret
    refine ⟨retB ?_, (Below.refl _ _).alloc (Nat.le_refl _) _⟩
    rw [Bool.eq_iff_iff, hm'.out]
    have he := he'.out
    simp only [he, bne_iff_ne, bne_eq_false_iff_eq, beq_iff_eq, beq_eq_false_iff_ne, ne_eq, Bool.not_eq_true', Bool.not_eq_false', decide_eq_true_iff, decide_eq_false_iff_not] at *
    try simp
    omega

set_option maxHeartbeats 1000000 in
theorem refwrites_any (o : OpV) (w : World) (h : OpOk o) :
    Calls Try.prog 46 #[.agg (opC o)] w fun e w' => e = .returned (.bool (writesM o)) ∧ Below w.heap.size w w' := by
  have hO := Has.new w 35 (opC o)
  have hb0 := (Below.refl w.heap.size w).alloc (Nat.le_refl _) (.cells (opC o) 35)
  have hm := writes_is o
  have hk := h.kind
  go_enter Try.func46, Try.ntmps46
  go_wp2_with (first
    | (refine wpList_load_has (by rfl) 35 _ rfl w.heap.size rfl 35 (opC o) _ Try.underlying35 rfl (op_size o) ?hg ?_; (case hg => exact hO)))
  refine (refisop_any o _ h).mono ?_
  rintro e w1 ⟨rfl, hq⟩
  replace hO := hO.later hq
  replace hb0 := hb0.trans (hq.mono hb0.size)
  have c2 : w1.cell? ⟨w.heap.size, 2, none⟩ = some (.int .u8 (o.kind : Int)) := (hO.cell 2).trans rfl
  clear hq hO
  cases hi : isOpM o with
  | false =>
    have hr : writesM o = false := by unfold writesM; rw [hi]; rfl
    go_wp2
    go_ret
    exact ⟨by rw [hr]; rfl, hb0⟩
  | true =>
    have hm' : Hid _ := hm
    clear hm
    go_wp2
    go_ret
    refine ⟨retB ?_, hb0⟩
    rw [Bool.eq_iff_iff, hm'.out]
    simp [hi]
    omega

theorem snoc_nought (n : Nat) : mkS (List.replicate n (0 : UInt8)) ++ ByteArray.mk #[0] = mkS (List.replicate (n + 1) (0 : UInt8)) := by
  rw [show ByteArray.mk #[0] = mkS [0] from rfl, mkS_append, ← List.replicate_succ']

set_option maxHeartbeats 1000000 in
theorem noughts_any (n : Nat) (w : World) (hn : n ≤ 1000) :
    Calls Try.prog 78 #[.int .i64 (n : Int)] w fun e w' => e = .returned (strV (List.replicate n 0)) ∧ w' = w := by
  have hnI : (n : Int) ≤ 1000 := by omega
  go_enter Try.func78, Try.ntmps78
  go_wp2
  go_loopw [3, 4] (fun s i wr => ∃ k : Nat, k ≤ n ∧ i = .int .i64 k ∧ s = .string (mkS (List.replicate k (0 : UInt8))) ∧ wr = w) (fun _ i _ => n - (intOf i).toNat)
  case atStart => exact ⟨0, Nat.zero_le _, rfl, rfl, rfl⟩
  case round =>
    obtain ⟨k, hk, rfl, rfl, rfl⟩ := hrel
    by_cases hlt : k < n
    · have hkI : (k : Int) < (n : Int) := by omega
      have hsz : (mkS (List.replicate k (0 : UInt8))).size = k := by rw [mkS_size, List.length_replicate]
      have hstep : Hid _ := snoc_nought k
      have hrun := fun (w : World) => run_string_add_sum (P := Try.prog) w (mkS (List.replicate k (0 : UInt8))) (ByteArray.mk #[0]) (by rw [hsz]; show k + 1 ≤ _; omega)
      generalize mkS (List.replicate k (0 : UInt8)) = s at *
      go_wp2
      go_roundw
      case rel => exact ⟨k + 1, by omega, by go_num, by rw [← hstep.out], by first | rfl | trivial⟩
      case measure => simp [intOf]; omega
    · have e : k = n := by omega
      subst e
      go_wp2
      go_ret
      exact ⟨rfl, rfl⟩
end Go.Proofs.Ytphlfepgaghhhaa
