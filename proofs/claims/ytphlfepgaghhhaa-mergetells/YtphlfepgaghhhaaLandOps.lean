/- The contracts of objects.IsOp and objects.Writes. -/
import Derived.Test.YtphlfepgaghhhaaEqOp
import Derived.Test.YtphlfepgaghhhaaObjKnown
namespace Go.Proofs.Ytphlfepgaghhhaa
set_option linter.unusedSimpArgs false
set_option linter.unusedVariables false
set_option maxRecDepth 100000
open Go.RowKit

theorem op_zero : (Try.prog.info? 35).map (·.zero) = some (some (.agg (opC op0))) := by kernel_rfl
theorem bare_built (a b c d : Nat) : Try.prog.built 35 [(0, .int .u8 (a : Int)), (1, .int .u32 (b : Int)), (2, .int .u8 (c : Int)), (3, .int .u8 (d : Int))] = some (opC ⟨a, b, c, d, 0, []⟩) := by kernel_rfl

theorem wpList_build_four {P : Program} {ops : Array Oper} {rest : List Oper} {o : Oper} {a : Act} {w : World} {Q : Exit → Act → World → Prop} (hw : Region.wanted o (yielded ops a.tmps) = true) (t : TypeId) (i j k l : Nat) (x y z u : Operand) (ho : o.op = .build t #[(i, x), (j, y), (k, z), (l, u)]) (p q r s : Value) (hx : a.eval x = p) (hy : a.eval y = q) (hz : a.eval z = r) (hu : a.eval u = s) (c : Array Value) (hf : P.built t [(i, p), (j, q), (k, r), (l, s)] = some c)
    (h : wpList P ops Q rest (a.put o.dst (.agg c)) w) : wpList P ops Q (o :: rest) a w :=
  wpList_build_has hw t _ ho c (by simpa [hx, hy, hz, hu] using hf) h

theorem same_bare {cl sq kd ob p : Nat} {d : List UInt8} (q : Nat) : sameOp ⟨cl, sq, kd, ob, p, d⟩ ⟨cl, sq, kd, ob, q, []⟩ = true ↔ p = q ∧ d.length = 0 := by
  rw [sameOp_is, List.length_eq_zero_iff]
  constructor
  · intro h
    cases h
    exact ⟨rfl, rfl⟩
  · rintro ⟨rfl, rfl⟩
    rfl

set_option maxHeartbeats 8000000 in
theorem isop_any (o : OpV) (w : World) (h : OpOk o) :
    Calls Try.prog 75 #[.agg (opC o)] w fun e w' => e = .returned (.bool (isOpM o)) ∧ Below w.heap.size w w' := by
  obtain ⟨cl, sq, kd, ob, ps, da⟩ := o
  have hm : Hid _ := isOp_is ⟨cl, sq, kd, ob, ps, da⟩
  generalize isOpM ⟨cl, sq, kd, ob, ps, da⟩ = m at hm ⊢
  have hO := Has.new w 35 (opC ⟨cl, sq, kd, ob, ps, da⟩)
  have hb0 := (Below.refl w.heap.size w).alloc (Nat.le_refl _) (.cells (opC ⟨cl, sq, kd, ob, ps, da⟩) 35)
  obtain ⟨w0, hw0⟩ : ∃ W, w.alloc (.cells (opC ⟨cl, sq, kd, ob, ps, da⟩) 35) = W := ⟨_, rfl⟩
  have hs0 : w0.heap.size = w.heap.size + 1 := by rw [← hw0]; simp
  rw [hw0] at hO hb0
  obtain ⟨w2, hw2⟩ : ∃ W, (w0.alloc (.cells (opC op0) 35)).setRow (w.heap.size + 1) (opC ⟨cl, sq, kd, ob, 0, []⟩) = W := ⟨_, rfl⟩
  have hN : Has (w0.alloc (.cells (opC op0) 35)) (w.heap.size + 1) 35 (opC op0) := hs0 ▸ Has.new w0 35 (opC op0)
  have hB2 : Has w2 (w.heap.size + 1) 35 (opC ⟨cl, sq, kd, ob, 0, []⟩) := hw2 ▸ hN.row _
  have hO2 : Has w2 w.heap.size 35 (opC ⟨cl, sq, kd, ob, ps, da⟩) := hw2 ▸ (hO.alloc _).row_other (by omega) _
  have hb2 : Below w.heap.size w w2 := hw2 ▸ below_setRow (hb0.alloc (by omega) _) (by omega) _
  obtain ⟨w3, hw3⟩ : ∃ W, w2.setCell ⟨w.heap.size + 1, 4, none⟩ (.int .u8 (ps : Int)) = W := ⟨_, rfl⟩
  have hB3 : Has w3 (w.heap.size + 1) 35 (opC ⟨cl, sq, kd, ob, ps, []⟩) := hw3 ▸ hB2.set 4 (.int .u8 (ps : Int))
  have hO3 : Has w3 w.heap.size 35 (opC ⟨cl, sq, kd, ob, ps, da⟩) := hw3 ▸ hO2.set_other (a := ⟨w.heap.size + 1, 4, none⟩) (show w.heap.size ≠ w.heap.size + 1 by omega) _
  have hb3 : Below w.heap.size w w3 := hw3 ▸ hb2.setCell (show w.heap.size ≤ (⟨w.heap.size + 1, 4, none⟩ : Addr).block by show _ ≤ w.heap.size + 1; omega) _
  have k1 : OpOk ⟨cl, sq, kd, ob, 0, []⟩ := ⟨h.client, h.seq, h.kind, h.obj, by show 0 < 256; decide, by show 0 ≤ _; decide⟩
  have k2 : OpOk ⟨cl, sq, kd, ob, ps, []⟩ := ⟨h.client, h.seq, h.kind, h.obj, h.pos, by show 0 ≤ _; decide⟩
  have e1 := eq_op _ _ h k1
  have e2 := eq_op _ _ h k2
  have q1 : Hid _ := same_bare (cl := cl) (sq := sq) (kd := kd) (ob := ob) (p := ps) (d := da) 0
  have q2 : Hid _ := same_bare (cl := cl) (sq := sq) (kd := kd) (ob := ob) (p := ps) (d := da) ps
  obtain ⟨h1, h2, h3, h4, h5, h6⟩ := h
  simp only at h1 h2 h3 h4 h5 h6
  generalize sameOp ⟨cl, sq, kd, ob, ps, da⟩ ⟨cl, sq, kd, ob, 0, []⟩ = s1 at *
  generalize sameOp ⟨cl, sq, kd, ob, ps, da⟩ ⟨cl, sq, kd, ob, ps, []⟩ = s2 at *
  have hs := mkS_size da
  have hd0 : Hid (da = [] ↔ da.length = 0) := List.length_eq_zero_iff.symm
  have c0 : w0.cell? ⟨w.heap.size, 0, none⟩ = some (.int .u8 (cl : Int)) := (hO.cell 0).trans rfl
  have c1 : w0.cell? ⟨w.heap.size, 1, none⟩ = some (.int .u32 (sq : Int)) := (hO.cell 1).trans rfl
  have c2 : w0.cell? ⟨w.heap.size, 2, none⟩ = some (.int .u8 (kd : Int)) := (hO.cell 2).trans rfl
  have c3 : w0.cell? ⟨w.heap.size, 3, none⟩ = some (.int .u8 (ob : Int)) := (hO.cell 3).trans rfl
  have d2 : w2.cell? ⟨w.heap.size, 2, none⟩ = some (.int .u8 (kd : Int)) := (hO2.cell 2).trans rfl
  have d4 : w2.cell? ⟨w.heap.size, 4, none⟩ = some (.int .u8 (ps : Int)) := (hO2.cell 4).trans rfl
  have d5 : w2.cell? ⟨w.heap.size, 5, none⟩ = some (.string (mkS da)) := (hO2.cell 5).trans rfl
  have x4 : w2.cell? ⟨w.heap.size + 1, 4, none⟩ = some (.int .u8 0) := (hB2.cell 4).trans rfl
  have x4f := hB2.free 4
  go_enter Try.func75, Try.ntmps75
  go_wp2_with (first
    | (refine wpList_build_four (by rfl) 35 0 1 2 3 _ _ _ _ rfl (.int .u8 (cl : Int)) (.int .u32 (sq : Int)) (.int .u8 (kd : Int)) (.int .u8 (ob : Int)) rfl rfl rfl rfl (opC ⟨cl, sq, kd, ob, 0, []⟩) (bare_built cl sq kd ob) ?_)
    | (refine wpList_alloc_has (by rfl) 35 rfl (opC op0) op_zero ?_; rw [hs0])
    | (refine wpList_store_to (by rfl) 35 _ _ rfl (w.heap.size + 1) rfl (opC ⟨cl, sq, kd, ob, 0, []⟩) rfl 35 (opC op0) (op_size ⟨cl, sq, kd, ob, 0, []⟩) rfl (op_one ⟨cl, sq, kd, ob, 0, []⟩) ?hg w2 ?hW ?_; (case hg => exact hN); (case hW => exact hw2))
    | (refine wpList_load_has (by rfl) 35 _ rfl w.heap.size rfl 35 (opC ⟨cl, sq, kd, ob, ps, da⟩) _ Try.underlying35 rfl (op_size _) ?hg ?_; (case hg => first | exact hO2 | exact hO3))
    | (refine wpList_load_has (by rfl) 35 _ rfl (w.heap.size + 1) rfl 35 (opC ⟨cl, sq, kd, ob, 0, []⟩) _ Try.underlying35 rfl (op_size _) ?hg ?_; (case hg => exact hB2))
    | (refine wpList_load_has (by rfl) 35 _ rfl (w.heap.size + 1) rfl 35 (opC ⟨cl, sq, kd, ob, ps, []⟩) _ Try.underlying35 rfl (op_size _) ?hg ?_; (case hg => exact hB3))
    | (refine wpList_bin_agg (by rfl) .eql 35 _ _ _ rfl (opC ⟨cl, sq, kd, ob, ps, da⟩) (opC ⟨cl, sq, kd, ob, 0, []⟩) rfl rfl (.bool s1) guard_op ?hg ?_; (case hg => exact e1 _))
    | (refine wpList_bin_agg (by rfl) .eql 35 _ _ _ rfl (opC ⟨cl, sq, kd, ob, ps, da⟩) (opC ⟨cl, sq, kd, ob, ps, []⟩) rfl rfl (.bool s2) guard_op ?hg ?_; (case hg => exact e2 _)))
  all_goals
    go_ret
    refine ⟨retB ?_, by first | exact hb0 | exact hb2 | exact hb3⟩
    replace hm := hm.out
    replace q1 := q1.out
    replace q2 := q2.out
    rw [hd0.out] at hm
    rw [Bool.eq_iff_iff, hm]
    try rw [q1]
    try rw [q2]
    clear q1 q2 hd0
    generalize da.length = n at *
    simp only [bne_iff_ne, bne_eq_false_iff_eq, beq_iff_eq, beq_eq_false_iff_ne, ne_eq, Bool.not_eq_true', Bool.not_eq_false', decide_eq_true_iff, decide_eq_false_iff_not, Bool.false_eq_true, true_and] at *
    try simp
    omega

set_option maxHeartbeats 1000000 in
theorem writes_any (o : OpV) (w : World) (h : OpOk o) :
    Calls Try.prog 65 #[.agg (opC o)] w fun e w' => e = .returned (.bool (writesM o)) ∧ Below w.heap.size w w' := by
  have hO := Has.new w 35 (opC o)
  have hb0 := (Below.refl w.heap.size w).alloc (Nat.le_refl _) (.cells (opC o) 35)
  have hm := writes_is o
  have hk := h.kind
  go_enter Try.func65, Try.ntmps65
  go_wp2_with (first
    | (refine wpList_load_has (by rfl) 35 _ rfl w.heap.size rfl 35 (opC o) _ Try.underlying35 rfl (op_size o) ?hg ?_; (case hg => exact hO)))
  refine (isop_any o _ h).mono ?_
  rintro e w1 ⟨rfl, hq⟩
  replace hO := hO.later hq
  replace hb0 := hb0.trans (hq.mono hb0.size)
  have c2 : w1.cell? ⟨w.heap.size, 2, none⟩ = some (.int .u8 (o.kind : Int)) := (hO.cell 2).trans rfl
  clear hq hO
  cases hi : isOpM o with
  | false =>
    have hr : writesM o = false := by unfold writesM; rw [hi]; rfl
    go_wp2
    go_ret
    exact ⟨by rw [hr]; rfl, hb0⟩
  | true =>
    have hm' : Hid _ := hm
    clear hm
    go_wp2
    go_ret
    refine ⟨retB ?_, hb0⟩
    rw [Bool.eq_iff_iff, hm'.out]
    simp [hi]
    omega
end Go.Proofs.Ytphlfepgaghhhaa
