/- paddocklaw6.known returns true, where package objects answers as it has to. -/
import Derived.Test.YtjajfeplgilejaaObjSpec
namespace Go.Proofs.Ytjajfeplgilejaa
set_option linter.unusedSimpArgs false
set_option linter.unusedVariables false
set_option maxRecDepth 100000
open Go.RowKit

def op1 : OpV := ⟨1, 1, 1, 0, 1, [97, 98]⟩
def op2 : OpV := ⟨2, 1, 4, 3, 0, []⟩
theorem op1_ok : OpOk op1 := ⟨by decide, by decide, by decide, by decide, by decide, by decide⟩
theorem op2_ok : OpOk op2 := ⟨by decide, by decide, by decide, by decide, by decide, by decide⟩
theorem op1_built : Try.prog.built 42 [(0, .int .u8 1), (1, .int .u32 1), (2, .int .u8 1), (4, .int .u8 1), (5, .string (ByteArray.mk #[97, 98]))] = some (opC op1) := by kernel_rfl
theorem op2_built : Try.prog.built 42 [(0, .int .u8 2), (1, .int .u32 1), (2, .int .u8 4), (3, .int .u8 3)] = some (opC op2) := by kernel_rfl
def b1 : BaseV := (doM base0 op1).1
theorem do1_res : (doM base0 op1).2 = ⟨0, []⟩ := by kernel_rfl
theorem do2_res : (doM b1 op2).2 = ⟨1, []⟩ := by kernel_rfl
theorem b1_0 : (baseC b1)[0]? = some (.bool true) := by kernel_rfl
theorem b1_1 : (baseC b1)[1]? = some (.string (ByteArray.mk #[0, 97, 98])) := by kernel_rfl
theorem b1_30 : (baseC b1)[30]? = some (.int .u32 1) := by kernel_rfl

/-- A whole row into its variable; the world behind it has a name. -/
theorem wpList_store_to {P : Program} {ops : Array Oper} {rest : List Oper} {o : Oper} {a : Act} {w : World} {Q : Exit → Act → World → Prop} (hw : Region.wanted o (yielded ops a.tmps) = true) (ty : TypeId) (x y : Operand) (ho : o.op = .store ty x y) (g : Nat) (hx : a.eval x = .pointer (some ⟨g, 0, none⟩))
    (c : Array Value) (hy : a.eval y = .agg c) (t : TypeId) (old : Array Value) (hi : (P.info? ty).map (·.size) = some c.size) (hs : old.size = c.size) (h1 : c.all (·.oneCell') = true)
    (hg : Has w g t old) (W : World) (hW : w.setRow g c = W) (h : wpList P ops Q rest (a.put o.dst undef) W) : wpList P ops Q (o :: rest) a w :=
  wpList_store_has hw ty x y ho g hx c hy t old hi hs h1 hg (hW ▸ h)

set_option maxHeartbeats 2000000 in
theorem oknown_any (S : ObjSpec) (w : World) : Calls Try.prog 7 #[] w fun e w' => e = .returned (.bool true) ∧ Below w.heap.size w w' := by
  go_enter Try.func7, Try.ntmps7
  go_wp2_with (first
    | (refine wpList_build_has (by rfl) 35 #[] rfl (baseC base0) (by simpa using base_built) ?_)
    | (refine wpList_build_has (by rfl) 42 _ rfl (opC op1) (by simpa using op1_built) ?_))
  refine (S.do' base0 op1 _ base0_ok op1_ok).mono ?_
  rintro e w1 ⟨rfl, hq⟩
  rw [do1_res]
  have hB : Has ((((w1.alloc (.cells (baseC base0) 35)).alloc (.cells (resC res0) 30)).setRow w1.heap.size (baseC b1)).setRow (w1.heap.size + 1) (resC ⟨0, []⟩)) w1.heap.size 35 (baseC b1) := (((Has.new w1 35 (baseC base0)).alloc _).row _).row_other (by omega) _
  have hR0 : Has (((w1.alloc (.cells (baseC base0) 35)).alloc (.cells (resC res0) 30)).setRow w1.heap.size (baseC b1)) (w1.heap.size + 1) 30 (resC res0) := by
    have := (Has.new (w1.alloc (.cells (baseC base0) 35)) 30 (resC res0)).row_other (k := w1.heap.size) (by simp) (baseC b1)
    simpa using this
  have hR := hR0.row (resC ⟨0, []⟩)
  have hbb : Below w1.heap.size w1 ((((w1.alloc (.cells (baseC base0) 35)).alloc (.cells (resC res0) 30)).setRow w1.heap.size (baseC b1)).setRow (w1.heap.size + 1) (resC ⟨0, []⟩)) := below_setRow (below_setRow (((Below.refl _ _).alloc (Nat.le_refl _) _).alloc (by simp) _) (Nat.le_refl _) _) (by omega) _
  have hb := hq.trans (hbb.mono hq.size)
  clear hq hbb
  have hd : (doM base0 op1).1 = b1 := rfl
  rw [hd]
  go_wp2_with (first
    | (refine wpList_alloc_has (by rfl) 35 rfl (baseC base0) base_zero ?_)
    | (refine wpList_alloc_has (by rfl) 30 rfl (resC res0) res_zero ?_; rw [alloc_size])
    | (refine wpList_store_has (by rfl) 35 _ _ rfl w1.heap.size rfl (baseC b1) rfl 35 (baseC base0) (base_size _) rfl (base_one _) ?hg ?_; (case hg => exact (Has.new _ _ _).alloc _))
    | (refine wpList_store_has (by rfl) 30 _ _ rfl (w1.heap.size + 1) rfl (resC ⟨0, []⟩) rfl 30 (resC res0) (res_size _) rfl (res_one _) ?hg ?_; (case hg => exact hR0))
    | (refine wpList_load_has (by rfl) 35 _ rfl w1.heap.size rfl 35 (baseC b1) _ Try.underlying35 rfl (base_size _) ?hg ?_; (case hg => exact hB))
    | (refine wpList_build_has (by rfl) 42 _ rfl (opC op2) (by simpa using op2_built) ?_))
  refine (S.do' b1 op2 _ (do_ok base0_ok op1_ok).1 op2_ok).mono ?_
  rintro e w2 ⟨rfl, hq⟩
  rw [do2_res]
  have hB2 := hB.later hq
  have hR2 := hR.later hq
  have hb2 : Below w.heap.size w w2 := hb.trans (hq.mono hb.size)
  generalize (doM b1 op2).1 = b2
  clear hB hR0 hR hq hb hd
  generalize w1.heap.size = g1 at *
  have hw0 : Has (((w2.alloc (.cells (baseC base0) 35)).alloc (.cells (resC res0) 30)).setRow w2.heap.size (baseC b2)) (w2.heap.size + 1) 30 (resC res0) := by
    have := (Has.new (w2.alloc (.cells (baseC base0) 35)) 30 (resC res0)).row_other (k := w2.heap.size) (by simp) (baseC b2)
    simpa using this
  have hbb : Below w2.heap.size w2 ((((w2.alloc (.cells (baseC base0) 35)).alloc (.cells (resC res0) 30)).setRow w2.heap.size (baseC b2)).setRow (w2.heap.size + 1) (resC ⟨1, []⟩)) := below_setRow (below_setRow (((Below.refl _ _).alloc (Nat.le_refl _) _).alloc (by simp) _) (Nat.le_refl _) _) (by omega) _
  have hB3 := hB2.later hbb
  have hR3 := hR2.later hbb
  have hT3 := hw0.row (resC ⟨1, []⟩)
  have hb3 := hb2.trans (hbb.mono hb2.size)
  clear hB2 hR2 hbb hb2
  have c0 := (hB3.cell 0).trans b1_0
  have c1 := (hB3.cell 1).trans b1_1
  have c30 := (hB3.cell 30).trans b1_30
  have cr : _ = some (Value.int .u8 0) := hR3.cell 0
  have ct : _ = some (Value.int .u8 1) := hT3.cell 0
  clear hB3 hR3 hT3
  obtain ⟨w3, hw3⟩ : ∃ W, (((w2.alloc (.cells (baseC base0) 35)).alloc (.cells (resC res0) 30)).setRow w2.heap.size (baseC b2)).setRow (w2.heap.size + 1) (resC ⟨1, []⟩) = W := ⟨_, rfl⟩
  rw [hw3] at c0 c1 c30 cr ct hb3
  go_wp2_with (first
    | (refine wpList_alloc_has (by rfl) 35 rfl (baseC base0) base_zero ?_)
    | (refine wpList_alloc_has (by rfl) 30 rfl (resC res0) res_zero ?_; rw [alloc_size])
    | (refine wpList_store_has (by rfl) 35 _ _ rfl w2.heap.size rfl (baseC b2) rfl 35 (baseC base0) (base_size _) rfl (base_one _) ?hg ?_; (case hg => exact (Has.new _ _ _).alloc _))
    | (refine wpList_store_to (by rfl) 30 _ _ rfl (w2.heap.size + 1) rfl (resC ⟨1, []⟩) rfl 30 (resC res0) (res_size _) rfl (res_one _) ?hg w3 ?hW ?_; (case hg => exact hw0); (case hW => exact hw3); clear hw0 hw3))
  go_ret
  exact ⟨rfl, hb3⟩
end Go.Proofs.Ytjajfeplgilejaa
