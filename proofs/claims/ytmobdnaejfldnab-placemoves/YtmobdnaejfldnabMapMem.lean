/- Maps and increments in variables: the laws of Mem at this seat's types. -/
import Derived.Test.YtmobdnaejfldnabChecked
import Derived.Test.YtmobdnaejfldnabMapMath
import Derived.WalkKit
import Derived.WalkSpells
import Derived.WalkLawsBesides
namespace Go.Proofs.Ytmobdnaejfldnab
set_option linter.unusedSimpArgs false
set_option linter.unusedVariables false
open Go.RowKit

theorem map_size (m : MapV) : (Try.prog.info? 28).map (·.size) = some (mapC m).size := by
  rw [mapC_size]
  kernel_rfl
theorem map_zero : (Try.prog.info? 28).map (·.zero) = some (some (.agg (mapC zeroM))) := by kernel_rfl
theorem map_built : Try.prog.built 28 [] = some (mapC zeroM) := by kernel_rfl
section laws
variable {ops : Array Oper} {rest : List Oper} {o : Oper} {a : Act} {w : World} {Q : Exit → Act → World → Prop}

theorem load_map (m : MapV) (hw : Region.wanted o (yielded ops a.tmps) = true) (x : Operand) (ho : o.op = .load 28 x) (g : Nat) (hx : a.eval x = .pointer (some ⟨g, 0, none⟩))
    (hg : Has w g 28 (mapC m)) (h : wpList Try.prog ops Q rest (a.put o.dst (.agg (mapC m))) w) : wpList Try.prog ops Q (o :: rest) a w :=
  wpList_load_has hw 28 x ho g hx 28 (mapC m) _ Try.underlying28 rfl (map_size m) hg h

theorem store_map (m old : MapV) (hw : Region.wanted o (yielded ops a.tmps) = true) (x y : Operand) (ho : o.op = .store 28 x y) (g : Nat) (hx : a.eval x = .pointer (some ⟨g, 0, none⟩)) (hy : a.eval y = .agg (mapC m))
    (hg : Has w g 28 (mapC old)) (h : wpList Try.prog ops Q rest (a.put o.dst undef) (w.setRow g (mapC m))) : wpList Try.prog ops Q (o :: rest) a w :=
  wpList_store_has hw 28 x y ho g hx (mapC m) hy 28 (mapC old) (map_size m) (by rw [mapC_size, mapC_size]) (mapC_one m) hg h

theorem alloc_map (hw : Region.wanted o (yielded ops a.tmps) = true) (ho : o.op = .alloc 28)
    (h : wpList Try.prog ops Q rest (a.put o.dst (.pointer (some ⟨w.heap.size, 0, none⟩))) (w.alloc (.cells (mapC zeroM) 28))) : wpList Try.prog ops Q (o :: rest) a w :=
  wpList_alloc_has hw 28 ho (mapC zeroM) map_zero h

theorem build_map0 (hw : Region.wanted o (yielded ops a.tmps) = true) (ho : o.op = .build 28 #[])
    (h : wpList Try.prog ops Q rest (a.put o.dst (.agg (mapC zeroM))) w) : wpList Try.prog ops Q (o :: rest) a w :=
  wpList_build_has hw 28 #[] ho (mapC zeroM) (by simpa using map_built) h

theorem ret_map_tmp (m : MapV) {fn : Func} {R : Ending → World → Prop} {p u : Tmp} (h : fn.results = #[.cell p 28, .tmp u]) (g : Nat) (hp : a.tmps.getD p undef = .pointer (some ⟨g, 0, none⟩))
    (hg : Has w g 28 (mapC m)) (hdf : a.defers = []) (hR : R (.returned (.tuple #[.agg (mapC m), a.tmps.getD u undef])) w) : bodyPost Try.prog fn R .ret a w :=
  ret_has_tmp h g hp 28 (mapC m) _ Try.underlying28 rfl (map_size m) hg hdf hR

theorem ret_map (m : MapV) {fn : Func} {R : Ending → World → Prop} {p : Tmp} (h : fn.results = #[.cell p 28]) (g : Nat) (hp : a.tmps.getD p undef = .pointer (some ⟨g, 0, none⟩))
    (hg : Has w g 28 (mapC m)) (hdf : a.defers = []) (hR : R (.returned (.agg (mapC m))) w) : bodyPost Try.prog fn R .ret a w :=
  ret_has h g hp 28 (mapC m) _ Try.underlying28 rfl (map_size m) hg hdf hR
end laws
end Go.Proofs.Ytmobdnaejfldnab
