/- Maps and increments in variables: the laws of Mem at this seat's types. -/
import Derived.Test.YtmfgmdglpeadbaaChecked
import Derived.Test.YtmfgmdglpeadbaaMapMath
import Derived.WalkKit
import Derived.WalkSpells
import Derived.WalkLawsBesides
namespace Go.Proofs.Ytmfgmdglpeadbaa
set_option linter.unusedSimpArgs false
set_option linter.unusedVariables false
open Go.RowKit

theorem map_size (m : MapV) : (Try.prog.info? 44).map (·.size) = some (mapC m).size := by
  rw [mapC_size]
  kernel_rfl
theorem map_zero : (Try.prog.info? 44).map (·.zero) = some (some (.agg (mapC zeroM))) := by kernel_rfl
theorem map_built : Try.prog.built 44 [] = some (mapC zeroM) := by kernel_rfl
theorem inc_size (x : IncV) : (Try.prog.info? 32).map (·.size) = some (incC x).size := by
  show _ = some 3
  kernel_rfl

theorem inc_zero : (Try.prog.info? 32).map (·.zero) = some (some (.agg (incC ⟨0, 0, 0⟩))) := by kernel_rfl
theorem inc_one (x : IncV) : (incC x).all (·.oneCell') = true := by
  unfold incC
  simp [Value.oneCell']

section laws
variable {ops : Array Oper} {rest : List Oper} {o : Oper} {a : Act} {w : World} {Q : Exit → Act → World → Prop}

theorem load_map (m : MapV) (hw : Region.wanted o (yielded ops a.tmps) = true) (x : Operand) (ho : o.op = .load 44 x) (g : Nat) (hx : a.eval x = .pointer (some ⟨g, 0, none⟩))
    (hg : Has w g 44 (mapC m)) (h : wpList Try.prog ops Q rest (a.put o.dst (.agg (mapC m))) w) : wpList Try.prog ops Q (o :: rest) a w :=
  wpList_load_has hw 44 x ho g hx 44 (mapC m) _ Try.underlying44 rfl (map_size m) hg h

theorem store_map (m old : MapV) (hw : Region.wanted o (yielded ops a.tmps) = true) (x y : Operand) (ho : o.op = .store 44 x y) (g : Nat) (hx : a.eval x = .pointer (some ⟨g, 0, none⟩)) (hy : a.eval y = .agg (mapC m))
    (hg : Has w g 44 (mapC old)) (h : wpList Try.prog ops Q rest (a.put o.dst undef) (w.setRow g (mapC m))) : wpList Try.prog ops Q (o :: rest) a w :=
  wpList_store_has hw 44 x y ho g hx (mapC m) hy 44 (mapC old) (map_size m) (by rw [mapC_size, mapC_size]) (mapC_one m) hg h

theorem alloc_map (hw : Region.wanted o (yielded ops a.tmps) = true) (ho : o.op = .alloc 44)
    (h : wpList Try.prog ops Q rest (a.put o.dst (.pointer (some ⟨w.heap.size, 0, none⟩))) (w.alloc (.cells (mapC zeroM) 44))) : wpList Try.prog ops Q (o :: rest) a w :=
  wpList_alloc_has hw 44 ho (mapC zeroM) map_zero h

theorem build_map0 (hw : Region.wanted o (yielded ops a.tmps) = true) (ho : o.op = .build 44 #[])
    (h : wpList Try.prog ops Q rest (a.put o.dst (.agg (mapC zeroM))) w) : wpList Try.prog ops Q (o :: rest) a w :=
  wpList_build_has hw 44 #[] ho (mapC zeroM) (by simpa using map_built) h

theorem load_inc (y : IncV) (hw : Region.wanted o (yielded ops a.tmps) = true) (x : Operand) (ho : o.op = .load 32 x) (g : Nat) (hx : a.eval x = .pointer (some ⟨g, 0, none⟩))
    (hg : Has w g 32 (incC y)) (h : wpList Try.prog ops Q rest (a.put o.dst (.agg (incC y))) w) : wpList Try.prog ops Q (o :: rest) a w :=
  wpList_load_has hw 32 x ho g hx 32 (incC y) _ Try.underlying32 rfl (inc_size y) hg h

theorem store_inc (y old : IncV) (hw : Region.wanted o (yielded ops a.tmps) = true) (x z : Operand) (ho : o.op = .store 32 x z) (g : Nat) (hx : a.eval x = .pointer (some ⟨g, 0, none⟩)) (hy : a.eval z = .agg (incC y))
    (hg : Has w g 32 (incC old)) (h : wpList Try.prog ops Q rest (a.put o.dst undef) (w.setRow g (incC y))) : wpList Try.prog ops Q (o :: rest) a w :=
  wpList_store_has hw 32 x z ho g hx (incC y) hy 32 (incC old) (inc_size y) rfl (inc_one y) hg h

theorem alloc_inc (hw : Region.wanted o (yielded ops a.tmps) = true) (ho : o.op = .alloc 32)
    (h : wpList Try.prog ops Q rest (a.put o.dst (.pointer (some ⟨w.heap.size, 0, none⟩))) (w.alloc (.cells (incC ⟨0, 0, 0⟩) 32))) : wpList Try.prog ops Q (o :: rest) a w :=
  wpList_alloc_has hw 32 ho (incC ⟨0, 0, 0⟩) inc_zero h

theorem ret_map_tmp (m : MapV) {fn : Func} {R : Ending → World → Prop} {p u : Tmp} (h : fn.results = #[.cell p 44, .tmp u]) (g : Nat) (hp : a.tmps.getD p undef = .pointer (some ⟨g, 0, none⟩))
    (hg : Has w g 44 (mapC m)) (hdf : a.defers = []) (hR : R (.returned (.tuple #[.agg (mapC m), a.tmps.getD u undef])) w) : bodyPost Try.prog fn R .ret a w :=
  ret_has_tmp h g hp 44 (mapC m) _ Try.underlying44 rfl (map_size m) hg hdf hR

theorem ret_map (m : MapV) {fn : Func} {R : Ending → World → Prop} {p : Tmp} (h : fn.results = #[.cell p 44]) (g : Nat) (hp : a.tmps.getD p undef = .pointer (some ⟨g, 0, none⟩))
    (hg : Has w g 44 (mapC m)) (hdf : a.defers = []) (hR : R (.returned (.agg (mapC m))) w) : bodyPost Try.prog fn R .ret a w :=
  ret_has h g hp 44 (mapC m) _ Try.underlying44 rfl (map_size m) hg hdf hR
end laws
end Go.Proofs.Ytmfgmdglpeadbaa
