/- Three increments side by side, as an array. -/
import Derived.Test.YthpmkhbkbpifkaaBalMem
namespace Go.Proofs.Ythpmkhbkbpifkaa
set_option linter.unusedSimpArgs false
set_option linter.unusedVariables false
set_option maxRecDepth 100000
open Go.RowKit

def inc9 (x y z : IncV) : Array Value := #[.int .u8 x.kind, .int .u8 x.osd, .int .i64 x.n, .int .u8 y.kind, .int .u8 y.osd, .int .i64 y.n, .int .u8 z.kind, .int .u8 z.osd, .int .i64 z.n]
theorem inc9_size (x y z : IncV) : (Try.prog.info? 44).map (·.size) = some (inc9 x y z).size := by show _ = some 9; kernel_rfl
theorem inc9_one (x y z : IncV) : (inc9 x y z).all (·.oneCell') = true := by simp [inc9, Value.oneCell']
theorem inc_b3' (k o : Nat) (n : Int) : Try.prog.built 23 [(0, .int .u8 (k : Int)), (1, .int .u8 (o : Int)), (2, .int .i64 n)] = some (incC ⟨k, o, n⟩) := by kernel_rfl
theorem wpList_build_33 {P : Program} {ops : Array Oper} {rest : List Oper} {o : Oper} {a : Act} {w : World} {Q : Exit → Act → World → Prop} (hw : Region.wanted o (yielded ops a.tmps) = true) (t : TypeId) (i j k : Nat) (x y z : Operand) (ho : o.op = .build t #[(i, x), (j, y), (k, z)]) (u v s : Value) (hx : a.eval x = u) (hy : a.eval y = v) (hz : a.eval z = s) (c : Array Value) (hf : P.built t [(i, u), (j, v), (k, s)] = some c)
    (h : wpList P ops Q rest (a.put o.dst (.agg c)) w) : wpList P ops Q (o :: rest) a w :=
  wpList_build_has hw t _ ho c (by simpa [hx, hy, hz] using hf) h
theorem inc9_0 {w : World} {g : Nat} {t : TypeId} {x y z : IncV} (h : Has w g t (inc9 x y z)) : w.rangeAt g 0 (incC x).toList := h.range 0 _ fun j u hj => by
  match j, hj with
  | 0, hj => exact hj
  | 1, hj => exact hj
  | 2, hj => exact hj
theorem inc9_1 {w : World} {g : Nat} {t : TypeId} {x y z : IncV} (h : Has w g t (inc9 x y z)) : w.rangeAt g 3 (incC y).toList := h.range 3 _ fun j u hj => by
  match j, hj with
  | 0, hj => exact hj
  | 1, hj => exact hj
  | 2, hj => exact hj
theorem inc9_2 {w : World} {g : Nat} {t : TypeId} {x y z : IncV} (h : Has w g t (inc9 x y z)) : w.rangeAt g 6 (incC z).toList := h.range 6 _ fun j u hj => by
  match j, hj with
  | 0, hj => exact hj
  | 1, hj => exact hj
  | 2, hj => exact hj
theorem inc9_o0 {w : World} {g : Nat} {t : TypeId} {x y z : IncV} (h : Has w g t (inc9 x y z)) : w.cell? ⟨g, 1, none⟩ = some (.int .u8 x.osd) := h.cell 1
theorem inc9_o1 {w : World} {g : Nat} {t : TypeId} {x y z : IncV} (h : Has w g t (inc9 x y z)) : w.cell? ⟨g, 4, none⟩ = some (.int .u8 y.osd) := h.cell 4
theorem inc9_o2 {w : World} {g : Nat} {t : TypeId} {x y z : IncV} (h : Has w g t (inc9 x y z)) : w.cell? ⟨g, 7, none⟩ = some (.int .u8 z.osd) := h.cell 7
theorem Has.inc9_set0 {w : World} {g : Nat} {t : TypeId} {x y z : IncV} (h : Has w g t (inc9 x y z)) (u : IncV) : Has (w.setCells g 0 (incC u).toList) g t (inc9 u y z) := h.set3 0 (.int .u8 u.kind) (.int .u8 u.osd) (.int .i64 u.n)
theorem Has.inc9_set1 {w : World} {g : Nat} {t : TypeId} {x y z : IncV} (h : Has w g t (inc9 x y z)) (u : IncV) : Has (w.setCells g 3 (incC u).toList) g t (inc9 x u z) := h.set3 3 (.int .u8 u.kind) (.int .u8 u.osd) (.int .i64 u.n)
theorem Has.inc9_set2 {w : World} {g : Nat} {t : TypeId} {x y z : IncV} (h : Has w g t (inc9 x y z)) (u : IncV) : Has (w.setCells g 6 (incC u).toList) g t (inc9 x y u) := h.set3 6 (.int .u8 u.kind) (.int .u8 u.osd) (.int .i64 u.n)
theorem inc9_there {w : World} {g : Nat} {t : TypeId} {x y z : IncV} (h : Has w g t (inc9 x y z)) (o n : Nat) (hn : o + n ≤ 9) : w.there g o n := h.there o n (by show o + n ≤ 9; exact hn)
theorem w3_ok {o : Nat} {n : Int} (ho : o < 5) (h0 : 0 ≤ n) (h3 : n < 3) : IncOk ⟨3, o, n⟩ := ⟨by show 3 < 256; decide, by show o < 256; omega, by show (-9223372036854775808 : Int) ≤ n; omega, by show n ≤ 9223372036854775807; omega⟩
end Go.Proofs.Ythpmkhbkbpifkaa
