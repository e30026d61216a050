/- A proposer of package synod in memory, cell by cell. -/
import Derived.Test.YthpmkhbkbpifkaaProSpec
import Derived.Test.YthpmkhbkbpifkaaVal32
namespace Go.Proofs.Ythpmkhbkbpifkaa
set_option linter.unusedSimpArgs false
set_option linter.unusedVariables false
set_option maxRecDepth 100000
open Go.RowKit

structure LanV where
  who : Nat
  want : IncV
  b : BalV
  phase : Nat
  heard : Nat → Bool
  acc : BalV
  bound : IncV
  isB : Bool
  value : IncV
  isV : Bool
  dec : IncV
  isD : Bool

def b3L (f : Nat → Bool) : Array Value := #[.bool (f 0), .bool (f 1), .bool (f 2)]
def choC (x : IncV) (b : Bool) : Array Value := #[.int .u8 x.kind, .int .u8 x.osd, .int .i64 x.n, .bool b]
def rndC (v : LanV) : Array Value := #[.int .u8 v.phase, .bool (v.heard 0), .bool (v.heard 1), .bool (v.heard 2), .int .u32 v.acc.n, .int .u8 v.acc.who,
  .int .u8 v.bound.kind, .int .u8 v.bound.osd, .int .i64 v.bound.n, .bool v.isB, .int .u8 v.value.kind, .int .u8 v.value.osd, .int .i64 v.value.n, .bool v.isV]
def lanC (v : LanV) : Array Value := #[.int .u8 v.who, .int .u8 v.want.kind, .int .u8 v.want.osd, .int .i64 v.want.n, .int .u32 v.b.n, .int .u8 v.b.who,
  .int .u8 v.phase, .bool (v.heard 0), .bool (v.heard 1), .bool (v.heard 2), .int .u32 v.acc.n, .int .u8 v.acc.who,
  .int .u8 v.bound.kind, .int .u8 v.bound.osd, .int .i64 v.bound.n, .bool v.isB, .int .u8 v.value.kind, .int .u8 v.value.osd, .int .i64 v.value.n, .bool v.isV,
  .int .u8 v.dec.kind, .int .u8 v.dec.osd, .int .i64 v.dec.n, .bool v.isD]

theorem cho_size (x : IncV) (b : Bool) : (Try.prog.info? 66).map (·.size) = some (choC x b).size := by show _ = some 4; kernel_rfl
theorem cho_one (x : IncV) (b : Bool) : (choC x b).all (·.oneCell') = true := by simp [choC, Value.oneCell']
theorem cho_zero : (Try.prog.info? 66).map (·.zero) = some (some (.agg (choC inc0 false))) := by kernel_rfl
theorem cho_built (x : IncV) : Try.prog.built 66 [(0, .agg (incC x)), (1, .bool true)] = some (choC x true) := by kernel_rfl
theorem b3L_size (f : Nat → Bool) : (Try.prog.info? 32).map (·.size) = some (b3L f).size := by show _ = some 3; kernel_rfl
theorem b3L_one (f : Nat → Bool) : (b3L f).all (·.oneCell') = true := by simp [b3L, Value.oneCell']
theorem b3L_built0 : Try.prog.built 32 [] = some (b3L none3) := by kernel_rfl
theorem rnd_size (v : LanV) : (Try.prog.info? 68).map (·.size) = some (rndC v).size := by show _ = some 14; kernel_rfl
theorem rnd_one (v : LanV) : (rndC v).all (·.oneCell') = true := by simp [rndC, Value.oneCell']
/-- A round that begins. -/
def fresh (who : Nat) (x : IncV) (b : BalV) (n : Nat) (d : IncV) (h : Bool) : LanV := ⟨who, x, b, n, none3, bal0, inc0, false, inc0, false, d, h⟩
theorem rnd_built (who : Nat) (x : IncV) (b : BalV) (d : IncV) (h : Bool) : Try.prog.built 68 [(0, .int .u8 1)] = some (rndC (fresh who x b 1 d h)) := by kernel_rfl
theorem pro_new (k : Nat) (x : IncV) : Try.prog.built 70 [(0, .int .u8 (k : Int)), (1, .agg (incC x))] = some (lanC (fresh k x bal0 0 inc0 false)) := by kernel_rfl

theorem lan_who {w : World} {g : Nat} {t : TypeId} {v : LanV} (h : Has w g t (lanC v)) : w.cell? ⟨g, 0, none⟩ = some (.int .u8 v.who) := h.cell 0
theorem lan_bn {w : World} {g : Nat} {t : TypeId} {v : LanV} (h : Has w g t (lanC v)) : w.cell? ⟨g, 4, none⟩ = some (.int .u32 v.b.n) := h.cell 4
theorem lan_phase {w : World} {g : Nat} {t : TypeId} {v : LanV} (h : Has w g t (lanC v)) : w.cell? ⟨g, 6, none⟩ = some (.int .u8 v.phase) := h.cell 6
theorem lan_isB {w : World} {g : Nat} {t : TypeId} {v : LanV} (h : Has w g t (lanC v)) : w.cell? ⟨g, 15, none⟩ = some (.bool v.isB) := h.cell 15
theorem lan_heard {w : World} {g : Nat} {t : TypeId} {v : LanV} (h : Has w g t (lanC v)) (j : Nat) (hj : j < 3) : w.cell? ⟨g, 7 + j, none⟩ = some (.bool (v.heard j)) := by
  have := h.cell (7 + j)
  match j, hj with
  | 0, _ => exact this
  | 1, _ => exact this
  | 2, _ => exact this
theorem lan_want {w : World} {g : Nat} {t : TypeId} {v : LanV} (h : Has w g t (lanC v)) : w.rangeAt g 1 (incC v.want).toList := h.range 1 _ fun j u hj => by
  match j, hj with
  | 0, hj => exact hj
  | 1, hj => exact hj
  | 2, hj => exact hj
theorem lan_b {w : World} {g : Nat} {t : TypeId} {v : LanV} (h : Has w g t (lanC v)) : w.rangeAt g 4 (balC v.b).toList := h.range 4 _ fun j u hj => by
  match j, hj with
  | 0, hj => exact hj
  | 1, hj => exact hj
theorem lan_hears {w : World} {g : Nat} {t : TypeId} {v : LanV} (h : Has w g t (lanC v)) : w.rangeAt g 7 (b3L v.heard).toList := h.range 7 _ fun j u hj => by
  match j, hj with
  | 0, hj => exact hj
  | 1, hj => exact hj
  | 2, hj => exact hj
theorem lan_acc {w : World} {g : Nat} {t : TypeId} {v : LanV} (h : Has w g t (lanC v)) : w.rangeAt g 10 (balC v.acc).toList := h.range 10 _ fun j u hj => by
  match j, hj with
  | 0, hj => exact hj
  | 1, hj => exact hj
theorem lan_bound {w : World} {g : Nat} {t : TypeId} {v : LanV} (h : Has w g t (lanC v)) : w.rangeAt g 12 (choC v.bound v.isB).toList := h.range 12 _ fun j u hj => by
  match j, hj with
  | 0, hj => exact hj
  | 1, hj => exact hj
  | 2, hj => exact hj
  | 3, hj => exact hj
theorem lan_value {w : World} {g : Nat} {t : TypeId} {v : LanV} (h : Has w g t (lanC v)) : w.rangeAt g 16 (choC v.value v.isV).toList := h.range 16 _ fun j u hj => by
  match j, hj with
  | 0, hj => exact hj
  | 1, hj => exact hj
  | 2, hj => exact hj
  | 3, hj => exact hj
theorem lan_dec {w : World} {g : Nat} {t : TypeId} {v : LanV} (h : Has w g t (lanC v)) : w.rangeAt g 20 (choC v.dec v.isD).toList := h.range 20 _ fun j u hj => by
  match j, hj with
  | 0, hj => exact hj
  | 1, hj => exact hj
  | 2, hj => exact hj
  | 3, hj => exact hj
theorem Has.lan_setHeard {w : World} {g : Nat} {t : TypeId} {v : LanV} (h : Has w g t (lanC v)) (j : Nat) (hj : j < 3) : Has (w.setCell ⟨g, 7 + j, none⟩ (.bool true)) g t (lanC { v with heard := setB v.heard j }) := by
  have := h.set (7 + j) (.bool true)
  match j, hj with
  | 0, _ => exact this
  | 1, _ => exact this
  | 2, _ => exact this
theorem Has.lan_setPhase {w : World} {g : Nat} {t : TypeId} {v : LanV} (h : Has w g t (lanC v)) (n : Nat) : Has (w.setCell ⟨g, 6, none⟩ (.int .u8 (n : Int))) g t (lanC { v with phase := n }) := h.set 6 (.int .u8 (n : Int))
theorem Has.lan_setB {w : World} {g : Nat} {t : TypeId} {v : LanV} (h : Has w g t (lanC v)) (b : BalV) : Has (w.setCells g 4 (balC b).toList) g t (lanC { v with b := b }) := h.set2 4 (.int .u32 b.n) (.int .u8 b.who)
theorem Has.lan_setHears {w : World} {g : Nat} {t : TypeId} {v : LanV} (h : Has w g t (lanC v)) (f : Nat → Bool) : Has (w.setCells g 7 (b3L f).toList) g t (lanC { v with heard := f }) := h.set3 7 (.bool (f 0)) (.bool (f 1)) (.bool (f 2))
theorem Has.lan_setAcc {w : World} {g : Nat} {t : TypeId} {v : LanV} (h : Has w g t (lanC v)) (b : BalV) : Has (w.setCells g 10 (balC b).toList) g t (lanC { v with acc := b }) := h.set2 10 (.int .u32 b.n) (.int .u8 b.who)
theorem Has.lan_setBound {w : World} {g : Nat} {t : TypeId} {v : LanV} (h : Has w g t (lanC v)) (x : IncV) (b : Bool) : Has (w.setCells g 12 (choC x b).toList) g t (lanC { v with bound := x, isB := b }) := (h.set3 12 (.int .u8 x.kind) (.int .u8 x.osd) (.int .i64 x.n)).set 15 (.bool b)
theorem Has.lan_setValue {w : World} {g : Nat} {t : TypeId} {v : LanV} (h : Has w g t (lanC v)) (x : IncV) (b : Bool) : Has (w.setCells g 16 (choC x b).toList) g t (lanC { v with value := x, isV := b }) := (h.set3 16 (.int .u8 x.kind) (.int .u8 x.osd) (.int .i64 x.n)).set 19 (.bool b)
theorem Has.lan_setDec {w : World} {g : Nat} {t : TypeId} {v : LanV} (h : Has w g t (lanC v)) (x : IncV) (b : Bool) : Has (w.setCells g 20 (choC x b).toList) g t (lanC { v with dec := x, isD := b }) := (h.set3 20 (.int .u8 x.kind) (.int .u8 x.osd) (.int .i64 x.n)).set 23 (.bool b)
theorem Has.lan_setNow {w : World} {g : Nat} {t : TypeId} {v : LanV} (h : Has w g t (lanC v)) (u : LanV) : Has (w.setCells g 6 (rndC u).toList) g t (lanC ⟨v.who, v.want, v.b, u.phase, u.heard, u.acc, u.bound, u.isB, u.value, u.isV, v.dec, v.isD⟩) := by
  have h5 := ((((h.lan_setPhase u.phase).lan_setHears u.heard).lan_setAcc u.acc).lan_setBound u.bound u.isB).lan_setValue u.value u.isV
  have e : (((((w.setCell ⟨g, 6, none⟩ (.int .u8 (u.phase : Int))).setCells g 7 (b3L u.heard).toList).setCells g 10 (balC u.acc).toList).setCells g 12 (choC u.bound u.isB).toList).setCells g 16 (choC u.value u.isV).toList) = w.setCells g 6 (rndC u).toList := by
    simp only [b3L, balC, choC, rndC, World.setCells]
  rw [← e]
  exact h5
theorem lan_there {w : World} {g : Nat} {t : TypeId} {v : LanV} (h : Has w g t (lanC v)) (o n : Nat) (hn : o + n ≤ 24) : w.there g o n := h.there o n (by show o + n ≤ 24; exact hn)

section laws
variable {ops : Array Oper} {rest : List Oper} {o : Oper} {a : Act} {w : World} {Q : Exit → Act → World → Prop} {S : World → Prop}
theorem load_cho (x : IncV) (b : Bool) (hw : Region.wanted o (yielded ops a.tmps) = true) (y : Operand) (ho : o.op = .load 66 y) (g k : Nat) (hx : a.eval y = .pointer (some ⟨g, k, none⟩))
    (hg : w.rangeAt g k (choC x b).toList) (h : wpList Try.prog ops Q rest (a.put o.dst (.agg (choC x b))) w) : wpList Try.prog ops Q (o :: rest) a w :=
  wpList_load_mid' hw 66 y ho g k hx (choC x b).toList _ hg Try.underlying66 rfl (cho_size x b) h
theorem alloc_cho (hw : Region.wanted o (yielded ops a.tmps) = true) (ho : o.op = .alloc 66)
    (h : wpList Try.prog ops Q rest (a.put o.dst (.pointer (some ⟨w.heap.size, 0, none⟩))) (w.alloc (.cells (choC inc0 false) 66))) : wpList Try.prog ops Q (o :: rest) a w :=
  wpList_alloc_has hw 66 ho (choC inc0 false) cho_zero h
end laws
end Go.Proofs.Ythpmkhbkbpifkaa
