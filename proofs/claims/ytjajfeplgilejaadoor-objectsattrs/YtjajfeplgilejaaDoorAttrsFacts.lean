/- ObjectsAttrs' own operations: what doM and readM make of them. -/
import Derived.Test.YtjajfeplgilejaaDoorBoundsFacts
namespace Go.Proofs.YtjajfeplgilejaaDoor
set_option linter.unusedSimpArgs false
set_option linter.unusedVariables false
open Go.RowKit

def op3 (n k p : Nat) (d : List UInt8) : OpV := ⟨1, n, k, 3, p, d⟩

structure At3 (b : BaseV) (n : Nat) (x : ObjV) : Prop where
  obj : b.obj 3 = x
  last : (b.last 0).seq ≤ n

theorem at3_zero : At3 base0 0 obj0 := ⟨rfl, Nat.le_refl _⟩
theorem op3_writes {n k p : Nat} {d : List UInt8} (hn : 1 ≤ n) (hw : isOpM (op3 n k p d) = true) (hk : k ≠ 5) : writesM (op3 n k p d) = true := (writes_is _).2 ⟨hw, hk⟩
theorem At3.do {b : BaseV} {n k p : Nat} {d : List UInt8} {x : ObjV} (h : At3 b n x) (hw : writesM (op3 (n + 1) k p d) = true) :
    (doM b (op3 (n + 1) k p d)).2 = ⟨(changeM x (op3 (n + 1) k p d)).2, []⟩ ∧ At3 (doM b (op3 (n + 1) k p d)).1 (n + 1) (changeM x (op3 (n + 1) k p d)).1 := by
  have hn : ¬ (seenM b (op3 (n + 1) k p d)).2 = true := by
    rw [seen_is hw, lastOf_at (0 : Fin 3) rfl]
    have := h.last
    show ¬ n + 1 ≤ _
    omega
  have hd := do_at hw hn 3 rfl 0 rfl
  rw [h.obj] at hd
  exact ⟨hd.1, hd.2.1, by rw [hd.2.2]; exact Nat.le_refl _⟩

theorem op3_attr {n p : Nat} {d : List UInt8} (hn : 1 ≤ n) (hd : d.length ≤ 16) : writesM (op3 n 3 p d) = true := by
  rw [writes_is, isOp_is]
  simp [op3, hn, hd]
theorem op3_write {n p : Nat} {d : List UInt8} (hn : 1 ≤ n) (hd : d.length ≤ 16) : writesM (op3 n 1 p d) = true := by
  rw [writes_is, isOp_is]
  simp [op3, hn, hd]
theorem op3_delete {n : Nat} (hn : 1 ≤ n) : writesM (op3 n 4 0 []) = true := by
  rw [writes_is, isOp_is]
  simp [op3, hn]

def objQ : ObjV := ⟨true, [113], [], [], []⟩
theorem setAttr_twice (x : ObjV) (k : Nat) (a b : List UInt8) : (x.setAttr k a).setAttr k b = x.setAttr k b := by
  unfold ObjV.setAttr
  repeat' split
  all_goals rfl
theorem setAttr_there (x : ObjV) (k : Nat) (a : List UInt8) : (x.setAttr k a).there = x.there := by
  unfold ObjV.setAttr
  repeat' split
  all_goals rfl
theorem setAttr_at (x : ObjV) (k : Nat) (a : List UInt8) : (x.setAttr k a).attr k = a := by
  unfold ObjV.setAttr ObjV.attr
  repeat' split
  all_goals first | rfl | (exfalso; omega)

/-- The first row of operations. -/
theorem attrs_first {i : Nat} {a b : List UInt8} (hi : i < 3) (ha : a.length ≤ 16) (hb : b.length ≤ 16) :
    ∃ X r1 r3, allM base0 [op3 1 3 i a, op3 2 1 0 [113], op3 3 3 i a, op3 4 3 i b] = (X, [⟨1, []⟩, r1, ⟨0, []⟩, r3]) ∧ At3 X 4 (objQ.setAttr i b) := by
  have h1 := at3_zero.do (k := 3) (p := i) (d := a) (op3_attr (by omega) ha)
  rw [change_3 rfl, if_neg (by show ¬ 3 ≤ i; omega), if_pos (show obj0.there = false from rfl)] at h1
  have h2 := h1.2.do (k := 1) (p := 0) (d := [113]) (op3_write (by omega) (by decide))
  rw [change_1 rfl, if_neg (by show ¬ 16 < 0 + 1; decide)] at h2
  have h2' : At3 (doM (doM base0 (op3 1 3 i a)).1 (op3 2 1 0 [113])).1 2 objQ := h2.2
  have h3 := h2'.do (k := 3) (p := i) (d := a) (op3_attr (by omega) ha)
  rw [change_3 rfl, if_neg (by show ¬ 3 ≤ i; omega), if_neg (by decide)] at h3
  have h4 := h3.2.do (k := 3) (p := i) (d := b) (op3_attr (by omega) hb)
  rw [change_3 rfl, if_neg (by show ¬ 3 ≤ i; omega), if_neg (by show ¬ (objQ.setAttr i a).there = false; rw [setAttr_there]; decide)] at h4
  have e1 : (doM base0 (op3 1 3 i a)).2 = ⟨1, []⟩ := h1.1
  have e3 : (doM (doM (doM base0 (op3 1 3 i a)).1 (op3 2 1 0 [113])).1 (op3 3 3 i a)).2 = ⟨0, []⟩ := h3.1
  have e4 : At3 _ 4 ((objQ.setAttr i a).setAttr i b) := h4.2
  rw [setAttr_twice] at e4
  refine ⟨_, (doM (doM base0 (op3 1 3 i a)).1 (op3 2 1 0 [113])).2, (doM (doM (doM (doM base0 (op3 1 3 i a)).1 (op3 2 1 0 [113])).1 (op3 3 3 i a)).1 (op3 4 3 i b)).2, ?_, e4⟩
  rw [← e1, ← e3]
  rfl

/-- The second row: deleted, and written anew. -/
theorem attrs_then {X : BaseV} {x : ObjV} (h : At3 X 4 x) (hx : x.there = true) :
    ∃ Y r1, allM X [op3 5 4 0 [], op3 6 1 0 [122]] = (Y, [⟨0, []⟩, r1]) ∧ At3 Y 6 ⟨true, [122], [], [], []⟩ := by
  have h1 := h.do (k := 4) (p := 0) (d := []) (op3_delete (by omega))
  rw [change_4 rfl, if_neg (by rw [hx]; decide)] at h1
  have h2 := h1.2.do (k := 1) (p := 0) (d := [122]) (op3_write (by omega) (by decide))
  rw [change_1 rfl, if_neg (by show ¬ 16 < 0 + 1; decide)] at h2
  have e : (doM X (op3 5 4 0 [])).2 = ⟨0, []⟩ := h1.1
  refine ⟨_, (doM (doM X (op3 5 4 0 [])).1 (op3 6 1 0 [122])).2, ?_, h2.2⟩
  rw [all_two, e]

def opR3 : OpV := ⟨2, 1, 5, 3, 0, []⟩
theorem opR3_is : isOpM opR3 = true := by rw [isOp_is]; simp [opR3]
theorem read_at3 {b : BaseV} {n : Nat} {x : ObjV} (h : At3 b n x) (hx : x.there = true) : readM b opR3 = ⟨0, x.data ++ attrS 0 x.a0 ++ attrS 1 x.a1 ++ attrS 2 x.a2⟩ := by
  unfold readM
  rw [if_pos ⟨opR3_is, rfl⟩, objOf_at (3 : Fin 6) rfl, h.obj, if_pos hx]
theorem attrs_read {b : BaseV} {n i : Nat} {v : List UInt8} (hi : i < 3) (h : At3 b n (objQ.setAttr i v)) : readM b opR3 = ⟨0, [113] ++ attrS i v⟩ := by
  rw [read_at3 h (by rw [setAttr_there]; rfl)]
  have h3 : i = 0 ∨ i = 1 ∨ i = 2 := by omega
  rcases h3 with rfl | rfl | rfl
  all_goals simp [ObjV.setAttr, objQ, attrS]
end Go.Proofs.YtjajfeplgilejaaDoor
