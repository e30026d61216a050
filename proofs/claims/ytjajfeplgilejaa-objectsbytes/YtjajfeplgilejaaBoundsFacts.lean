/- ObjectsBounds' own operations: what doM makes of them. -/
import Derived.Test.YtjajfeplgilejaaObjFacts
namespace Go.Proofs.Ytjajfeplgilejaa
set_option linter.unusedSimpArgs false
set_option linter.unusedVariables false
open Go.RowKit

theorem change_1 {x : ObjV} {o : OpV} (h : o.kind = 1) : changeM x o = if 16 < o.pos + o.data.length then (x, 2) else ({ x with there := true, data := writeS x.data o.pos o.data }, 0) := by
  unfold changeM
  rw [if_pos h]
theorem change_2 {x : ObjV} {o : OpV} (h : o.kind = 2) : changeM x o = if x.there = false then (x, 1) else if 16 < o.pos then (x, 2) else ({ x with data := fitS o.pos x.data }, 0) := by
  unfold changeM
  rw [if_neg (by omega), if_pos h]
theorem change_3 {x : ObjV} {o : OpV} (h : o.kind = 3) : changeM x o = if 3 ≤ o.pos then (x, 3) else if x.there = false then (x, 1) else (x.setAttr o.pos o.data, 0) := by
  unfold changeM
  rw [if_neg (by omega), if_neg (by omega), if_pos h]
theorem change_4 {x : ObjV} {o : OpV} (h : o.kind = 4) : changeM x o = if x.there = false then (x, 1) else (obj0, 0) := by
  unfold changeM
  rw [if_neg (by omega), if_neg (by omega), if_neg (by omega)]

def opAB : OpV := ⟨1, 1, 1, 0, 0, [97, 98]⟩
theorem opAB_ok : OpOk opAB := ⟨by decide, by decide, by decide, by decide, by decide, by decide⟩
def bAB : BaseV := (doM base0 opAB).1
theorem bAB_ok : BaseOk bAB := (do_ok base0_ok opAB_ok).1
theorem bAB_obj : bAB.obj 0 = ⟨true, [97, 98], [], [], []⟩ := by kernel_rfl
theorem bAB_last : (bAB.last 0).seq = 1 := by kernel_rfl

def opW (p n : Nat) : OpV := ⟨1, 2, 1, 0, p, List.replicate n 0⟩
def opT (p : Nat) : OpV := ⟨1, 2, 2, 0, p, []⟩

theorem opW_writes {p n : Nat} (hn : n ≤ 16) : writesM (opW p n) = true := by
  rw [writes_is, isOp_is]
  simp [opW, hn]
theorem opT_writes (p : Nat) : writesM (opT p) = true := by
  rw [writes_is, isOp_is]
  simp [opT]
theorem bAB_objOf {o : OpV} (h : o.obj = 0) : objOf bAB o = ⟨true, [97, 98], [], [], []⟩ := by
  rw [objOf_at (0 : Fin 6) (by rw [h]; rfl), bAB_obj]
theorem bAB_new {o : OpV} (hw : writesM o = true) (hc : o.client = 1) (hs : o.seq = 2) : ¬ (seenM bAB o).2 = true := by
  rw [seen_is hw, lastOf_at (0 : Fin 3) (by rw [hc]; rfl), bAB_last, hs]
  omega

/-- What is new: told, kept as the client's last one, and the object as it was changed. -/
theorem do_at {b : BaseV} {o : OpV} (hw : writesM o = true) (hs : ¬ (seenM b o).2 = true) (i : Fin 6) (hi : i.val = o.obj) (j : Fin 3) (hj : j.val = o.client - 1) :
    (doM b o).2 = ⟨(changeM (b.obj i) o).2, []⟩ ∧ (doM b o).1.obj i = (changeM (b.obj i) o).1 ∧ (doM b o).1.last j = ⟨o.seq, ⟨(changeM (b.obj i) o).2, []⟩⟩ := by
  rw [do_new hw hs, objOf_at i hi]
  refine ⟨rfl, ?_, ?_⟩
  · show (putLast _ _ _).obj i = _
    rw [putLast_obj, putObj_at _ _ _ _ hi]
  · show (putLast _ _ _).last j = _
    rw [putLast_at _ _ _ _ hj]

theorem write_long {p n : Nat} (hn : n ≤ 16) (h : 16 < p + n) :
    (doM bAB (opW p n)).2 = ⟨2, []⟩ ∧ (doM bAB (opW p n)).1.obj = bAB.obj ∧ (doM bAB (opW p n)).1.last 0 = ⟨2, ⟨2, []⟩⟩ := by
  have hw := opW_writes (p := p) hn
  have hd := do_at hw (bAB_new hw rfl rfl) 0 rfl 0 rfl
  have hch : changeM (bAB.obj 0) (opW p n) = (bAB.obj 0, 2) := by
    rw [change_1 rfl, if_pos (by show 16 < p + (List.replicate n (0 : UInt8)).length; rw [List.length_replicate]; exact h)]
  rw [hch] at hd
  exact ⟨hd.1, do_code (by rw [hd.1]; decide), hd.2.2⟩
theorem write_fits {p n : Nat} (hn : n ≤ 16) (h : p + n ≤ 16) :
    (doM bAB (opW p n)).2 = ⟨0, []⟩ ∧ ((doM bAB (opW p n)).1.obj 0).data.length = max 2 (p + n) := by
  have hw := opW_writes (p := p) hn
  have hd := do_at hw (bAB_new hw rfl rfl) 0 rfl 0 rfl
  have hch : changeM (bAB.obj 0) (opW p n) = ({ bAB.obj 0 with there := true, data := writeS (bAB.obj 0).data p (List.replicate n 0) }, 0) := by
    rw [change_1 rfl, if_neg (by show ¬ 16 < p + (List.replicate n (0 : UInt8)).length; rw [List.length_replicate]; omega)]
    rfl
  rw [hch] at hd
  refine ⟨hd.1, ?_⟩
  rw [hd.2.1]
  show (writeS _ _ _).length = _
  rw [writeS_len, bAB_obj, List.length_replicate]
  rfl
theorem trunc_long {p : Nat} (h : 16 < p) :
    (doM bAB (opT p)).2 = ⟨2, []⟩ ∧ (doM bAB (opT p)).1.obj = bAB.obj ∧ (doM bAB (opT p)).1.last 0 = ⟨2, ⟨2, []⟩⟩ := by
  have hw := opT_writes p
  have hd := do_at hw (bAB_new hw rfl rfl) 0 rfl 0 rfl
  have hch : changeM (bAB.obj 0) (opT p) = (bAB.obj 0, 2) := by
    rw [change_2 rfl, bAB_obj, if_neg (by decide)]
    exact if_pos h
  rw [hch] at hd
  exact ⟨hd.1, do_code (by rw [hd.1]; decide), hd.2.2⟩
theorem trunc_fits {p : Nat} (h : p ≤ 16) :
    (doM bAB (opT p)).2 = ⟨0, []⟩ ∧ ((doM bAB (opT p)).1.obj 0).data.length = p := by
  have hw := opT_writes p
  have hd := do_at hw (bAB_new hw rfl rfl) 0 rfl 0 rfl
  have hch : changeM (bAB.obj 0) (opT p) = ({ bAB.obj 0 with data := fitS p (bAB.obj 0).data }, 0) := by
    rw [change_2 rfl, bAB_obj, if_neg (by decide), if_neg (by show ¬ 16 < p; omega)]
    rfl
  rw [hch] at hd
  refine ⟨hd.1, ?_⟩
  rw [hd.2.1]
  exact fitS_len _ _
end Go.Proofs.Ytjajfeplgilejaa
