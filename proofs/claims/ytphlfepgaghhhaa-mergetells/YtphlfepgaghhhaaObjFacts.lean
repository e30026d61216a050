/- What doM and seenM make of bases: what is done twice is done once, elder ones are refused, what is touched, either order. -/
import Derived.Test.YtphlfepgaghhhaaObjSpec
namespace Go.Proofs.Ytphlfepgaghhhaa
set_option linter.unusedSimpArgs false
set_option linter.unusedVariables false
open Go.RowKit

theorem last_putLast (b : BaseV) (o : OpV) (l : LastV) (h : o.client - 1 < 3) : lastOf (putLast b o l) o = l := by
  unfold lastOf putLast
  rw [dif_pos h, dif_pos h]
  show (if _ = _ then l else _) = l
  rw [if_pos rfl]
theorem seen_is {b : BaseV} {o : OpV} (h : writesM o = true) : (seenM b o).2 = true ↔ o.seq ≤ (lastOf b o).seq := by
  unfold seenM
  rw [if_pos h]
  split
  · simp; omega
  · split
    · simp; omega
    · simp; omega

theorem do_bad {b : BaseV} {o : OpV} (h : writesM o = false) : doM b o = (b, ⟨3, []⟩) := by
  unfold doM
  rw [h]; rfl
theorem do_seen {b : BaseV} {o : OpV} (h : writesM o = true) (hs : (seenM b o).2 = true) : doM b o = (b, (seenM b o).1) := by
  unfold doM
  rw [if_pos h, if_pos hs]
theorem do_new {b : BaseV} {o : OpV} (h : writesM o = true) (hs : ¬ (seenM b o).2 = true) :
    doM b o = (putLast (putObj b o (changeM (objOf b o) o).1) o ⟨o.seq, ⟨(changeM (objOf b o) o).2, []⟩⟩, ⟨(changeM (objOf b o) o).2, []⟩) := by
  unfold doM
  rw [if_pos h, if_neg hs]

/-- P6.4: behind Do, Seen tells the result. -/
theorem seen_do {b : BaseV} {o : OpV} (h : writesM o = true) : seenM (doM b o).1 o = ((doM b o).2, true) := by
  obtain ⟨h1, h2, _⟩ := writes_client h
  by_cases hs : (seenM b o).2 = true
  · rw [do_seen h hs]
    exact Prod.ext rfl hs
  · rw [do_new h hs]
    unfold seenM
    rw [if_pos h, last_putLast _ _ _ (by omega), if_neg (by show ¬ o.seq < o.seq; omega), if_pos rfl]
/-- P6.4: what is done twice is done once. -/
theorem do_twice {b : BaseV} {o : OpV} (h : writesM o = true) : doM (doM b o).1 o = doM b o := by
  have hs := seen_do (b := b) h
  rw [do_seen h (by rw [hs]), hs]

theorem do_last {b : BaseV} {o : OpV} (h : writesM o = true) : o.seq ≤ (lastOf (doM b o).1 o).seq := by
  have hs := seen_do (b := b) h
  exact (seen_is h).1 (by rw [hs])
theorem seen_elder {b : BaseV} {o : OpV} (h : writesM o = true) (hl : o.seq < (lastOf b o).seq) : seenM b o = (⟨3, []⟩, true) := by
  unfold seenM
  rw [if_pos h, if_neg (by omega), if_neg (by omega)]
theorem do_elder {b : BaseV} {o : OpV} (h : writesM o = true) (hl : o.seq < (lastOf b o).seq) : doM b o = (b, ⟨3, []⟩) := by
  have hs := seen_elder h hl
  rw [do_seen h (by rw [hs]), hs]

theorem isOp_seq {o : OpV} (n : Nat) (hn : 1 ≤ n) (h : isOpM o = true) : isOpM { o with seq := n } = true := by
  rw [isOp_is] at *
  simpa [hn] using ⟨h.1, h.2.1, h.2.2.2⟩
theorem writes_seq {o : OpV} (n : Nat) (hn : 1 ≤ n) (h : writesM o = true) : writesM { o with seq := n } = true := by
  rw [writes_is] at *
  exact ⟨isOp_seq n hn h.1, h.2⟩
/-- Behind a later one the elder one is refused. -/
theorem do_later {c : BaseV} {o : OpV} (h : writesM o = true) : doM (doM c { o with seq := o.seq + 1 }).1 o = ((doM c { o with seq := o.seq + 1 }).1, ⟨3, []⟩) := by
  have hl := do_last (b := c) (writes_seq (o.seq + 1) (by omega) h)
  exact do_elder h (by
    have : lastOf (doM c { o with seq := o.seq + 1 }).1 o = lastOf (doM c { o with seq := o.seq + 1 }).1 { o with seq := o.seq + 1 } := rfl
    rw [this]
    have : ({ o with seq := o.seq + 1 } : OpV).seq = o.seq + 1 := rfl
    omega)

/-- What isn't done changes no object. -/
theorem change_not {x : ObjV} {o : OpV} (h : (changeM x o).2 ≠ 0) : (changeM x o).1 = x := by
  revert h
  unfold changeM
  repeat' split
  all_goals simp

theorem putObj_last (b : BaseV) (o : OpV) (x : ObjV) : (putObj b o x).last = b.last := by
  unfold putObj
  split <;> rfl
theorem putLast_obj (b : BaseV) (o : OpV) (l : LastV) : (putLast b o l).obj = b.obj := by
  unfold putLast
  split <;> rfl
theorem putObj_other (b : BaseV) (o : OpV) (x : ObjV) (i : Fin 6) (h : i.val ≠ o.obj) : (putObj b o x).obj i = b.obj i := by
  unfold putObj
  split
  · show (if i = _ then x else b.obj i) = _
    rw [if_neg (fun e => h (by rw [e]))]
  · rfl
theorem putLast_other (b : BaseV) (o : OpV) (l : LastV) (i : Fin 3) (h : i.val ≠ o.client - 1) : (putLast b o l).last i = b.last i := by
  unfold putLast
  split
  · show (if i = _ then l else b.last i) = _
    rw [if_neg (fun e => h (by rw [e]))]
  · rfl
theorem putObj_same (b : BaseV) (o : OpV) : putObj b o (objOf b o) = b := by
  unfold putObj objOf
  split
  · show BaseV.mk (fun j => if j = _ then _ else b.obj j) b.last = b
    congr 1
    funext j
    split
    · rename_i e; rw [e]
    · rfl
  · rfl

theorem do_obj_other {b : BaseV} {o : OpV} (i : Fin 6) (h : i.val ≠ o.obj) : (doM b o).1.obj i = b.obj i := by
  unfold doM
  repeat' split
  · rfl
  · show (putLast _ _ _).obj i = _
    rw [putLast_obj, putObj_other _ _ _ _ h]
  · rfl
theorem do_last_other {b : BaseV} {o : OpV} (i : Fin 3) (h : i.val ≠ o.client - 1) : (doM b o).1.last i = b.last i := by
  unfold doM
  repeat' split
  · rfl
  · show (putLast _ _ _).last i = _
    rw [putLast_other _ _ _ _ h, putObj_last]
  · rfl
/-- Done, or no object has changed. -/
theorem do_code {b : BaseV} {o : OpV} (h : (doM b o).2.code ≠ 0) : (doM b o).1.obj = b.obj := by
  revert h
  unfold doM
  split
  · split
    · exact fun _ => rfl
    · intro h
      have h : (changeM (objOf b o) o).2 ≠ 0 := h
      show (putLast _ _ _).obj = _
      rw [putLast_obj, change_not h, putObj_same]
  · exact fun _ => rfl

theorem objOf_do {s : BaseV} {a b : OpV} (h : a.obj ≠ b.obj) : objOf (doM s a).1 b = objOf s b := by
  unfold objOf
  split
  · exact do_obj_other _ (fun e => h e.symm)
  · rfl
theorem lastOf_do {s : BaseV} {a b : OpV} (h : a.client - 1 ≠ b.client - 1) : lastOf (doM s a).1 b = lastOf s b := by
  unfold lastOf
  split
  · exact do_last_other _ (fun e => h e.symm)
  · rfl
theorem seen_do_other {s : BaseV} {a b : OpV} (h : a.client - 1 ≠ b.client - 1) : seenM (doM s a).1 b = seenM s b := by
  unfold seenM
  rw [lastOf_do h]

theorem objOf_at {b : BaseV} {o : OpV} (i : Fin 6) (h : i.val = o.obj) : objOf b o = b.obj i := by
  unfold objOf
  rw [dif_pos (by omega)]
  exact congrArg b.obj (Fin.ext h.symm)
theorem lastOf_at {b : BaseV} {o : OpV} (i : Fin 3) (h : i.val = o.client - 1) : lastOf b o = b.last i := by
  unfold lastOf
  rw [dif_pos (by omega)]
  exact congrArg b.last (Fin.ext h.symm)
theorem putObj_at (b : BaseV) (o : OpV) (x : ObjV) (i : Fin 6) (h : i.val = o.obj) : (putObj b o x).obj i = x := by
  unfold putObj
  rw [dif_pos (by omega)]
  show (if i = _ then x else b.obj i) = _
  rw [if_pos (Fin.ext h)]
theorem putLast_at (b : BaseV) (o : OpV) (l : LastV) (i : Fin 3) (h : i.val = o.client - 1) : (putLast b o l).last i = l := by
  unfold putLast
  rw [dif_pos (by omega)]
  show (if i = _ then l else b.last i) = _
  rw [if_pos (Fin.ext h)]

/-- Do looks at its object and its client's last one alone. -/
theorem do_congr {s t : BaseV} {o : OpV} (ho : objOf s o = objOf t o) (hl : lastOf s o = lastOf t o) :
    (doM s o).2 = (doM t o).2 ∧ (∀ i : Fin 6, i.val = o.obj → (doM s o).1.obj i = (doM t o).1.obj i) ∧ (∀ i : Fin 3, i.val = o.client - 1 → (doM s o).1.last i = (doM t o).1.last i) := by
  have hs : seenM s o = seenM t o := by unfold seenM; rw [hl]
  have ho' : ∀ i : Fin 6, i.val = o.obj → s.obj i = t.obj i := fun i h => by rw [← objOf_at i h, ← objOf_at i h, ho]
  have hl' : ∀ i : Fin 3, i.val = o.client - 1 → s.last i = t.last i := fun i h => by rw [← lastOf_at i h, ← lastOf_at i h, hl]
  cases hw : writesM o with
  | false =>
    rw [do_bad hw, do_bad hw]
    exact ⟨rfl, ho', hl'⟩
  | true =>
    by_cases hq : (seenM s o).2 = true
    · rw [do_seen hw hq, do_seen hw (hs ▸ hq), hs]
      exact ⟨rfl, ho', hl'⟩
    · rw [do_new hw hq, do_new hw (hs ▸ hq), ho]
      refine ⟨rfl, fun i h => ?_, fun i h => ?_⟩
      · show (putLast _ _ _).obj i = (putLast _ _ _).obj i
        rw [putLast_obj, putLast_obj, putObj_at _ _ _ _ h, putObj_at _ _ _ _ h]
      · show (putLast _ _ _).last i = (putLast _ _ _).last i
        rw [putLast_at _ _ _ _ h, putLast_at _ _ _ _ h]

theorem base_ext {a b : BaseV} (h1 : ∀ i, a.obj i = b.obj i) (h2 : ∀ i, a.last i = b.last i) : a = b := by
  cases a; cases b
  congr
  · exact funext h1
  · exact funext h2

/-- Unlike clients on unlike objects: either order. -/
theorem do_either (s : BaseV) {a b : OpV} (hc : a.client - 1 ≠ b.client - 1) (ho : a.obj ≠ b.obj) :
    (doM (doM s a).1 b).1 = (doM (doM s b).1 a).1 ∧ (doM (doM s a).1 b).2 = (doM s b).2 ∧ (doM (doM s b).1 a).2 = (doM s a).2 := by
  have hB := do_congr (o := b) (objOf_do (s := s) ho) (lastOf_do (s := s) hc)
  have hA := do_congr (o := a) (objOf_do (s := s) ho.symm) (lastOf_do (s := s) hc.symm)
  refine ⟨base_ext (fun i => ?_) (fun i => ?_), hB.1, hA.1⟩
  · by_cases h1 : i.val = a.obj
    · rw [do_obj_other (b := (doM s a).1) (o := b) i (by omega), hA.2.1 i h1]
    · rw [do_obj_other (b := (doM s b).1) (o := a) i h1]
      by_cases h2 : i.val = b.obj
      · rw [hB.2.1 i h2]
      · rw [do_obj_other _ h2, do_obj_other _ h1, do_obj_other _ h2]
  · by_cases h1 : i.val = a.client - 1
    · rw [do_last_other (b := (doM s a).1) (o := b) i (by omega), hA.2.2 i h1]
    · rw [do_last_other (b := (doM s b).1) (o := a) i h1]
      by_cases h2 : i.val = b.client - 1
      · rw [hB.2.2 i h2]
      · rw [do_last_other _ h2, do_last_other _ h1, do_last_other _ h2]

theorem all_two (s : BaseV) (a b : OpV) : allM s [a, b] = ((doM (doM s a).1 b).1, [(doM s a).2, (doM (doM s a).1 b).2]) := rfl
theorem all_snoc (s : BaseV) (l : List OpV) (o : OpV) : allM s (l ++ [o]) = ((doM (allM s l).1 o).1, (allM s l).2 ++ [(doM (allM s l).1 o).2]) := by
  unfold allM
  rw [List.foldl_append]
  rfl
theorem snoc_ind {α : Type} {P : List α → Prop} (h0 : P []) (h1 : ∀ l o, P l → P (l ++ [o])) (l : List α) : P l := by
  rw [← List.reverse_reverse l]
  induction l.reverse with
  | nil => exact h0
  | cons o l ih => rw [List.reverse_cons]; exact h1 _ _ ih
theorem all_len (s : BaseV) (l : List OpV) : (allM s l).2.length = l.length := by
  induction l using snoc_ind with
  | h0 => rfl
  | h1 l o ih => rw [all_snoc, List.length_append, List.length_append, ih]; rfl
theorem all_ok {s : BaseV} (h : BaseOk s) (l : List OpV) (hl : ∀ o ∈ l, OpOk o) : BaseOk (allM s l).1 := by
  induction l using snoc_ind with
  | h0 => exact h
  | h1 l o ih =>
    rw [all_snoc]
    exact (do_ok (ih (fun p hp => hl p (List.mem_append.2 (.inl hp)))) (hl o (by simp))).1
end Go.Proofs.Ytphlfepgaghhhaa
