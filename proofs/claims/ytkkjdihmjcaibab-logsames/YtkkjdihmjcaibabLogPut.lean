/- One cell of a state turned; a log of one's own, one cell of it turned. -/
import Derived.Test.YtkkjdihmjcaibabAddFacts
import Derived.Laws.OwnMore
namespace Go.Proofs.Ytkkjdihmjcaibab
set_option linter.unusedSimpArgs false
set_option linter.unusedVariables false
set_option maxRecDepth 100000
open Go.RowKit

theorem stC_log (s : StV) (l : List EntV) (h : l.length = s.log.length) (ao : Option Addr) (c : Nat) : stC (withLog s l) ao c = stC s ao c := by
  unfold stC stL withLog
  rw [h]
theorem st_set0 (s : StV) (ao : Option Addr) (c n : Nat) : (stC s ao c).setIfInBounds 0 (.int .u32 (n : Int)) = stC ⟨n, s.base, s.tail, s.log⟩ ao c := by kernel_rfl
theorem st_set41 (s : StV) (ao : Option Addr) (c n : Nat) : (stC s ao c).setIfInBounds 41 (.int .u32 (n : Int)) = stC ⟨s.started, s.base, ⟨s.tail.since, n, s.tail.op⟩, s.log⟩ ao c := by kernel_rfl
theorem st_set16 (s : StV) (ao : Option Addr) (c : Nat) (b : Bool) : (stC s ao c).setIfInBounds 16 (.bool b) = stC ⟨s.started, s.base.setObj 3 ⟨b, (s.base.obj 3).data, (s.base.obj 3).a0, (s.base.obj 3).a1, (s.base.obj 3).a2⟩, s.tail, s.log⟩ ao c := by kernel_rfl
theorem st_set34 (s : StV) (ao : Option Addr) (c n : Nat) : (stC s ao c).setIfInBounds 34 (.int .u32 (n : Int)) = stC ⟨s.started, s.base.setLast 1 ⟨n, (s.base.last 1).r⟩, s.tail, s.log⟩ ao c := by kernel_rfl
theorem st_put6 (s : StV) (ao : Option Addr) (c : Nat) (x : ObjV) : (putAt (stL s ao c) 6 (objL x)).toArray = stC ⟨s.started, s.base.setObj 1 x, s.tail, s.log⟩ ao c := by kernel_rfl
theorem st_get16 (s : StV) (ao : Option Addr) (c : Nat) : (stC s ao c)[16]? = some (.bool (s.base.obj 3).there) := by kernel_rfl
theorem st_get34 (s : StV) (ao : Option Addr) (c : Nat) : (stC s ao c)[34]? = some (.int .u32 ((s.base.last 1).seq : Int)) := by kernel_rfl

theorem ent_info40 : ∃ i, Try.prog.info? 39 = some i ∧ i.zero = some (.agg (entC ent0)) ∧ i.size = 8 ∧ i.bytes = 40 := by
  have h : (Try.prog.info? 39).map (fun i => (i.zero, i.size, i.bytes)) = some (some (.agg (entC ent0)), 8, 40) := by kernel_rfl
  cases hi : Try.prog.info? 39 with
  | none => rw [hi] at h; cases h
  | some i =>
    rw [hi] at h
    simp only [Option.map_some, Option.some.injEq, Prod.mk.injEq] at h
    exact ⟨i, rfl, h.1, h.2.1, h.2.2⟩

/-- The difference of two numbers of 64 bits, the first the greater. -/
theorem run_sub_i64' {P : Program} {o : Oper} {ev : Operand → Value} (ty ty' : TypeId) (x y : Operand) (ho : o.op = .binOp .sub ty x y ty') (n m k : Nat) (hx : ev x = .int .i64 (n : Int)) (hy : ev y = .int .i64 (m : Int)) (hk : n = m + k) (hl : k < 4294967296) (w : World) :
    (execOp ev o).run P w = .ok (.value (.int .i64 (k : Int))) w := by
  subst hk
  have h4 : IntKind.i64.wrap (((m + k : Nat) : Int) - (m : Int)) = (k : Int) := by
    rw [show ((m + k : Nat) : Int) - (m : Int) = (k : Int) by omega]
    exact i64_small k hl
  unfold execOp
  simp only [ho, hx, hy]
  simp only [Sem.run_bind, go_sem, h4]
  simp [go_sem, h4]

/-- A log of one's own. -/
theorem ents_own {w : World} {base n : Nat} {v : Value} {l : List EntV} (h : w.ownsRow base 39 8 v n (entF l)) (hn : 0 < l.length) : n = l.length ∧ ∃ g cap, v = .slice (some ⟨g, 0, none⟩) l.length cap ∧ base ≤ g ∧ g < w.heap.size ∧ Sl w (some ⟨g, 0, none⟩) cap 8 (entR l) := by
  have hl : n = l.length := by have := h.1; rw [entF_len] at this; omega
  subst hl
  refine ⟨rfl, ?_⟩
  rcases h.2 with ⟨hv, h0⟩ | ⟨g, cap, cur, hv, hg, hc, hle, hm, hcur⟩
  · omega
  · refine ⟨g, cap, hv, hg, (Array.getElem?_eq_some_iff.1 hc).1, ⟨by rw [entR_len]; omega, Nat.le_trans hm (by unfold maxLen; omega), (fun h => by cases h), entR_each l, fun ad had i hi j hj => ?_⟩⟩
    obtain rfl := Option.some.inj had
    have hf := flatten_at (entR l) (entR_each l) i hi j hj
    have hl3 := entR_each l _ (List.getElem_mem hi)
    rw [List.getElem?_eq_getElem (show j < ((entR l)[i]).length by omega)] at hf ⊢
    exact h.cells (g := g) (by rw [hv]; rfl) _ _ hf
/-- One cell of the last entry turned. -/
theorem entF_set (l : List EntV) (x y : EntV) (j : Nat) (v : Value) (h : (entL x).set j v = entL y) : (entF (l ++ [x])).set (l.length * 8 + j) v = entF (l ++ [y]) := by
  rw [entF_app, entF_app]
  have e : ∀ z : EntV, entF [z] = entL z := fun z => by unfold entF entR; simp
  rw [e, e, ← h, List.set_append_right _ _ (by rw [entF_len]; omega), entF_len, show l.length * 8 + j - l.length * 8 = j by omega]
theorem entF_last (l : List EntV) (x : EntV) (j : Nat) : (entF (l ++ [x]))[l.length * 8 + j]? = (entL x)[j]? := by
  rw [entF_app, List.getElem?_append_right (by rw [entF_len]; omega), entF_len, show l.length * 8 + j - l.length * 8 = j by omega]
  have e : entF [x] = entL x := by unfold entF entR; simp
  rw [e]
end Go.Proofs.Ytkkjdihmjcaibab
