/- States and entries in variables: the laws of Mem at this seat's types; slices of entries, cut. -/
import Derived.Test.YtphlfepgaghhhaaLogFacts
import Derived.Test.YtphlfepgaghhhaaSliceOf
import Derived.Test.YtphlfepgaghhhaaPart
import Derived.Test.YtphlfepgaghhhaaPlanMem
import Derived.Test.YtphlfepgaghhhaaObjKnown
import Derived.Test.YtphlfepgaghhhaaResRow
namespace Go.Proofs.Ytphlfepgaghhhaa
set_option linter.unusedSimpArgs false
set_option linter.unusedVariables false
set_option maxRecDepth 100000
open Go.RowKit

theorem ent_size (e : EntV) : (Try.prog.info? 37).map (·.size) = some (entC e).size := by show _ = some 8; kernel_rfl
theorem st_size (s : StV) (ao : Option Addr) (c : Nat) : (Try.prog.info? 40).map (·.size) = some (stC s ao c).size := by show _ = some 49; kernel_rfl
theorem st_same (s t : StV) (ao bo : Option Addr) (c d : Nat) : (stC s ao c).size = (stC t bo d).size := rfl
theorem ent_zero : (Try.prog.info? 37).map (·.zero) = some (some (.agg (entC ent0))) := by kernel_rfl
theorem st_zero : (Try.prog.info? 40).map (·.zero) = some (some (.agg (stC st0 none 0))) := by kernel_rfl
theorem ent_built0 : Try.prog.built 37 [] = some (entC ent0) := by kernel_rfl
theorem st_built0 : Try.prog.built 40 [] = some (stC st0 none 0) := by kernel_rfl
theorem pos_built (a b : Nat) : Try.prog.built 37 [(0, .int .u32 (a : Int)), (1, .int .u32 (b : Int))] = some (entC ⟨a, b, op0⟩) := by kernel_rfl
theorem ent_built (a b : Nat) (o : OpV) : Try.prog.built 37 [(0, .int .u32 (a : Int)), (1, .int .u32 (b : Int)), (2, .agg (opC o))] = some (entC ⟨a, b, o⟩) := by kernel_rfl

theorem entL_one (e : EntV) : ∀ u ∈ entL e, u.oneCell' = true := by
  intro u hu
  simp [entL, opL, strV] at hu
  rcases hu with rfl | rfl | rfl | rfl | rfl | rfl | rfl | rfl <;> rfl
theorem ent_one (e : EntV) : (entC e).all (·.oneCell') = true := all_oneCell_toArray (entL_one e)
theorem baseL_one (b : BaseV) : ∀ u ∈ baseL b, u.oneCell' = true := by
  intro u hu
  have h := base_one b
  unfold baseC at h
  simp only [List.all_toArray, List.all_eq_true] at h
  exact h u hu
theorem st_one (s : StV) (ao : Option Addr) (c : Nat) : (stC s ao c).all (·.oneCell') = true := by
  refine all_oneCell_toArray ?_
  intro u hu
  unfold stL at hu
  rcases List.mem_cons.1 hu with rfl | hu
  · rfl
  · rcases List.mem_append.1 hu with hu | hu
    · exact baseL_one _ u hu
    · rcases List.mem_append.1 hu with hu | hu
      · exact entL_one _ u hu
      · rw [List.mem_singleton.1 hu]; rfl

/-- A list with other cells from a place on. -/
def putAt (l : List Value) (k : Nat) (vs : List Value) : List Value := l.take k ++ (vs ++ l.drop (k + vs.length))
theorem putAt_mid (A X B vs : List Value) (k : Nat) (hk : k = A.length) (h : X.length = vs.length) : putAt (A ++ (X ++ B)) k vs = A ++ (vs ++ B) := by
  subst hk
  unfold putAt
  rw [List.take_left, ← h, ← List.append_assoc A X B, ← List.length_append, List.drop_left]
theorem putAt_cons (l : List Value) (k : Nat) (v : Value) (vs : List Value) (h : k < l.length) : putAt (l.set k v) (k + 1) vs = putAt l k (v :: vs) := by
  unfold putAt
  have e1 : (l.set k v).take (k + 1) = l.take k ++ [v] := by
    rw [List.take_succ_eq_append_getElem (by rw [List.length_set]; exact h), List.take_set_of_le (Nat.le_refl _)]
    simp
  have e2 : (l.set k v).drop (k + 1 + vs.length) = l.drop (k + (v :: vs).length) := by
    rw [List.drop_set_of_lt (by omega), List.length_cons, show k + 1 + vs.length = k + (vs.length + 1) by omega]
  rw [e1, e2, List.append_assoc]
  rfl
theorem Has.putCells {w : World} {g : Nat} {t : TypeId} {l : List Value} (h : Has w g t l.toArray) (vs : List Value) (k : Nat) (hk : k + vs.length ≤ l.length) : Has (w.setCells g k vs) g t (putAt l k vs).toArray := by
  induction vs generalizing w k l with
  | nil =>
    have e : putAt l k [] = l := by unfold putAt; simp
    rw [e]
    exact h
  | cons v vs ih =>
    have h1 := h.set k v
    rw [List.setIfInBounds_toArray] at h1
    rw [List.length_cons] at hk
    have := ih h1 (k + 1) (by rw [List.length_set]; omega)
    rw [putAt_cons l k v vs (by omega)] at this
    exact this

theorem baseL_len (b : BaseV) : (baseL b).length = 39 := rfl
theorem entL_len (e : EntV) : (entL e).length = 8 := rfl
theorem stL_len (s : StV) (ao : Option Addr) (c : Nat) : (stL s ao c).length = 49 := rfl

section
variable {w : World} {g : Nat} {s : StV} {ao : Option Addr} {c : Nat}
theorem stL_base (s : StV) (ao : Option Addr) (c : Nat) : stL s ao c = [.int .u32 (s.started : Int)] ++ (baseL s.base ++ (entL s.tail ++ [.slice ao s.log.length c])) := rfl
theorem stL_tail (s : StV) (ao : Option Addr) (c : Nat) : stL s ao c = (.int .u32 (s.started : Int) :: baseL s.base) ++ (entL s.tail ++ [.slice ao s.log.length c]) := by unfold stL; rw [List.cons_append]
theorem stL_log (s : StV) (ao : Option Addr) (c : Nat) : stL s ao c = (.int .u32 (s.started : Int) :: (baseL s.base ++ entL s.tail)) ++ ([.slice ao s.log.length c] ++ []) := by
  unfold stL
  rw [List.append_nil, List.cons_append, List.append_assoc]
theorem Has.setBase (h : Has w g 40 (stC s ao c)) (b : BaseV) : Has (w.setCells g 1 (baseL b)) g 40 (stC ⟨s.started, b, s.tail, s.log⟩ ao c) := by
  have := h.putCells (baseL b) 1 (by rw [baseL_len, stL_len]; omega)
  rw [stL_base, putAt_mid _ _ _ (baseL b) 1 (by rw [List.length_singleton]) (by rw [baseL_len, baseL_len])] at this
  exact this
theorem Has.setTail (h : Has w g 40 (stC s ao c)) (e : EntV) : Has (w.setCells g 40 (entL e)) g 40 (stC ⟨s.started, s.base, e, s.log⟩ ao c) := by
  have := h.putCells (entL e) 40 (by rw [entL_len, stL_len]; omega)
  rw [stL_tail, putAt_mid _ _ _ (entL e) 40 (by rw [List.length_cons, baseL_len]) (by rw [entL_len, entL_len])] at this
  exact this
theorem Has.setLog (h : Has w g 40 (stC s ao c)) (l : List EntV) (bo : Option Addr) (d : Nat) : Has (w.setCell ⟨g, 48, none⟩ (.slice bo l.length d)) g 40 (stC (withLog s l) bo d) := by
  have := h.putCells [.slice bo l.length d] 48 (by rw [stL_len]; exact Nat.le_refl _)
  rw [stL_log, putAt_mid _ _ _ [.slice bo l.length d] 48 (by rw [List.length_cons, List.length_append, baseL_len, entL_len]) (by rw [List.length_singleton, List.length_singleton])] at this
  unfold stC
  rw [stL_log]
  exact this
theorem Has.st_started (h : Has w g 40 (stC s ao c)) : w.cell? ⟨g, 0, none⟩ = some (.int .u32 (s.started : Int)) := (h.cell 0).trans rfl
theorem Has.st_base (h : Has w g 40 (stC s ao c)) : w.rangeAt g 1 (baseL s.base) := h.range _ _ fun j v hj => by
  have hl : j < 39 := (List.getElem?_eq_some_iff.1 hj).1
  unfold stC stL
  rw [List.getElem?_toArray, show 1 + j = j + 1 by omega, List.getElem?_cons_succ, List.getElem?_append_left (show j < (baseL s.base).length from hl)]
  exact hj
theorem stC_tail (j : Nat) (hj : j < 8) : (stC s ao c)[40 + j]? = (entL s.tail)[j]? := by
  unfold stC stL
  rw [List.getElem?_toArray, show 40 + j = (39 + j) + 1 by omega, List.getElem?_cons_succ, List.getElem?_append_right (by rw [baseL_len]; omega), baseL_len, show 39 + j - 39 = j by omega, List.getElem?_append_left (by rw [entL_len]; exact hj)]
theorem Has.st_tail (h : Has w g 40 (stC s ao c)) : w.rangeAt g 40 (entL s.tail) := h.range _ _ fun j v hj => by
  have hl : j < 8 := (List.getElem?_eq_some_iff.1 hj).1
  rw [stC_tail j hl]
  exact hj
theorem Has.st_tail_since (h : Has w g 40 (stC s ao c)) : w.cell? ⟨g, 40, none⟩ = some (.int .u32 (s.tail.since : Int)) := (h.cell 40).trans (stC_tail (s := s) (ao := ao) (c := c) 0 (by decide))
theorem Has.st_tail_n (h : Has w g 40 (stC s ao c)) : w.cell? ⟨g, 41, none⟩ = some (.int .u32 (s.tail.n : Int)) := (h.cell 41).trans (stC_tail (s := s) (ao := ao) (c := c) 1 (by decide))
theorem Has.st_log (h : Has w g 40 (stC s ao c)) : w.cell? ⟨g, 48, none⟩ = some (.slice ao s.log.length c) := (h.cell 48).trans (by
  unfold stC stL
  rw [List.getElem?_toArray, List.getElem?_cons_succ, List.getElem?_append_right (by rw [baseL_len]; omega), baseL_len, List.getElem?_append_right (by rw [entL_len]; omega), entL_len]
  rfl)
theorem Has.ent_since {e : EntV} (h : Has w g 37 (entC e)) : w.cell? ⟨g, 0, none⟩ = some (.int .u32 (e.since : Int)) := (h.cell 0).trans rfl
theorem Has.ent_n {e : EntV} (h : Has w g 37 (entC e)) : w.cell? ⟨g, 1, none⟩ = some (.int .u32 (e.n : Int)) := (h.cell 1).trans rfl
theorem Has.ent_op {e : EntV} (h : Has w g 37 (entC e)) : w.rangeAt g 2 (opL e.op) := h.range _ _ fun j v hj => by
  unfold entC entL
  rw [List.getElem?_toArray, show 2 + j = j + 1 + 1 by omega, List.getElem?_cons_succ, List.getElem?_cons_succ]
  exact hj
end

/-- Slices of entries. -/
theorem ent_at {w : World} {ad : Addr} {c : Nat} {l : List EntV} (h : Sl w (some ad) c 8 (entR l)) (i : Nat) (hi : i < l.length) :
    ∀ j v, (entL l[i])[j]? = some v → w.cell? ((ad.add (i * 8)).add j) = some v := by
  intro j v hj
  have hj8 : j < 8 := (List.getElem?_eq_some_iff.1 hj).1
  have h0 := h.at' ad rfl i (by unfold entR; rw [List.length_map]; exact hi) j hj8
  unfold entR at h0
  rw [List.getElem_map, hj] at h0
  rw [Go.Deep.add_add]
  exact h0
theorem entR_len (l : List EntV) : (entR l).length = l.length := by unfold entR; rw [List.length_map]
theorem Sl.ent_le {w : World} {ao : Option Addr} {c : Nat} {l : List EntV} (h : Sl w ao c 8 (entR l)) : l.length ≤ c := by have := h.le; rw [entR_len] at this; exact this
theorem Sl.take {w : World} {ao : Option Addr} {c : Nat} {l : List EntV} (h : Sl w ao c 8 (entR l)) (k : Nat) : Sl w ao c 8 (entR (l.take k)) := by
  have hle := h.ent_le
  refine ⟨by rw [entR_len, List.length_take]; omega, h.cap, h.nil, ?_, fun ad had i hi j hj => ?_⟩
  · intro r hr
    obtain ⟨x, _, rfl⟩ := List.mem_map.1 hr
    rfl
  · rw [entR_len, List.length_take] at hi
    have := h.at' ad had i (by rw [entR_len]; omega) j hj
    rw [this]
    unfold entR
    simp
/-- The address of a slice cut off in front. -/
def cutAddr (ao : Option Addr) (c k : Nat) : Option Addr := if c = k then ao else ao.map (·.add (k * 8))
theorem Sl.drop {w : World} {ao : Option Addr} {c : Nat} {l : List EntV} (h : Sl w ao c 8 (entR l)) (k : Nat) (hk : k ≤ l.length) : Sl w (cutAddr ao c k) (c - k) 8 (entR (l.drop k)) := by
  have hle := h.ent_le
  have hcap := h.cap
  refine ⟨by rw [entR_len, List.length_drop]; omega, by omega, ?_, ?_, fun ad had i hi j hj => ?_⟩
  · intro hn
    unfold cutAddr at hn
    split at hn
    · omega
    · have : ao = none := by simpa using hn
      have := h.nil this
      omega
  · intro r hr
    obtain ⟨x, _, rfl⟩ := List.mem_map.1 hr
    rfl
  · rw [entR_len, List.length_drop] at hi
    unfold cutAddr at had
    rw [if_neg (by omega)] at had
    cases ao with
    | none => cases had
    | some a0 =>
      obtain rfl := Option.some.inj had
      have := h.at' a0 rfl (k + i) (by rw [entR_len]; omega) j hj
      rw [Go.Deep.add_add, show k * 8 + (i * 8 + j) = (k + i) * 8 + j by omega, this]
      unfold entR
      simp
theorem cutAddr_block {ao : Option Addr} {c k : Nat} {d : Addr} (h : cutAddr ao c k = some d) : ∃ a, ao = some a ∧ a.block = d.block := by
  unfold cutAddr at h
  split at h
  · exact ⟨d, h, rfl⟩
  · cases ao with
    | none => cases h
    | some a =>
      obtain rfl := Option.some.inj h
      exact ⟨a, rfl, by simp [Addr.add]; split <;> rfl⟩
section
variable {w : World}
theorem ents_elem : Try.prog.elem 38 = 37 := by kernel_rfl
theorem ents_under : Try.prog.underlying 38 = some (.slice (Try.prog.elem 38)) := by rw [ents_elem]; exact Try.underlying38
theorem ent_sizeOf (w : World) : (sizeOf 37).run Try.prog w = .ok 8 w := by
  have h : (Try.prog.info? 37).map (·.size) = some 8 := by kernel_rfl
  cases hq : Try.prog.info? 37 with
  | none => simp [hq] at h
  | some i =>
    have hs : i.size = 8 := by simpa [hq] using h
    simp [sizeOf, typeInfo, hq, hs, Sem.run_bind]
theorem run_head (w : World) (ao : Option Addr) (n c k : Nat) (h : k ≤ c) : (Instr.slice 38 (.slice ao n c) none (some (.int .i64 (k : Int))) none).run Try.prog w = .ok (.slice ao k c) w := by
  rw [run_slice_h w 38 ao n c ents_under .i64 (k : Int) (by omega) (by omega), ents_elem, ent_sizeOf]
  have e : (ao.map (fun x : Addr => x.add 0)) = ao := by
    cases ao with
    | none => rfl
    | some a => exact congrArg some (by unfold Addr.add; split <;> simp_all)
  simp [sliced, Result.andThen, e]
theorem run_rest (w : World) (ao : Option Addr) (n c k : Nat) (h : k ≤ n) (hc : n ≤ c) : (Instr.slice 38 (.slice ao n c) (some (.int .i64 (k : Int))) none none).run Try.prog w = .ok (.slice (cutAddr ao c k) (n - k) (c - k)) w := by
  rw [run_slice_l w 38 ao n c ents_under .i64 (k : Int) (by omega) (by omega), ents_elem, ent_sizeOf]
  simp only [sliced, Result.andThen, Int.toNat_natCast]
  unfold cutAddr
  split <;> rename_i h1
  · simp
  · simp
end

/-- Reading past stores into other blocks. -/
theorem Sl.row_other {w : World} {ao : Option Addr} {c sz : Nat} {rows : List (List Value)} (h : Sl w ao c sz rows) {k : Nat} (hk : ∀ d, ao = some d → d.block ≠ k) (c' : Array Value) : Sl (w.setRow k c') ao c sz rows := by
  refine ⟨h.le, h.cap, h.nil, h.each, fun ad had i hi j hj => ?_⟩
  have hc := h.at' ad had i hi j hj
  rw [← hc]
  have hb : (ad.add (i * sz + j)).block = ad.block := by simp [Addr.add]; split <;> rfl
  have hne : (ad.add (i * sz + j)).block ≠ k := by rw [hb]; exact hk ad had
  unfold World.cell?
  rw [setRow_other w k _ c' hne]
theorem Sl.cell_other {w : World} {ao : Option Addr} {c sz : Nat} {rows : List (List Value)} (h : Sl w ao c sz rows) {a : Addr} (hk : ∀ d, ao = some d → d.block ≠ a.block) (v : Value) : Sl (w.setCell a v) ao c sz rows := by
  refine ⟨h.le, h.cap, h.nil, h.each, fun ad had i hi j hj => ?_⟩
  have hc := h.at' ad had i hi j hj
  rw [← hc]
  have hb : (ad.add (i * sz + j)).block = ad.block := by simp [Addr.add]; split <;> rfl
  have hne : (ad.add (i * sz + j)).block ≠ a.block := by rw [hb]; exact hk ad had
  unfold World.cell?
  rw [Below.heap_setCell w a v _ hne]
theorem Sl.cells_other {sz c : Nat} {rows : List (List Value)} {ao : Option Addr} {k : Nat} (hk : ∀ d, ao = some d → d.block ≠ k) : ∀ (vs : List Value) (o : Nat) {w : World}, Sl w ao c sz rows → Sl (w.setCells k o vs) ao c sz rows := by
  intro vs
  induction vs with
  | nil => intro o w h; exact h
  | cons v vs ih => intro o w h; exact ih (o + 1) (h.cell_other (a := ⟨k, o, none⟩) hk v)

/-- What a call that hands back a state leaves: the log lies in new memory. -/
structure Gives (w w' : World) (s : StV) (ro : Option Addr) (rc : Nat) : Prop where
  sl : Sl w' ro rc 8 (entR s.log)
  new : ∀ d, ro = some d → w.heap.size ≤ d.block
  below : Below w.heap.size w w'
theorem Gives.zero {w w' : World} (h : Below w.heap.size w w') : Gives w w' st0 none 0 := ⟨Sl.nothing _ _, (fun d h => by cases h), h⟩
end Go.Proofs.Ytphlfepgaghhhaa
