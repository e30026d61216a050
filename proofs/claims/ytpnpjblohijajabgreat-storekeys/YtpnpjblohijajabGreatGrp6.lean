/- PendIter, StoreMid, joined. -/
import Derived.Test.YtpnpjblohijajabGreatGrp5
import Derived.Maps.RangeRun
import Derived.Maps.Range
namespace Go.Proofs.YtpnpjblohijajabGreat
section
set_option linter.unusedSimpArgs false
set_option linter.unusedVariables false
set_option maxRecDepth 100000
open Go.RowKit Go.MapKept

structure IterAt (w : World) (r b : Nat) (l : PendL) (c : Nat) (seen : Array Nat) : Prop where
  it : w.heap[r]? = some (.mapIter (some b) (c + l.length) seen (c + l.length))
  map : w.heap[b]? = some (.map (rowS c l).toArray (c + l.length))
theorem IterAt.ne {w : World} {r b c : Nat} {l : PendL} {seen : Array Nat} (h : IterAt w r b l c seen) : r ≠ b := by
  rintro rfl
  have := h.it.symm.trans h.map
  cases this
theorem IterAt.rlt {w : World} {r b c : Nat} {l : PendL} {seen : Array Nat} (h : IterAt w r b l c seen) : r < w.heap.size := (Array.getElem?_eq_some_iff.1 h.it).1
theorem IterAt.blt {w : World} {r b c : Nat} {l : PendL} {seen : Array Nat} (h : IterAt w r b l c seen) : b < w.heap.size := (Array.getElem?_eq_some_iff.1 h.map).1
theorem IterAt.later {w w' : World} {r b c : Nat} {l : PendL} {seen : Array Nat} (h : IterAt w r b l c seen) (k : ∀ i, i < w.heap.size → (i = r ∨ i = b) → w'.heap[i]? = w.heap[i]?) : IterAt w' r b l c seen := ⟨(k r h.rlt (.inl rfl)).trans h.it, (k b h.blt (.inr rfl)).trans h.map⟩
theorem mem_rowS : ∀ (c : Nat) (l : PendL) (x : MapEntry), x ∈ rowS c l ↔ ∃ j y, l[j]? = some y ∧ x = entS y (c + j)
  | c, [], x => by simp [rowS]
  | c, z :: l, x => by
    rw [rowS, List.mem_cons, mem_rowS (c + 1) l x]
    constructor
    · rintro (rfl | ⟨j, y, h, rfl⟩)
      · exact ⟨0, z, rfl, rfl⟩
      · exact ⟨j + 1, y, h, by rw [show c + 1 + j = c + (j + 1) by omega]⟩
    · rintro ⟨j, y, h, rfl⟩
      cases j with
      | zero =>
        have : z = y := by simpa using h
        subst this
        exact .inl rfl
      | succ j => exact .inr ⟨j, y, by simpa using h, by rw [show c + 1 + j = c + (j + 1) by omega]⟩
theorem rowS_born (c : Nat) (l : PendL) : ∀ x ∈ (rowS c l).toArray.toList, x.born < c + l.length := by
  intro x hx
  obtain ⟨j, y, h, rfl⟩ := (mem_rowS c l x).1 (by simpa using hx)
  have := (List.getElem?_eq_some_iff.1 h).1
  show c + j < _
  omega
theorem rowS_bornL : ∀ (c : Nat) (l : PendL), (rowS c l).map (·.born) = List.range' c l.length
  | c, [] => rfl
  | c, x :: l => by
    rw [rowS, List.map_cons, rowS_bornL (c + 1) l, List.length_cons, List.range'_succ]
    rfl
theorem rowS_nodup (c : Nat) (l : PendL) : (((rowS c l).toArray.toList).map (·.born)).Nodup := by
  show ((rowS c l).map (·.born)).Nodup
  rw [rowS_bornL]
  exact List.nodup_range' (step := 1)
theorem mem_left {c : Nat} {l : PendL} {seen : Array Nat} {e : MapEntry} (h : e ∈ (leftOf (rowS c l).toArray seen).toList) : ∃ j y, l[j]? = some y ∧ e = entS y (c + j) ∧ (c + j) ∉ seen := by
  unfold leftOf at h
  rw [Array.toList_filter, List.mem_filter] at h
  obtain ⟨h1, h2⟩ := h
  obtain ⟨j, y, hj, rfl⟩ := (mem_rowS c l e).1 (by simpa using h1)
  refine ⟨j, y, hj, rfl, ?_⟩
  intro hs
  have h2 : (!seen.contains (c + j)) = true := h2
  rw [Bool.not_eq_true', Array.contains_eq_any_beq] at h2
  rw [Array.any_eq_false] at h2
  obtain ⟨i, hi, he⟩ := Array.mem_iff_getElem.1 hs
  have := h2 i hi
  rw [he] at this
  simp at this
theorem left_none {c : Nat} {l : PendL} {seen : Array Nat} (h : (leftOf (rowS c l).toArray seen).size = 0) : ∀ j y, l[j]? = some y → (c + j) ∈ seen := by
  intro j y hj
  apply Classical.byContradiction
  intro hn
  have hm : entS y (c + j) ∈ (leftOf (rowS c l).toArray seen).toList := by
    unfold leftOf
    rw [Array.toList_filter, List.mem_filter]
    refine ⟨(mem_rowS c l _).2 ⟨j, y, hj, rfl⟩, ?_⟩
    show (!seen.contains (c + j)) = true
    rw [Bool.not_eq_true']
    cases hc : seen.contains (c + j) with
    | false => rfl
    | true => exact absurd (Array.contains_iff_mem.1 hc) hn
  have : (leftOf (rowS c l).toArray seen).toList.length = 0 := by rw [Array.length_toList]; exact h
  rw [List.eq_nil_of_length_eq_zero this] at hm
  cases hm
theorem left_less {es : Array MapEntry} {seen : Array Nat} {e : MapEntry} (he : e ∈ (leftOf es seen).toList) : (leftOf es (seen.push e.born)).size < (leftOf es seen).size := by
  unfold leftOf at *
  have e1 : es.filter (fun x => !(seen.push e.born).contains x.born) = (es.filter (fun x => !seen.contains x.born)).filter (fun x => !(x.born == e.born)) := by
    rw [Array.filter_filter]
    congr 1
    funext x
    have h : (seen.push e.born).contains x.born = (seen.contains x.born || (x.born == e.born)) := by
      rw [Bool.eq_iff_iff, Bool.or_eq_true, Array.contains_iff_mem, Array.contains_iff_mem, Array.mem_push, beq_iff_eq]
    rw [h]
    cases seen.contains x.born <;> cases (x.born == e.born) <;> rfl
  rw [e1, ← Array.length_toList, ← Array.length_toList, Array.toList_filter]
  exact List.length_filter_lt_length_iff_exists.2 ⟨e, he, by simp⟩
theorem IterAt.left {w : World} {r b c : Nat} {l : PendL} {seen : Array Nat} (h : IterAt w r b l c seen) : w.rangeLeft b r = (leftOf (rowS c l).toArray seen).size := by
  unfold World.rangeLeft
  rw [h.map, h.it]
theorem but_setBlock {r : Nat} (w : World) (o : Obj) : But r w (Go.ChangeMaps.setBlock w r o) := by
  refine ⟨rfl, rfl, rfl, by simp [Go.ChangeMaps.setBlock], fun k _ hk => ?_⟩
  simp [Go.ChangeMaps.setBlock, Array.getElem?_setIfInBounds, Ne.symm hk]
section
variable {ops : Array Oper} {rest : List Oper} {o : Oper} {a : Act} {w : World} {Q : Exit → Act → World → Prop}
theorem wpList_rangeP (hg : o.guard = none) (m : Operand) (hop : o.op = Op.range 45 m) (b : Nat) (l : PendL) (hm : a.eval m = .map (some b)) (h : PendAt w b l)
    (hK : ∀ c w', IterAt w' w.heap.size b l c #[] → Below w.heap.size w w' → wpList Tryz.prog ops Q rest (a.put o.dst (.pointer (some ⟨w.heap.size, 0, none⟩))) w') :
    wpList Tryz.prog ops Q (o :: rest) a w := by
  have hlt := h.lt
  obtain ⟨c, hb⟩ := h
  refine wpList_plain hg fun K' hK' => ?_
  have hrun := run_range_map (P := Tryz.prog) w 45 3 66 b _ _ Tryz.underlying45 hb
  unfold Oper.wp
  simp [execOp, hop, hm, hrun, Result.andThen]
  exact hK' _ _ (hK c _ ⟨(MapKept.heap_alloc w _).1, ((MapKept.heap_alloc w _).2 b hlt).trans hb⟩ ((Below.refl _ _).alloc (Nat.le_refl _) _))
def AllSeen (l : PendL) (c : Nat) (seen : Array Nat) : Prop := ∀ j y, l[j]? = some y → (c + j) ∈ seen
structure OneMore (w w' : World) (r b : Nat) (l : PendL) (c : Nat) (seen : Array Nat) (j i : Nat) (s : List UInt8) : Prop where
  at' : l[j]? = some (i, s)
  new : (c + j) ∉ seen
  iter : IterAt w' r b l c (seen.push (c + j))
  less : w'.rangeLeft b r < w.rangeLeft b r
  but : But r w w'
  entry : (Instr.entry (.pointer (some ⟨r, 0, none⟩))).run Tryz.prog w' = .ok (.tuple #[.int .i64 (i : Int), .agg (secC s)]) w'
theorem wpList_nextP (hg : o.guard = none) (it : Operand) (hop : o.op = Op.next it false) (r b c : Nat) (l : PendL) (seen : Array Nat) (hit : a.eval it = .pointer (some ⟨r, 0, none⟩)) (h : IterAt w r b l c seen)
    (hDone : AllSeen l c seen → wpList Tryz.prog ops Q rest (a.put o.dst (.tuple #[.bool false])) w)
    (hMore : ∀ (j i : Nat) (s : List UInt8) (w' : World), OneMore w w' r b l c seen j i s → wpList Tryz.prog ops Q rest (a.put o.dst (.tuple #[.bool true, .int .i64 (i : Int), .agg (secC s)])) w') :
    wpList Tryz.prog ops Q (o :: rest) a w := by
  refine wpList_plain hg fun K' hK' => ?_
  unfold Oper.wp
  rcases run_next_at (P := Tryz.prog) w o.type r b (c + l.length) (c + l.length) seen _ _ h.it h.map (rowS_born c l) (Nat.le_refl _) with ⟨h0, hrun⟩ | ⟨e, he, w1, hw1, hrun⟩
  · simp [execOp, hop, hit, hrun, Result.andThen]
    exact hK' _ _ (hDone (left_none h0))
  · obtain ⟨j, y, hj, rfl, hn⟩ := mem_left he
    have hs := left_less he
    have hbut : But r w (Go.ChangeMaps.setBlock w1 r (.mapIter (some b) (c + l.length) (seen.push (c + j)) (c + l.length))) := by
      have k1 : But r w w1 := by
        rcases hw1 with rfl | rfl
        · exact ⟨rfl, rfl, rfl, Nat.le_refl _, fun _ _ _ => rfl⟩
        · have := (Below.refl w.heap.size w).drew
          exact ⟨this.os, this.tape, this.output, this.size, fun k hk _ => this.block k hk⟩
      exact k1.trans (but_setBlock _ _)
    have hr1 : r < w1.heap.size := by
      rcases hw1 with rfl | rfl
      · exact h.rlt
      · exact h.rlt
    have hI : IterAt (Go.ChangeMaps.setBlock w1 r (.mapIter (some b) (c + l.length) (seen.push (c + j)) (c + l.length))) r b l c (seen.push (c + j)) := by
      refine ⟨by simp [Go.ChangeMaps.setBlock, hr1], (hbut.block b h.blt (Ne.symm h.ne)).trans h.map⟩
    have hfin : (Go.ChangeMaps.setBlock w1 r (.mapIter (some b) (c + l.length) (seen.push (c + j)) (c + l.length))).rangeLeft b r < w.rangeLeft b r := by
      rw [hI.left, h.left]
      exact hs
    simp [execOp, hop, hit, hrun, Result.andThen]
    exact hK' _ _ (hMore j y.1 y.2 _ ⟨hj, hn, hI, hfin, hbut, run_entry_at (P := Tryz.prog) _ r b (c + l.length) seen _ _ (entS y (c + j)) hI.it hI.map ((mem_rowS c l _).2 ⟨j, y, hj, rfl⟩) (rowS_nodup c l)⟩)
end
end

section
set_option linter.unusedSimpArgs false
set_option linter.unusedVariables false
open Go.RowKit

def putL (l : List Value) (k : Nat) (vs : List Value) : List Value := l.take k ++ (vs ++ l.drop (k + vs.length))
theorem putL_cons (l : List Value) (k : Nat) (v : Value) (vs : List Value) (h : k < l.length) : putL (l.set k v) (k + 1) vs = putL l k (v :: vs) := by
  unfold putL
  have e1 : (l.set k v).take (k + 1) = l.take k ++ [v] := by
    rw [List.take_succ_eq_append_getElem (by rw [List.length_set]; exact h), List.take_set_of_le (Nat.le_refl _)]
    simp
  have e2 : (l.set k v).drop (k + 1 + vs.length) = l.drop (k + (v :: vs).length) := by
    rw [List.drop_set_of_lt (by omega), List.length_cons, show k + 1 + vs.length = k + (vs.length + 1) by omega]
  rw [e1, e2, List.append_assoc]
  rfl
theorem Has.putL {w : World} {g : Nat} {t : TypeId} {l : List Value} (h : Has w g t l.toArray) (vs : List Value) (k : Nat) (hk : k + vs.length ≤ l.length) : Has (w.setCells g k vs) g t (putL l k vs).toArray := by
  induction vs generalizing w k l with
  | nil =>
    have e : Go.Proofs.YtpnpjblohijajabGreat.putL l k [] = l := by unfold Go.Proofs.YtpnpjblohijajabGreat.putL; simp
    rw [e]
    exact h
  | cons v vs ih =>
    have h1 := h.set k v
    rw [List.setIfInBounds_toArray] at h1
    rw [List.length_cons] at hk
    have := ih h1 (k + 1) (by rw [List.length_set]; omega)
    rw [putL_cons l k v vs (by omega)] at this
    exact this
theorem but_cells {g : Nat} : ∀ (vs : List Value) (w : World) (o : Nat), But g w (w.setCells g o vs)
  | [], w, o => ⟨rfl, rfl, rfl, Nat.le_refl _, fun _ _ _ => rfl⟩
  | v :: vs, w, o => (but_cell w o v).trans (but_cells vs _ (o + 1))
section laws
variable {ops : Array Oper} {o : Oper} {a : Act} {w : World} {Q : Exit → Act → World → Prop} {S : World → Prop}
theorem plan_store_midJ {i : Nat} {p : Plan} {P : Program} (hnth : nth ops.toList i = some o) (hw : Region.wanted o (yielded ops a.tmps) = true) (ty : TypeId) (x y : Operand) (ho : o.op = .store ty x y)
    (b k : Nat) (cells : Array Value) (hx : a.eval x = .pointer (some ⟨b, k, none⟩)) (hy : a.eval y = .agg cells)
    (ht : w.there b k cells.size) (hi : (P.info? ty).map (·.size) = some cells.size) (h1 : cells.all (·.oneCell') = true) (hS : S (w.setCells b k cells.toList))
    (h : wpPlan P ops Q S p (a.put o.dst undef) (w.setCells b k cells.toList)) : wpPlan P ops Q S (Plan.run i p) a w := by
  refine plan_run o hnth fun K hK => ?_
  rw [if_pos hw]
  exact wp_store_mid ty x y ho b k cells hx hy ht hi h1 (hK.out _ _ hS h)
end laws
theorem Bs_putL (D : List UInt8) (k : Nat) (s : List UInt8) : putL (Bs D) k (Bs s) = Bs (overB D k s) := by
  unfold putL
  rw [Bs_over, Bs_length, List.append_assoc]
/-- A sector laid over others leaves them. -/
theorem sec_over_same {D s : List UInt8} {n i : Nat} (hD : D.length = 64 * n) (hs : s.length = 64) (hi : i < n) : sec (overB D (i * 64) s) i = s := by
  unfold sec overB
  have h1 : (D.take (i * 64)).length = 64 * i := by rw [List.length_take]; omega
  rw [List.append_assoc, List.drop_append_of_le_length (by omega), List.drop_of_length_le (by omega), List.nil_append, ← hs, List.take_left]
theorem sec_over_other {D s : List UInt8} {n i j : Nat} (hD : D.length = 64 * n) (hs : s.length = 64) (hi : i < n) (hj : j < n) (hn : j ≠ i) : sec (overB D (i * 64) s) j = sec D j := by
  have hl : (overB D (i * 64) s).length = 64 * n := by rw [overB_length _ _ _ (by omega)]; exact hD
  refine List.ext_getElem? fun q => ?_
  by_cases hq : q < 64
  · rw [sec_at _ _ _ hq, sec_at _ _ _ hq]
    unfold overB
    have h1 : (D.take (i * 64)).length = i * 64 := by rw [List.length_take]; omega
    by_cases hlt : j < i
    · rw [List.append_assoc, List.getElem?_append_left (by omega), List.getElem?_take, if_pos (by omega)]
    · rw [List.getElem?_append_right (by rw [List.length_append]; omega), List.length_append, h1, hs, List.getElem?_drop]
      congr 1
      omega
  · have e1 := sec_length hl hj
    have e2 := sec_length hD hj
    rw [List.getElem?_eq_none (by omega), List.getElem?_eq_none (by omega)]
end
end Go.Proofs.YtpnpjblohijajabGreat
