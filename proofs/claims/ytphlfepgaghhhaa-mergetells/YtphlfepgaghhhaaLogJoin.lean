/- Rows of entries in one block: make, copy; the contracts of pglog's joined and done. -/
import Derived.Test.YtphlfepgaghhhaaLogIs
import Derived.Laws.CopyRow
import Derived.Laws.CopyOwn
namespace Go.Proofs.Ytphlfepgaghhhaa
set_option linter.unusedSimpArgs false
set_option linter.unusedVariables false
set_option maxRecDepth 100000
open Go.RowKit

/-- The cells of a row of entries. -/
def entF (l : List EntV) : List Value := (entR l).flatten
theorem entF_len (l : List EntV) : (entF l).length = l.length * 8 := by
  induction l with
  | nil => rfl
  | cons e l ih =>
    show (entL e ++ entF l).length = _
    rw [List.length_append, ih, entL_len, List.length_cons]
    omega
theorem entF_app (a b : List EntV) : entF (a ++ b) = entF a ++ entF b := by
  unfold entF entR
  rw [List.map_append, List.flatten_append]
theorem entR_each (l : List EntV) : ∀ r ∈ entR l, r.length = 8 := by
  intro r hr
  obtain ⟨x, _, rfl⟩ := List.mem_map.1 hr
  rfl
theorem entF_at (l : List EntV) (i : Nat) (h : i < l.length) (j : Nat) (hj : j < 8) : (entF l)[i * 8 + j]? = (entL l[i])[j]? := by
  have := flatten_at (entR l) (entR_each l) i (by rw [entR_len]; exact h) j hj
  unfold entF
  rw [this]
  unfold entR
  rw [List.getElem_map]
theorem entF_one (l : List EntV) : ∀ v ∈ entF l, v.oneCell' = true := by
  intro v hv
  obtain ⟨r, hr, hv⟩ := List.mem_flatten.1 hv
  obtain ⟨x, _, rfl⟩ := List.mem_map.1 hr
  exact entL_one x v hv
theorem Has.ents {w : World} {g : Nat} {l : List EntV} (h : Has w g 37 (entF l).toArray) (hn : l.length ≤ 1000000) : Sl w (some ⟨g, 0, none⟩) l.length 8 (entR l) := by
  have := Sl.of_block (w := w) (g := g) (sz := 8) (rows := entR l) h (entR_each l) (by rw [entR_len]; exact hn)
  rw [entR_len] at this
  exact this
/-- What a slice of entries reads as, cell by cell. -/
theorem Sl.cells {w : World} {ad : Addr} {c : Nat} {l : List EntV} (h : Sl w (some ad) c 8 (entR l)) : ∀ j v, (entF l)[j]? = some v → w.cell? (ad.add j) = some v := by
  intro j v hj
  have hlt : j < l.length * 8 := by
    have := (List.getElem?_eq_some_iff.1 hj).1
    rw [entF_len] at this
    exact this
  have e : j = j / 8 * 8 + j % 8 := by omega
  have hi : j / 8 < l.length := by omega
  rw [e, entF_at l (j / 8) hi (j % 8) (by omega)] at hj
  have := ent_at h (j / 8) hi (j % 8) v hj
  rw [Go.Deep.add_add, ← e] at this
  exact this

theorem ent_info : ∃ i, Try.prog.info? 37 = some i ∧ i.zero = some (.agg (entC ent0)) ∧ i.size = 8 ∧ i.bytes ≤ 64 := by
  have h : (Try.prog.info? 37).map (fun i => (i.zero, i.size, decide (i.bytes ≤ 64))) = some (some (.agg (entC ent0)), 8, true) := by kernel_rfl
  cases hi : Try.prog.info? 37 with
  | none => rw [hi] at h; cases h
  | some i =>
    rw [hi] at h
    simp only [Option.map_some, Option.some.injEq, Prod.mk.injEq, decide_eq_true_eq] at h
    exact ⟨i, rfl, h.1, h.2.1, h.2.2⟩
theorem ent_made (N : Nat) : (madeCells (Value.agg (entC ent0)).cells (N * 8)).toList = entF (List.replicate N ent0) := by
  apply List.ext_getElem?
  intro i
  unfold madeCells
  simp only [Array.toList_map, Array.toList_range]
  rw [List.getElem?_map]
  by_cases h : i < N * 8
  · rw [List.getElem?_range h]
    have e : i = i / 8 * 8 + i % 8 := by omega
    have := entF_at (List.replicate N ent0) (i / 8) (by rw [List.length_replicate]; omega) (i % 8) (by omega)
    rw [← e] at this
    rw [this, List.getElem_replicate]
    have hm : i % 8 < 8 := by omega
    show some ((Value.agg (entC ent0)).cells[i % 8]!) = _
    match i % 8, hm with
    | 0, _ => rfl
    | 1, _ => rfl
    | 2, _ => rfl
    | 3, _ => rfl
    | 4, _ => rfl
    | 5, _ => rfl
    | 6, _ => rfl
    | 7, _ => rfl
  · rw [List.getElem?_eq_none (by simpa using h), List.getElem?_eq_none (by rw [entF_len, List.length_replicate]; omega)]
    rfl
theorem ents_has {w : World} {g N : Nat} {b : Nat} (h : w.ownsRow b 37 8 (.slice (some ⟨g, 0, none⟩) N N) N (madeCells (Value.agg (entC ent0)).cells (N * 8)).toList) : Has w g 37 (entF (List.replicate N ent0)).toArray := by
  rcases h.2 with ⟨hv, _⟩ | ⟨g', cap, cur, hv, hg, hc, hle, hm, hs, hx⟩
  · cases hv
  · injection hv with h1 h2 h3
    injection h1 with h1
    injection h1 with h1
    subst h1
    unfold Has
    rw [hc]
    congr 1
    congr 1
    rw [ent_made] at hx
    rw [List.take_of_length_le (by rw [Array.length_toList, hs, ← h3]; exact Nat.le_refl _)] at hx
    rw [← hx]

/-- A copy of entries into a block that is known whole. -/
theorem run_copy_ents (w : World) (ty : TypeId) (g off : Nat) (dp : Option Addr) (dLen dCap : Nat) (sp : Option Addr) (sCap : Nat) (cur : List Value) (l : List EntV) (h : Sl w sp sCap 8 (entR l)) (hg : Has w g 37 cur.toArray) (hd : 0 < l.length → dp = some ⟨g, off, none⟩) (hle : l.length ≤ dLen) (hfit : off + l.length * 8 ≤ cur.length) :
    (Builtin.copy_ #[38, 38] ty #[.slice dp dLen dCap, .slice sp l.length sCap]).run Try.prog w = .ok (goInt l.length) (w.setRow g (splice cur off (entF l)).toArray) := by
  obtain ⟨i, hq, _, hi, _⟩ := ent_info
  have hmin : Nat.min l.length dLen = l.length := Nat.min_eq_left hle
  by_cases h0 : l.length = 0
  · obtain rfl : l = [] := List.eq_nil_of_length_eq_zero h0
    have hw : w.setRow g (splice cur off (entF [])).toArray = w := by
      have e : splice cur off (entF []) = cur := by
        unfold splice entF entR
        simp
      rw [e]
      exact setRow_self w g cur.toArray 37 (0, 0) hg
    rw [hw]
    have hl : ∀ (x : Addr), (loadCells x 0).run Try.prog w = .ok #[] w := fun x => by simpa using run_loadCells_list (P := Try.prog) w x [] (by simp)
    have hm : Nat.min 0 dLen = 0 := Nat.zero_min _
    cases dp <;> cases sp <;> simp [Builtin.copy_, run_underlying Try.underlying38, Builtin.lenOf, Builtin.firstCells, sizeOf, typeInfo, hq, hm, storeCells, hl]
  · obtain rfl := hd (by omega)
    cases sp with
    | none => have := h.nil rfl; have := h.ent_le; omega
    | some ad =>
      have hl := run_loadCells_list (P := Try.prog) w ad (entF l) h.cells
      have hst := run_storeCells_at Try.prog g off 37 (entF l) 0 cur.toArray w hg (by rw [entF_len, List.size_toArray]; omega) (entF_one l)
      rw [entF_len] at hl
      have e : (splice cur off (entF l)).toArray = (cur.toArray.toList.take (off + 0) ++ entF l ++ cur.toArray.toList.drop (off + 0 + (entF l).length)).toArray := by
        unfold splice
        simp
      rw [e]
      simp [Builtin.copy_, run_underlying Try.underlying38, Builtin.lenOf, Builtin.firstCells, sizeOf, typeInfo, hq, hi, hmin, hl]
      simp at hst
      rw [hst]
      simp [Result.andThen]

theorem wpList_copy_ents {ops : Array Oper} {rest : List Oper} {o : Oper} {a : Act} {w : World} {Q : Exit → Act → World → Prop} (hgd : o.guard = none) (d s : Operand)
    (ho : o.op = .call { callee := .builtin .copy, args := #[d, s], argTypes := #[38, 38] }) (g off : Nat) (dp : Option Addr) (dLen dCap : Nat) (sp : Option Addr) (sCap : Nat) (cur : List Value) (l : List EntV)
    (hdv : a.eval d = .slice dp dLen dCap) (hsv : a.eval s = .slice sp l.length sCap) (h : Sl w sp sCap 8 (entR l)) (hg : Has w g 37 cur.toArray) (hd : 0 < l.length → dp = some ⟨g, off, none⟩) (hle : l.length ≤ dLen) (hfit : off + l.length * 8 ≤ cur.length)
    (W : World) (hW : w.setRow g (splice cur off (entF l)).toArray = W) (hK : wpList Try.prog ops Q rest (a.put o.dst (.int .i64 (l.length : Int))) W) : wpList Try.prog ops Q (o :: rest) a w := by
  refine wpList_plain hgd fun K hK' => ?_
  have hr := run_copy_ents w o.type g off dp dLen dCap sp sCap cur l h hg hd hle hfit
  unfold Oper.wp
  simp [execOp, ho, resolve, invoke, builtin, hdv, hsv, hr, Result.andThen]
  rw [hW]
  exact hK' _ _ hK

theorem splice_first (l m : List EntV) : splice (entF (List.replicate (l.length + m.length) ent0)) 0 (entF l) = entF (l ++ List.replicate m.length ent0) := by
  unfold splice
  rw [entF_app, entF_len, Nat.zero_add, List.take_zero, List.nil_append]
  congr 1
  rw [show List.replicate (l.length + m.length) ent0 = List.replicate l.length ent0 ++ List.replicate m.length ent0 from (List.replicate_append_replicate).symm, entF_app]
  have : l.length * 8 = (entF (List.replicate l.length ent0)).length := by rw [entF_len, List.length_replicate]
  rw [this, List.drop_left]
theorem splice_second (l m : List EntV) : splice (entF (l ++ List.replicate m.length ent0)) (l.length * 8) (entF m) = entF (l ++ m) := by
  unfold splice
  rw [entF_app, entF_app]
  have e1 : l.length * 8 = (entF l).length := (entF_len l).symm
  rw [e1, List.take_left, List.drop_append, show (entF l).length + (entF m).length - (entF l).length = (entF m).length by omega]
  have e2 : (entF m).length = (entF (List.replicate m.length ent0)).length := by rw [entF_len, entF_len, List.length_replicate]
  rw [List.drop_of_length_le (show (entF l).length ≤ (entF l).length + (entF m).length by omega), List.drop_of_length_le (show (entF (List.replicate m.length ent0)).length ≤ (entF m).length by omega)]
  simp

set_option maxHeartbeats 4000000 in
theorem joined_any (ao bo : Option Addr) (c d : Nat) (l m : List EntV) (w : World) (h : Sl w ao c 8 (entR l)) (h' : Sl w bo d 8 (entR m)) (hn : l.length + m.length ≤ 2000) :
    Calls Try.prog 44 #[.slice ao l.length c, .slice bo m.length d] w fun en w' => ∃ g, w.heap.size ≤ g ∧ en = .returned (.slice (some ⟨g, 0, none⟩) (l ++ m).length (l ++ m).length) ∧ Has w' g 37 (entF (l ++ m)).toArray ∧ Below w.heap.size w w' := by
  obtain ⟨i0, hi, hz0, hz1, hz2⟩ := ent_info
  have hle := h.ent_le
  have hcap := h.cap
  have hle' := h'.ent_le
  have hcap' := h'.cap
  have hb2 : i0.bytes * (l.length + m.length) ≤ 281474976710656 := Nat.le_trans (Nat.mul_le_mul hz2 hn) (by decide)
  have hlm : Hid ((l ++ m).length = l.length + m.length) := List.length_append
  go_enter Try.func44, Try.ntmps44
  go_wp2_with (first
    | (refine wpList_make_full _ rfl _ _ 38 rfl w.heap.size 37 i0 (.agg (entC ent0)) 8 Try.underlying38 hi hz0 hz1 _ _ _ _ (l.length + m.length) rfl rfl rfl rfl hb2 (by unfold maxLen; omega) (Nat.le_refl _) ?_))
  intro w1 hown hgrow
  have hb1 : Below w.heap.size w w1 := (Below.refl w.heap.size w).grown hgrow (Nat.le_refl _) (fun k hk => by cases hk)
  have hR0 := ents_has hown
  have hR1 := hR0.row (splice (entF (List.replicate (l.length + m.length) ent0)) 0 (entF l)).toArray
  have hf1 : 0 + l.length * 8 ≤ (entF (List.replicate (l.length + m.length) ent0)).length := by rw [entF_len, List.length_replicate]; omega
  rw [splice_first l m] at hR1
  obtain ⟨w2, hw2⟩ : ∃ W, w1.setRow w.heap.size (splice (entF (List.replicate (l.length + m.length) ent0)) 0 (entF l)).toArray = W := ⟨_, rfl⟩
  have hb2' : Below w.heap.size w w2 := hw2 ▸ below_setRow hb1 (Nat.le_refl _) _
  rw [splice_first l m] at hw2
  rw [hw2] at hR1
  rw [← splice_first l m] at hw2
  have hf2 : l.length * 8 + m.length * 8 ≤ (entF (l ++ List.replicate m.length ent0)).length := by rw [entF_len, List.length_append, List.length_replicate]; omega
  have hR2 := hR1.row (splice (entF (l ++ List.replicate m.length ent0)) (l.length * 8) (entF m)).toArray
  have hb3 := below_setRow hb2' (Nat.le_refl _) (splice (entF (l ++ List.replicate m.length ent0)) (l.length * 8) (entF m)).toArray
  obtain ⟨w3, hw3⟩ : ∃ W, w2.setRow w.heap.size (splice (entF (l ++ List.replicate m.length ent0)) (l.length * 8) (entF m)).toArray = W := ⟨_, rfl⟩
  rw [hw3] at hR2 hb3
  rw [splice_second l m] at hR2
  have hrest := fun W => run_rest W (some ⟨w.heap.size, 0, none⟩) (l.length + m.length) (l.length + m.length) l.length (by omega) (Nat.le_refl _)
  rw [show l.length + m.length - l.length = m.length by omega] at hrest
  have hcut : 0 < m.length → cutAddr (some ⟨w.heap.size, 0, none⟩) (l.length + m.length) l.length = some ⟨w.heap.size, l.length * 8, none⟩ := fun hm => by
    unfold cutAddr
    rw [if_neg (by omega)]
    show some (Addr.add _ _) = _
    rw [Addr.add_mid, Nat.zero_add]
  have hS1 := h.later hb1
  have hS2 := h'.later hb2'
  clear hown hgrow
  generalize cutAddr (some ⟨w.heap.size, 0, none⟩) (l.length + m.length) l.length = co at *
  go_wp2_with (first
    | (refine wpList_copy_ents rfl _ _ rfl w.heap.size 0 (some ⟨w.heap.size, 0, none⟩) (l.length + m.length) (l.length + m.length) ao c (entF (List.replicate (l.length + m.length) ent0)) l rfl rfl ?h1 ?h2 ?h3 ?h4 ?h5 w2 ?h6 ?_; (case h1 => exact hS1); (case h2 => exact hR0); (case h3 => exact fun _ => rfl); (case h4 => omega); (case h5 => exact hf1); (case h6 => exact hw2); clear hw2)
    | (refine wpList_copy_ents rfl _ _ rfl w.heap.size (l.length * 8) co m.length m.length bo d (entF (l ++ List.replicate m.length ent0)) m rfl rfl ?h1 ?h2 ?h3 ?h4 ?h5 w3 ?h6 ?_; (case h1 => exact hS2); (case h2 => exact hR1); (case h3 => exact hcut); (case h4 => omega); (case h5 => exact hf2); (case h6 => exact hw3); clear hw3))
  go_ret
  exact ⟨w.heap.size, Nat.le_refl _, by rw [hlm.out]; rfl, hR2, hb3⟩

theorem done_take (b : BaseV) (l : List EntV) (n : Nat) (h : n < l.length) : doneM b (l.take (n + 1)) = (doM (doneM b (l.take n)) l[n].op).1 := by
  rw [List.take_succ_eq_append_getElem h, done_app]
  rfl

set_option maxHeartbeats 4000000 in
theorem done_any (b : BaseV) (ao : Option Addr) (c : Nat) (l : List EntV) (w : World) (hb0 : BaseOk b) (h : Sl w ao c 8 (entR l)) (hl : ∀ e ∈ l, EntOk e) (hn : l.length ≤ 1000) :
    Calls Try.prog 52 #[.agg (baseC b), .slice ao l.length c] w fun en w' => en = .returned (.agg (baseC (doneM b l))) ∧ Below w.heap.size w w' := by
  obtain ⟨w1, hw1, hB, hR, hb⟩ := two_vars w 33 33 (baseC b) (baseC base0)
  have hle := h.ent_le
  have hcap := h.cap
  go_enter Try.func52, Try.ntmps52
  go_wp2_with (first
    | (refine wpList_alloc_has (by rfl) 33 rfl (baseC base0) base_zero ?_; rw [hw1]))
  go_loopw [9] (fun i wr => ∃ n : Nat, n ≤ l.length ∧ i = .int .i64 n ∧ Has wr w.heap.size 33 (baseC (doneM b (l.take n))) ∧ Has wr (w.heap.size + 1) 33 (baseC base0) ∧ Below w.heap.size w wr) (fun i _ => l.length - (intOf i).toNat)
  case atStart => exact ⟨0, Nat.zero_le _, rfl, hB, hR, hb⟩
  case round =>
    clear hB hR hb
    obtain ⟨n, hn, rfl, hB, hR, hb⟩ := hrel
    by_cases hlt : n < l.length
    · cases ao with
      | none => have := h.nil rfl; omega
      | some ad =>
        have hx := ent_at (h.later hb) n hlt
        have hxo := hl l[n] (List.getElem_mem hlt)
        have hbo := done_in hb0 (l.take n) (fun e he => hl e (List.mem_of_mem_take he))
        have hnext : Hid _ := done_take b l n hlt
        have hltI : (n : Int) < (l.length : Int) := by omega
        generalize l[n] = x at *
        generalize doneM b (l.take n) = B at *
        obtain ⟨w3, hw3, hX, hq⟩ := new_var wr 37 (entC ent0) (entC x)
        have hxop := hX.ent_op
        replace hB := hB.later hq
        replace hR := hR.later hq
        replace hb := hb.trans (hq.mono hb.size)
        clear hq
        go_wp2_with (first
          | (refine wpList_load_any (by rfl) 37 _ rfl _ rfl (entL x) _ ?hg Try.underlying37 rfl (ent_size x) ?_; (case hg => exact hx))
          | (refine wpList_alloc_has (by rfl) 37 rfl (entC ent0) ent_zero ?_)
          | (refine wpList_store_to (by rfl) 37 _ _ rfl wr.heap.size rfl (entC x) rfl 37 (entC ent0) (ent_size _) rfl (ent_one _) ?hg w3 ?hW ?_; (case hg => exact Has.new _ _ _); (case hW => exact hw3); clear hw3)
          | (refine wpList_load_has (by rfl) 33 _ rfl w.heap.size rfl 33 (baseC B) _ Try.underlying33 rfl (base_size _) ?hg ?_; (case hg => exact hB))
          | (refine wpList_load_mid' (by rfl) 35 _ rfl wr.heap.size 2 rfl (opL x.op) _ ?hg Try.underlying35 rfl (op_size _) ?_; (case hg => exact hxop)))
        refine (do_any B x.op _ hbo hxo.op).mono ?_
        rintro en w4 ⟨rfl, hq⟩
        replace hB := hB.later hq
        replace hR := hR.later hq
        replace hb := hb.trans (hq.mono hb.size)
        clear hq hX hx hxop
        generalize (doM B x.op).1 = C at *
        have hB4 := hB.row (baseC C)
        have hR4 := hR.row_other (k := w.heap.size) (by omega) (baseC C)
        have hb4 := below_setRow hb (Nat.le_refl _) (baseC C)
        go_wp2_with (first
          | (refine wpList_store_has (by rfl) 33 _ _ rfl w.heap.size rfl (baseC C) rfl 33 (baseC B) (base_size _) rfl (base_one _) ?hg ?_; (case hg => exact hB)))
        go_roundw
        case rel => exact ⟨n + 1, by omega, by go_num, by rw [hnext.out]; exact hB4, hR4, hb4⟩
        case measure => simp [intOf]; omega
    · have e5 : n = l.length := by omega
      subst e5
      rw [List.take_length] at hB
      have hz := hR.row (baseC (doneM b l))
      have hbz := below_setRow hb (show w.heap.size ≤ w.heap.size + 1 by omega) (baseC (doneM b l))
      go_wp2_with (first
        | (refine wpList_load_has (by rfl) 33 _ rfl w.heap.size rfl 33 (baseC (doneM b l)) _ Try.underlying33 rfl (base_size _) ?hg ?_; (case hg => exact hB))
        | (refine wpList_store_has (by rfl) 33 _ _ rfl (w.heap.size + 1) rfl (baseC (doneM b l)) rfl 33 (baseC base0) (base_size _) rfl (base_one _) ?hg ?_; (case hg => exact hR)))
      exact ret_has rfl (w.heap.size + 1) rfl 33 (baseC (doneM b l)) _ Try.underlying33 rfl (base_size _) hz rfl ⟨rfl, hbz⟩
end Go.Proofs.Ytphlfepgaghhhaa
