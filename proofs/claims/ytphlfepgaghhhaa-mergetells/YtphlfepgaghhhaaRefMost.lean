/- RefMore, RefFind, joined. -/
import Derived.Test.YtphlfepgaghhhaaLogAdd
import Derived.Maps.AppendAt
import Derived.Test.YtphlfepgaghhhaaRefDo
import Derived.Test.YtphlfepgaghhhaaRefHead
import Derived.Test.YtphlfepgaghhhaaMergeMath
import Derived.Test.YtphlfepgaghhhaaLogRow
import Derived.Test.YtphlfepgaghhhaaAny
import Derived.Test.YtphlfepgaghhhaaRefUpto
namespace Go.Proofs.Ytphlfepgaghhhaa
set_option linter.unusedSimpArgs false
set_option linter.unusedVariables false
set_option maxRecDepth 100000
open Go.RowKit

theorem ent_info8 : ∃ i, Try.prog.info? 37 = some i ∧ i.zero = some (.agg (entC ent0)) ∧ i.size = 8 ∧ i.bytes = 40 := by
  have h : (Try.prog.info? 37).map (fun i => (i.zero, i.size, i.bytes)) = some (some (.agg (entC ent0)), 8, 40) := by kernel_rfl
  cases hi : Try.prog.info? 37 with
  | none => rw [hi] at h; cases h
  | some i =>
    rw [hi] at h
    simp only [Option.map_some, Option.some.injEq, Prod.mk.injEq] at h
    exact ⟨i, rfl, h.1, h.2.1, h.2.2⟩
theorem run_append8 (w : World) (ty : TypeId) (base : Nat) (v : Value) (m l : List EntV) (hown : w.ownsRow base 37 8 v m.length (entF m)) (ao : Option Addr) (c : Nat) (h : Sl w ao c 8 (entR l)) (hl : m.length + l.length ≤ 1000) (hbase : base ≤ w.heap.size) :
    ∃ v' w', (Builtin.append_ #[38, 38] ty #[v, .slice ao l.length c]).run Try.prog w = .ok v' w' ∧ w'.ownsRow base 37 8 v' (m ++ l).length (entF (m ++ l)) ∧ w.grownBy w' v.ownBlock := by
  obtain ⟨i0, hi, hz0, hz1, hz2⟩ := ent_info8
  cases ao with
  | none =>
    have h0 : l = [] := by have := h.nil rfl; have := h.ent_le; exact List.eq_nil_of_length_eq_zero (by omega)
    have hc := h.nil rfl
    subst h0 hc
    exact ⟨v, w, run_append_owned_none (P := Try.prog) (w := w) base 38 ty 37 i0 8 Try.underlying38 hi v m.length (entF m) hown, by rw [List.append_nil]; exact hown, World.grownBy.refl _ _⟩
  | some ad =>
    obtain ⟨v', w', hr, h2, h3, h4, h5⟩ := run_append_own_at (P := Try.prog) w base 38 ty 37 i0 (.agg (entC ent0)) 8 40 Try.underlying38 hi hz0 hz1 hz2 rfl (by decide) v m.length (entF m) hown ad l.length c (entF l) (entF_len l) h.cells (entF_one l) (by unfold maxLen; omega) (by omega) hbase
    refine ⟨v', w', hr, ?_, h3⟩
    rw [List.length_append, entF_app]
    exact h2
theorem own_nil8 (w : World) (base : Nat) : w.ownsRow base 37 8 (.slice none 0 0) ([] : List EntV).length (entF []) := World.ownsRow_nil _ _ _ _
/-- A row of one's own, as a slice of entries. -/
theorem ents_own8 {w : World} {base n : Nat} {v : Value} {l : List EntV} (h : w.ownsRow base 37 8 v n (entF l)) : ∃ ao c, v = .slice ao l.length c ∧ Sl w ao c 8 (entR l) ∧ (∀ d, ao = some d → base ≤ d.block ∧ d.block < w.heap.size) := by
  have hl : n = l.length := by have := h.1; rw [entF_len] at this; omega
  subst hl
  rcases h.2 with ⟨hv, h0⟩ | ⟨g, cap, cur, hv, hg, hc, hle, hm, hcur⟩
  · have : l = [] := List.eq_nil_of_length_eq_zero (by omega)
    subst this
    exact ⟨none, 0, by rw [hv]; rfl, Sl.nothing _ _, fun d hd => by cases hd⟩
  · refine ⟨some ⟨g, 0, none⟩, cap, hv, ⟨by rw [entR_len]; omega, Nat.le_trans hm (by unfold maxLen; omega), (fun h => by cases h), entR_each l, fun ad had i hi j hj => ?_⟩, fun d hd => by obtain rfl := Option.some.inj hd; exact ⟨hg, (Array.getElem?_eq_some_iff.1 hc).1⟩⟩
    obtain rfl := Option.some.inj had
    have hf := flatten_at (entR l) (entR_each l) i hi j hj
    have hl3 := entR_each l _ (List.getElem_mem hi)
    rw [List.getElem?_eq_getElem (show j < ((entR l)[i]).length by omega)] at hf ⊢
    exact h.cells (g := g) (by rw [hv]; rfl) _ _ hf
/-- append([]Entry(nil), l...): a log of one's own. -/
theorem append_new (w : World) (ty : TypeId) (l : List EntV) (ao : Option Addr) (c : Nat) (h : Sl w ao c 8 (entR l)) (hl : l.length ≤ 1000) :
    ∃ go gc w', (Builtin.append_ #[38, 38] ty #[.slice none 0 0, .slice ao l.length c]).run Try.prog w = .ok (.slice go l.length gc) w' ∧ Sl w' go gc 8 (entR l) ∧ (∀ d, go = some d → w.heap.size ≤ d.block) ∧ Below w.heap.size w w' := by
  obtain ⟨v', w', hr, hown, hg⟩ := run_append8 w ty w.heap.size (.slice none 0 0) [] l (own_nil8 _ _) ao c h (by simpa using hl) (Nat.le_refl _)
  rw [List.nil_append] at hown
  obtain ⟨go, gc, rfl, hS, hn⟩ := ents_own8 hown
  exact ⟨go, gc, w', hr, hS, fun d hd => (hn d hd).1, (Below.refl _ _).grown hg (Nat.le_refl _) (fun k hk => by cases hk)⟩
theorem run_append_op {o : Oper} {ev : Operand → Value} (s x : Operand) (t u : TypeId) (hop : o.op = .call { callee := .builtin .append, args := #[s, x], argTypes := #[t, u] }) (v xv : Value) (hs : ev s = v) (hx : ev x = xv) (v' : Value) (w W : World) (hr : (Builtin.append_ #[t, u] o.type #[v, xv]).run Try.prog w = .ok v' W) : (execOp ev o).run Try.prog w = .ok (.value v') W := by
  unfold execOp
  simp only [hop, resolve, invoke, builtin, Sem.run_bind, Sem.run_pure, Result.andThen_ok, List.map_toArray, List.map_cons, List.map_nil, hs, hx, hr]
theorem wpList_append8 {ops : Array Oper} {rest : List Oper} {o : Oper} {a : Act} {w : World} {Q : Exit → Act → World → Prop} (hw : Region.wanted o (yielded ops a.tmps) = true) (s x : Operand) (t u : TypeId) (hop : o.op = .call { callee := .builtin .append, args := #[s, x], argTypes := #[t, u] }) (v xv : Value) (hs : a.eval s = v) (hx : a.eval x = xv) (v' : Value) (W : World) (hr : (Builtin.append_ #[t, u] o.type #[v, xv]).run Try.prog w = .ok v' W)
    (h : wpList Try.prog ops Q rest (a.put o.dst v') W) : wpList Try.prog ops Q (o :: rest) a w := by
  refine BigFrame.wpList_want hw fun K hK => ?_
  unfold Oper.wp
  rw [run_append_op s x t u hop v xv hs hx v' w W hr]
  exact hK _ _ h
section
variable {ops : Array Oper} {Q : Exit → Act → World → Prop} {S : World → Prop}
theorem plan_append8 {i : Nat} {p : Plan} {a : Act} {w : World} (o : Oper) (ho : nth ops.toList i = some o) (hw : Region.wanted o (yielded ops a.tmps) = true) (s x : Operand) (t u : TypeId) (hop : o.op = .call { callee := .builtin .append, args := #[s, x], argTypes := #[t, u] }) (v xv : Value) (hs : a.eval s = v) (hx : a.eval x = xv) (v' : Value) (W : World) (hr : (Builtin.append_ #[t, u] o.type #[v, xv]).run Try.prog w = .ok v' W)
    (hS : S W) (h : wpPlan Try.prog ops Q S p (a.put o.dst v') W) : wpPlan Try.prog ops Q S (Plan.run i p) a w := by
  refine plan_run o ho fun K hK => ?_
  rw [if_pos hw]
  unfold Oper.wp
  rw [run_append_op s x t u hop v xv hs hx v' w W hr]
  exact hK.out _ _ hS h
theorem plan_slice_one8 {i : Nat} {p : Plan} {a : Act} {w : World} (o : Oper) (ho : nth ops.toList i = some o) (hw : Region.wanted o (yielded ops a.tmps) = true) (t : TypeId) (x : Operand) (hop : o.op = .buildSlice t 1 #[(0, x)]) (q : Value) (hx : a.eval x = q) (v : Value) (W : World) (hr : (Instr.buildSlice t 1 #[(0, q)]).run Try.prog w = .ok v W)
    (hS : S W) (h : wpPlan Try.prog ops Q S p (a.put o.dst v) W) : wpPlan Try.prog ops Q S (Plan.run i p) a w := by
  refine plan_run o ho fun K hK => ?_
  rw [if_pos hw]
  have e : (execOp a.eval o).run Try.prog w = .ok (.value v) W := by
    unfold execOp
    simp only [hop]
    simp [hx, Sem.run_bind, hr, Result.andThen_ok, Sem.run_pure]
  unfold Oper.wp
  rw [e]
  exact hK.out _ _ hS h
end


theorem pop_is {s : StV} {x : EntV} {l : List EntV} (h : s.log = x :: l) : foldK s 1 = ⟨s.started, (doM s.base x.op).1, posE x, l⟩ := by
  unfold foldK
  rw [h]
  rfl

set_option maxHeartbeats 4000000 in
theorem refpop_any (s : StV) (ao : Option Addr) (c : Nat) (w : World) (hs : StOk s) (hB : BaseOk s.base) (h : Sl w ao c 8 (entR s.log)) (hn : 0 < s.log.length) :
    Calls Try.prog 47 #[.agg (stC s ao c)] w fun en w' => ∃ ro rc, en = .returned (.agg (stC (foldK s 1) ro rc)) ∧ Gives w w' (foldK s 1) ro rc := by
  obtain ⟨w1, hw1, hX, hR, hb⟩ := two_vars w 40 40 (stC s ao c) (stC st0 none 0)
  have hle := h.ent_le
  have hcap := h.cap
  have hlen := hs.len
  cases ao with
  | none => have := h.nil rfl; omega
  | some ad =>
  have hx := ent_at (h.later hb) 0 hn
  have hxo := hs.log s.log[0] (List.getElem_mem hn)
  have hM : Hid (foldK s 1 = ⟨s.started, (doM s.base s.log[0].op).1, posE s.log[0], s.log.drop 1⟩) := by
    show _ = _
    have e := List.drop_eq_getElem_cons hn
    rw [List.drop_zero] at e
    exact pop_is e
  have hrest : ∀ W, (Instr.slice 38 (.slice (some ad) s.log.length c) (some (.int .i64 1)) none none).run Try.prog W = .ok (.slice (cutAddr (some ad) c 1) (s.log.length - 1) (c - 1)) W := fun W => run_rest W (some ad) s.log.length c 1 (by omega) hle
  have hlen2 : (s.log.drop 1).length = s.log.length - 1 := List.length_drop
  have happ := fun W ty (hW : Below w.heap.size w W) => append_new W ty (s.log.drop 1) (cutAddr (some ad) c 1) (c - 1) ((h.later hW).drop 1 (by omega)) (by omega)
  rw [hlen2] at happ
  have hl := hX.st_log
  have hnI : (0 : Int) < (s.log.length : Int) := by omega
  generalize cutAddr (some ad) c 1 = co at *
  generalize s.log[0] = x at *
  obtain ⟨w2, hw2, hE, hq⟩ := new_var w1 37 (entC ent0) (entC x)
  have hlt1 := hR.lt
  replace hX := hX.later hq
  replace hR := hR.later hq
  replace hb := hb.trans (hq.mono hb.size)
  clear hq
  have hxop := hE.ent_op
  have hBx := hX.st_base
  go_enter Try.func47, Try.ntmps47
  go_wp2_with (first
    | (refine wpList_alloc_has (by rfl) 40 rfl (stC st0 none 0) st_zero ?_; rw [hw1])
    | (refine wpList_load_any (by rfl) 37 _ rfl _ rfl (entL x) _ ?hg Try.underlying37 rfl (ent_size x) ?_; (case hg => exact hx))
    | (refine wpList_alloc_has (by rfl) 37 rfl (entC ent0) ent_zero ?_)
    | (refine wpList_store_to (by rfl) 37 _ _ rfl w1.heap.size rfl (entC (x)) rfl 37 (entC ent0) (ent_size _) rfl (ent_one _) ?hg w2 ?hW ?_; (case hg => exact Has.new _ _ _); (case hW => exact hw2); clear hw2)
    | (refine wpList_load_mid' (by rfl) 33 _ rfl (w.heap.size) (1) rfl (baseL s.base) _ ?hg Try.underlying33 rfl (base_size _) ?_; (case hg => exact hBx))
    | (refine wpList_load_mid' (by rfl) 35 _ rfl (w1.heap.size) (2) rfl (opL x.op) _ ?hg Try.underlying35 rfl (op_size _) ?_; (case hg => exact hxop))
    | fail)
  refine (refdo_any s.base x.op _ hB hxo.op).mono ?_
  rintro en w3 ⟨rfl, hq⟩
  have hgE : w.heap.size + 1 < w1.heap.size := hlt1
  replace hX := hX.later hq
  replace hR := hR.later hq
  replace hE := hE.later hq
  replace hb := hb.trans (hq.mono hb.size)
  clear hq hBx hxop hl hx
  generalize (doM s.base x.op).1 = B at *
  generalize (doM s.base x.op).2 = rs at *
  have ht : Hid (w3.there w.heap.size 1 (baseC B).size) := hX.there 1 39 (by show 1 + 39 ≤ 49; omega)
  have hX3 : Has (w3.setCells w.heap.size 1 (baseC B).toList) w.heap.size 40 (stC ⟨s.started, B, s.tail, s.log⟩ (some ad) c) := hX.setBase B
  have hR3 := hR.cells_other (k := w.heap.size) (by omega) (baseC B).toList 1
  have hE3 := hE.cells_other (k := w.heap.size) (by omega) (baseC B).toList 1
  have hb3 := below_setCells hb (Nat.le_refl w.heap.size) (baseC B).toList 1
  obtain ⟨w4, hw4⟩ : ∃ W, w3.setCells w.heap.size 1 (baseC B).toList = W := ⟨_, rfl⟩
  rw [hw4] at hX3 hR3 hE3 hb3
  have e0 := hE3.ent_since
  have e1 := hE3.ent_n
  have ht4 : Hid (w4.there w.heap.size 40 (entC (posE x)).size) := hX3.there 40 8 (by show 40 + 8 ≤ 49; omega)
  have hX5 : Has (w4.setCells w.heap.size 40 (entC (posE x)).toList) w.heap.size 40 (stC ⟨s.started, B, posE x, s.log⟩ (some ad) c) := hX3.setTail (posE x)
  have hR5 := hR3.cells_other (k := w.heap.size) (by omega) (entC (posE x)).toList 40
  have hb5 := below_setCells hb3 (Nat.le_refl w.heap.size) (entC (posE x)).toList 40
  obtain ⟨w6, hw6⟩ : ∃ W, w4.setCells w.heap.size 40 (entC (posE x)).toList = W := ⟨_, rfl⟩
  rw [hw6] at hX5 hR5 hb5
  have l6 := hX5.st_log
  obtain ⟨go, gc, w7, hr7, hG, hgn, hq⟩ := happ w6 38 hb5
  have hgs : ∀ d, go = some d → w.heap.size + 1 < d.block := fun d hd => by have := hgn d hd; have := hR5.lt; omega
  have hX6 := hX5.later hq
  have hR6 := hR5.later hq
  have hb6 := hb5.trans (hq.mono hb5.size)
  have c48 := hX6.st_log
  have f48 := hX6.free 48
  have hX7 := hX6.setLog (s.log.drop 1) go gc
  rw [hlen2] at hX7
  have hR7 := hR6.set_other (a := ⟨w.heap.size, 48, none⟩) (show w.heap.size + 1 ≠ w.heap.size by omega) (.slice go (s.log.length - 1) gc)
  have hG7 := hG.cell_other (a := ⟨w.heap.size, 48, none⟩) (fun d hd => by have := hgs d hd; show d.block ≠ w.heap.size; omega) (.slice go (s.log.length - 1) gc)
  have hb7 := hb6.setCell (show w.heap.size ≤ (⟨w.heap.size, 48, none⟩ : Addr).block from Nat.le_refl _) (.slice go (s.log.length - 1) gc)
  obtain ⟨w8, hw8⟩ : ∃ W, w7.setCell ⟨w.heap.size, 48, none⟩ (.slice go (s.log.length - 1) gc) = W := ⟨_, rfl⟩
  rw [hw8] at hX7 hR7 hG7 hb7
  have hX8 : Has w8 w.heap.size 40 (stC ⟨s.started, B, posE x, s.log.drop 1⟩ go gc) := hX7
  have hG8 : Sl w8 go gc 8 (entR (⟨s.started, B, posE x, s.log.drop 1⟩ : StV).log) := hG7
  rw [← hM.out] at hX8 hG8
  obtain ⟨F, hF⟩ : ∃ F, foldK s 1 = F := ⟨_, rfl⟩
  rw [hF] at hX8 hG8
  replace hF : Hid _ := hF
  have hz := hR7.row (stC F go gc)
  have hsl := hG8.row_other (k := w.heap.size + 1) (fun d hd => by have := hgs d hd; omega) (stC F go gc)
  have hbz := below_setRow hb7 (show w.heap.size ≤ w.heap.size + 1 by omega) (stC F go gc)
  have hgn2 : ∀ d, go = some d → w.heap.size ≤ d.block := fun d hd => by have := hgs d hd; omega
  clear hX hR hE hb hX3 hR3 hb3 hE3 hX5 hR5 hb5 hX6 hR6 hb6 hX7 hG7 hG hq hM
  go_wp2_with (first
    | (refine wpList_store_mid' (by rfl) 33 _ _ rfl w.heap.size 1 (baseC B) rfl rfl ?hg (base_size B) (base_one B) ?_; (case hg => exact ht.out); rw [hw4])
    | (refine wpList_build_two (by rfl) 37 0 1 _ _ rfl (.int .u32 (x.since : Int)) (.int .u32 (x.n : Int)) rfl rfl (entC (posE x)) (pos_built x.since x.n) ?_)
    | (refine wpList_store_mid' (by rfl) 37 _ _ rfl w.heap.size 40 (entC (posE x)) rfl rfl ?hg (ent_size _) (ent_one _) ?_; (case hg => exact ht4.out); rw [hw6])
    | (refine wpList_append8 (by rfl) _ _ 38 38 rfl (.slice none 0 0) (.slice co (s.log.length - 1) (c - 1)) rfl rfl (.slice go (s.log.length - 1) gc) w7 ?hr ?_; (case hr => exact hr7))
    | (refine wpList_load_has (by rfl) 40 _ rfl (w.heap.size) rfl 40 (stC F go gc) _ Try.underlying40 rfl (st_size _ _ _) ?hg ?_; (case hg => exact hX8))
    | (refine wpList_store_has (by rfl) 40 _ _ rfl (w.heap.size + 1) rfl (stC F go gc) rfl 40 (stC st0 none 0) (st_size _ _ _) (st_same _ _ _ _ _ _) (st_one _ _ _) ?hg ?_; (case hg => exact hR7))
    | fail)
  refine ret_has rfl (w.heap.size + 1) rfl 40 (stC F go gc) _ Try.underlying40 rfl (st_size _ _ _) hz rfl ⟨go, gc, by rw [hF.out], ?_⟩
  rw [hF.out]
  exact ⟨hsl, hgn2, hbz⟩


theorem cut_form {s : StV} {n : Nat} (h : isM s = false) : cutM s n = (st0, 10) := by unfold cutM; rw [reach_form h]; rfl
theorem cut_out {s : StV} {n : Nat} (h : isM s = true) (h1 : n < s.tail.n ∨ (headE s).n < n) : cutM s n = (st0, 141) := by
  unfold cutM
  by_cases h2 : n < s.tail.n
  · rw [reach_below h h2]; rfl
  · rw [reach_above h h2 (h1.resolve_left h2)]; rfl
theorem cut_in {s : StV} {n : Nat} (h : isM s = true) (h1 : ¬ n < s.tail.n) (h2 : ¬ (headE s).n < n) : cutM s n = (withLog s (s.log.take (n - s.tail.n)), 0) := by
  unfold cutM
  rw [reach_in h h1 h2, if_pos rfl]

theorem last_lt9 {s : StV} (hs : StOk s) (hi : isM s = true) : s.tail.n + s.log.length < 4294967296 := by
  have h := head_num hi
  have := (lastE_ok hs.tail hs.log).n
  unfold headE at h
  omega
theorem run_head32 (w : World) (ao : Option Addr) (n c k : Nat) (h : k ≤ c) : (Instr.slice 38 (.slice ao n c) none (some (.int .u32 (k : Int))) none).run Try.prog w = .ok (.slice ao k c) w := by
  rw [run_slice_h w 38 ao n c ents_under .u32 (k : Int) (by omega) (by omega), ents_elem, ent_sizeOf]
  have e : (ao.map (fun x : Addr => x.add 0)) = ao := by
    cases ao with
    | none => rfl
    | some a => exact congrArg some (by unfold Addr.add; split <;> simp_all)
  simp [sliced, Result.andThen, e]
theorem run_sub_u32_9 {P : Program} {o : Oper} {ev : Operand → Value} (ty ty' : TypeId) (x y : Operand) (ho : o.op = .binOp .sub ty x y ty') (n m k : Nat) (hx : ev x = .int .u32 (n : Int)) (hy : ev y = .int .u32 (m : Int)) (hk : n = m + k) (hl : k < 4294967296) (w : World) :
    (execOp ev o).run P w = .ok (.value (.int .u32 (k : Int))) w := by
  subst hk
  have h4 : IntKind.u32.wrap (((m + k : Nat) : Int) - (m : Int)) = (k : Int) := by
    rw [show ((m + k : Nat) : Int) - (m : Int) = (k : Int) by omega]
    simp [IntKind.wrap, IntKind.bits, IntKind.signed]
    omega
  unfold execOp
  simp only [ho, hx, hy]
  simp only [Sem.run_bind, go_sem, h4]
  simp [go_sem, h4]

set_option maxHeartbeats 4000000 in
theorem refcut_any (s : StV) (ao : Option Addr) (c n : Nat) (w : World) (hs : StOk s) (h : Sl w ao c 8 (entR s.log)) (hn : n < 4294967296) :
    Calls Try.prog 24 #[.agg (stC s ao c), .int .u32 (n : Int)] w fun en w' => ∃ ro rc, en = .returned (.tuple #[.agg (stC (cutM s n).1 ro rc), .int .i64 ((cutM s n).2 : Int)]) ∧ Gives w w' (cutM s n).1 ro rc := by
  obtain ⟨w1, hw1, hX, hR, hb⟩ := two_vars w 40 40 (stC s ao c) (stC st0 none 0)
  have hlen := hs.len
  have hle := h.ent_le
  have hcap := h.cap
  go_enter Try.func24, Try.ntmps24
  go_wp2_with (first
    | (refine wpList_alloc_has (by rfl) 40 rfl (stC st0 none 0) st_zero ?_; rw [hw1])
    | (refine wpList_load_has (by rfl) 40 _ rfl (w.heap.size) rfl 40 (stC s ao c) _ Try.underlying40 rfl (st_size _ _ _) ?hg ?_; (case hg => exact hX))
    | fail)
  refine (refhead_any s ao c _ hs (h.later hb)).mono ?_
  rintro en w2 ⟨rfl, hq⟩
  replace hX := hX.later hq
  replace hR := hR.later hq
  replace hb := hb.trans (hq.mono hb.size)
  clear hq hw1
  go_wp2_with (first
    | (refine wpList_load_has (by rfl) 40 _ rfl (w.heap.size) rfl 40 (stC s ao c) _ Try.underlying40 rfl (st_size _ _ _) ?hg ?_; (case hg => exact hX))
    | fail)
  refine (refis_any s ao c _ hs (h.later hb)).mono ?_
  rintro en w3 ⟨rfl, hq⟩
  replace hX := hX.later hq
  replace hR := hR.later hq
  replace hb := hb.trans (hq.mono hb.size)
  clear hq
  have hz := hR.row (stC st0 none 0)
  have hbz := below_setRow hb (show w.heap.size ≤ w.heap.size + 1 by omega) (stC st0 none 0)
  cases hi : isM s with
  | false =>
    have hM : Hid _ := cut_form (n := n) hi
    generalize headM s = hd at *
    go_wp2_with (first
      | (refine wpList_build_has (by rfl) 40 #[] rfl (stC st0 none 0) (by simpa using st_built0) ?_)
      | (refine wpList_store_has (by rfl) 40 _ _ rfl (w.heap.size + 1) rfl (stC st0 none 0) rfl 40 (stC st0 none 0) (st_size _ _ _) (st_same _ _ _ _ _ _) (st_one _ _ _) ?hg ?_; (case hg => exact hR))
      | fail)
    refine ret_has_tmp rfl (w.heap.size + 1) rfl 40 (stC st0 none 0) _ Try.underlying40 rfl (st_size _ _ _) hz rfl ⟨none, 0, by rw [hM.out]; rfl, ?_⟩
    rw [hM.out]
    exact Gives.zero hbz
  | true =>
    have hlt := last_lt9 hs hi
    have hh : Hid _ := head_yes hi
    have hhn := head_num hi
    rw [hh.out]
    have hout : Hid _ := fun h1 => cut_out (n := n) hi h1
    have hin : Hid _ := fun h1 h2 => cut_in (n := n) hi h1 h2
    have htn := hX.st_tail_n
    clear hi hh
    generalize (headE s).since = hs1 at *
    generalize (headE s).n = hn1 at *
    by_cases h1 : n < s.tail.n
    · have h1I : (n : Int) < (s.tail.n : Int) := by omega
      have hM : Hid _ := hout.out (.inl h1)
      clear h1
      go_wp2_with (first
        | (refine wpList_build_has (by rfl) 40 #[] rfl (stC st0 none 0) (by simpa using st_built0) ?_)
        | (refine wpList_store_has (by rfl) 40 _ _ rfl (w.heap.size + 1) rfl (stC st0 none 0) rfl 40 (stC st0 none 0) (st_size _ _ _) (st_same _ _ _ _ _ _) (st_one _ _ _) ?hg ?_; (case hg => exact hR))
        | fail)
      refine ret_has_tmp rfl (w.heap.size + 1) rfl 40 (stC st0 none 0) _ Try.underlying40 rfl (st_size _ _ _) hz rfl ⟨none, 0, by rw [hM.out]; rfl, ?_⟩
      rw [hM.out]
      exact Gives.zero hbz
    · have h1I : ¬ (n : Int) < (s.tail.n : Int) := by omega
      by_cases h2 : hn1 < n
      · have h2I : (hn1 : Int) < (n : Int) := by omega
        have hM : Hid _ := hout.out (.inr h2)
        clear h1 h2
        go_wp2_with (first
          | (refine wpList_build_has (by rfl) 40 #[] rfl (stC st0 none 0) (by simpa using st_built0) ?_)
          | (refine wpList_store_has (by rfl) 40 _ _ rfl (w.heap.size + 1) rfl (stC st0 none 0) rfl 40 (stC st0 none 0) (st_size _ _ _) (st_same _ _ _ _ _ _) (st_one _ _ _) ?hg ?_; (case hg => exact hR))
          | fail)
        refine ret_has_tmp rfl (w.heap.size + 1) rfl 40 (stC st0 none 0) _ Try.underlying40 rfl (st_size _ _ _) hz rfl ⟨none, 0, by rw [hM.out]; rfl, ?_⟩
        rw [hM.out]
        exact Gives.zero hbz
      · have h2I : ¬ (hn1 : Int) < (n : Int) := by omega
        have hM : Hid _ := hin.out h1 h2
        obtain ⟨k, hk⟩ : ∃ k, n = s.tail.n + k := ⟨n - s.tail.n, by omega⟩
        have hkl : k ≤ s.log.length := by omega
        rw [show n - s.tail.n = k by omega] at hM
        have hlen1 : (s.log.take k).length = k := by rw [List.length_take]; omega
        have hhead := fun W => run_head32 W ao s.log.length c k (by omega)
        obtain ⟨go, gc, w7, hr7, hG, hgn, hq⟩ := append_new w3 38 (s.log.take k) ao c ((h.later hb).take k) (by omega)
        rw [hlen1] at hr7
        have hgs : ∀ d, go = some d → w.heap.size + 1 < d.block := fun d hd => by have := hgn d hd; have := hR.lt; omega
        have hl := hX.st_log
        have hX6 := hX.later hq
        have hR6 := hR.later hq
        have hb6 := hb.trans (hq.mono hb.size)
        have c48 := hX6.st_log
        have f48 := hX6.free 48
        have hX7 := hX6.setLog (s.log.take k) go gc
        rw [hlen1] at hX7
        have hR7 := hR6.set_other (a := ⟨w.heap.size, 48, none⟩) (show w.heap.size + 1 ≠ w.heap.size by omega) (.slice go k gc)
        have hG7 := hG.cell_other (a := ⟨w.heap.size, 48, none⟩) (fun d hd => by have := hgs d hd; show d.block ≠ w.heap.size; omega) (.slice go k gc)
        have hb7 := hb6.setCell (show w.heap.size ≤ (⟨w.heap.size, 48, none⟩ : Addr).block from Nat.le_refl _) (.slice go k gc)
        obtain ⟨w8, hw8⟩ : ∃ W, w7.setCell ⟨w.heap.size, 48, none⟩ (.slice go k gc) = W := ⟨_, rfl⟩
        rw [hw8] at hX7 hR7 hG7 hb7
        have hG8 : Sl w8 go gc 8 (entR (withLog s (s.log.take k)).log) := hG7
        obtain ⟨F, hF⟩ : ∃ F, withLog s (s.log.take k) = F := ⟨_, rfl⟩
        rw [hF] at hX7 hG8 hM
        have hzf := hR7.row (stC F go gc)
        have hsl := hG8.row_other (k := w.heap.size + 1) (fun d hd => by have := hgs d hd; omega) (stC F go gc)
        have hbf := below_setRow hb7 (show w.heap.size ≤ w.heap.size + 1 by omega) (stC F go gc)
        have hgn2 : ∀ d, go = some d → w.heap.size ≤ d.block := fun d hd => by have := hgs d hd; omega
        replace hk : Hid _ := hk
        have hk32 : k < 4294967296 := by omega
        clear hX hR hb hX6 hR6 hb6 hG7 hG hq h1 h2 hF hz hbz hlen1 hhn
        generalize hL : s.log.take k = L at *
        clear hL
        go_wp2_with (first
          | (refine wpList_val (.int .u32 (k : Int)) (by rfl) (run_sub_u32_9 _ _ _ _ rfl n s.tail.n k rfl rfl hk.out hk32) ?_)
          | (refine wpList_append8 (by rfl) _ _ 38 38 rfl (.slice none 0 0) (.slice ao k c) rfl rfl (.slice go k gc) w7 ?hr ?_; (case hr => exact hr7))
          | (refine wpList_load_has (by rfl) 40 _ rfl (w.heap.size) rfl 40 (stC F go gc) _ Try.underlying40 rfl (st_size _ _ _) ?hg ?_; (case hg => exact hX7))
          | (refine wpList_store_has (by rfl) 40 _ _ rfl (w.heap.size + 1) rfl (stC F go gc) rfl 40 (stC st0 none 0) (st_size _ _ _) (st_same _ _ _ _ _ _) (st_one _ _ _) ?hg ?_; (case hg => exact hR7))
          | fail)
        refine ret_has_tmp rfl (w.heap.size + 1) rfl 40 (stC F go gc) _ Try.underlying40 rfl (st_size _ _ _) hzf rfl ⟨go, gc, by rw [hM.out]; rfl, ?_⟩
        rw [hM.out]
        exact ⟨hsl, hgn2, hbf⟩

theorem tail_form {s : StV} {n : Nat} (h : isM s = false) : tailM s n = (st0, 10) := by unfold tailM; rw [reach_form h]; rfl
theorem tail_below {s : StV} {n : Nat} (h : isM s = true) (h1 : n < s.tail.n) : tailM s n = (st0, 80) := by unfold tailM; rw [reach_below h h1]; rfl
theorem tail_above {s : StV} {n : Nat} (h : isM s = true) (h1 : ¬ n < s.tail.n) (h2 : (headE s).n < n) : tailM s n = (st0, 141) := by unfold tailM; rw [reach_above h h1 h2]; rfl
theorem tail_in {s : StV} {n : Nat} (h : isM s = true) (h1 : ¬ n < s.tail.n) (h2 : ¬ (headE s).n < n) : tailM s n = (foldK s (n - s.tail.n), 0) := by unfold tailM; rw [reach_in h h1 h2, if_pos rfl]
theorem foldK_tail_n {s : StV} {k : Nat} (h : isM s = true) (hk : k ≤ s.log.length) : (foldK s k).tail.n = s.tail.n + k := by
  show (lastE s.tail (s.log.take k)).n = _
  have hc : chainM s.tail (s.log.take k ++ s.log.drop k) = true := by rw [List.take_append_drop]; exact ((is_is s).1 h).2.2.2.2
  rw [chain_app, Bool.and_eq_true] at hc
  rw [chain_n _ _ hc.1, List.length_take]
  omega
theorem foldK_ok9 {s : StV} (hs : StOk s) (hB : BaseOk s.base) (k : Nat) : StOk (foldK s k) ∧ BaseOk (foldK s k).base := by
  have hd := done_in hB (s.log.take k) (fun x hx => hs.log x (List.mem_of_mem_take hx))
  exact ⟨⟨hs.started, hd.in', lastE_ok hs.tail (fun x hx => hs.log x (List.mem_of_mem_take hx)), fun x hx => hs.log x (List.mem_of_mem_drop hx), by
    show (s.log.drop k).length ≤ 1000
    have := hs.len
    rw [List.length_drop]
    omega⟩, hd⟩

theorem Sl.row_if9 {w : World} {ao : Option Addr} {c sz : Nat} {rows : List (List Value)} (h : Sl w ao c sz rows) {k : Nat} (hk : ∀ d, ao = some d → 0 < rows.length → d.block ≠ k) (c' : Array Value) : Sl (w.setRow k c') ao c sz rows := by
  refine ⟨h.le, h.cap, h.nil, h.each, fun ad had i hi j hj => ?_⟩
  have hc := h.at' ad had i hi j hj
  rw [← hc]
  have hb : (ad.add (i * sz + j)).block = ad.block := by simp [Addr.add]; split <;> rfl
  have hne : (ad.add (i * sz + j)).block ≠ k := by rw [hb]; exact hk ad had (by omega)
  unfold World.cell?
  rw [setRow_other w k _ c' hne]
/-- A state's tail's number, in its variable. -/
def tailN (w : World) (g : Nat) : Nat := match w.cell? ⟨g, 41, none⟩ with
  | some (.int _ z) => z.toNat
  | _ => 0
theorem tailN_is {w : World} {g n : Nat} (h : w.cell? ⟨g, 41, none⟩ = some (.int .u32 (n : Int))) : tailN w g = n := by
  unfold tailN
  rw [h]
  rfl

set_option maxHeartbeats 4000000 in
theorem reftail_any (s : StV) (ao : Option Addr) (c n : Nat) (w : World) (hs : StOk s) (h : Sl w ao c 8 (entR s.log)) (hn : n < 4294967296) :
    Calls Try.prog 26 #[.agg (stC s ao c), .int .u32 (n : Int)] w fun en w' => ∃ ro rc, en = .returned (.tuple #[.agg (stC (tailM s n).1 ro rc), .int .i64 ((tailM s n).2 : Int)]) ∧ Sl w' ro rc 8 (entR (tailM s n).1.log) ∧ (∀ d, ro = some d → 0 < (entR (tailM s n).1.log).length → some d = ao ∨ w.heap.size ≤ d.block) ∧ Below w.heap.size w w' := by
  obtain ⟨w1, hw1, hX, hR, hb⟩ := two_vars w 40 40 (stC s ao c) (stC st0 none 0)
  have hlen := hs.len
  have hle := h.ent_le
  have hcap := h.cap
  go_enter Try.func26, Try.ntmps26
  go_wp2_with (first
    | (refine wpList_alloc_has (by rfl) 40 rfl (stC st0 none 0) st_zero ?_; rw [hw1])
    | (refine wpList_load_has (by rfl) 40 _ rfl (w.heap.size) rfl 40 (stC s ao c) _ Try.underlying40 rfl (st_size _ _ _) ?hg ?_; (case hg => exact hX))
    | fail)
  refine (refhead_any s ao c _ hs (h.later hb)).mono ?_
  rintro en w2 ⟨rfl, hq⟩
  replace hX := hX.later hq
  replace hR := hR.later hq
  replace hb := hb.trans (hq.mono hb.size)
  clear hq hw1
  go_wp2_with (first
    | (refine wpList_load_has (by rfl) 40 _ rfl (w.heap.size) rfl 40 (stC s ao c) _ Try.underlying40 rfl (st_size _ _ _) ?hg ?_; (case hg => exact hX))
    | fail)
  refine (refis_any s ao c _ hs (h.later hb)).mono ?_
  rintro en w3 ⟨rfl, hq⟩
  replace hX := hX.later hq
  replace hR := hR.later hq
  replace hb := hb.trans (hq.mono hb.size)
  clear hq
  have hz := hR.row (stC st0 none 0)
  have hbz := below_setRow hb (show w.heap.size ≤ w.heap.size + 1 by omega) (stC st0 none 0)
  cases hi : isM s with
  | false =>
    have hM : Hid _ := tail_form (n := n) hi
    generalize headM s = hd at *
    go_wp2_with (first
      | (refine wpList_build_has (by rfl) 40 #[] rfl (stC st0 none 0) (by simpa using st_built0) ?_)
      | (refine wpList_store_has (by rfl) 40 _ _ rfl (w.heap.size + 1) rfl (stC st0 none 0) rfl 40 (stC st0 none 0) (st_size _ _ _) (st_same _ _ _ _ _ _) (st_one _ _ _) ?hg ?_; (case hg => exact hR))
      | fail)
    refine ret_has_tmp rfl (w.heap.size + 1) rfl 40 (stC st0 none 0) _ Try.underlying40 rfl (st_size _ _ _) hz rfl ⟨none, 0, by rw [hM.out]; rfl, ?_⟩
    rw [hM.out]
    exact ⟨Sl.nothing _ _, (fun d hd => by cases hd), hbz⟩
  | true =>
    have hlt := last_lt9 hs hi
    have hh : Hid _ := head_yes hi
    have hhn := head_num hi
    have hB := hs.isBase hi
    have hft : Hid _ := fun k hk => foldK_tail_n (k := k) hi hk
    rw [hh.out]
    have hbel : Hid _ := fun h1 => tail_below (n := n) hi h1
    have habv : Hid _ := fun h1 h2 => tail_above (n := n) hi h1 h2
    have hin : Hid _ := fun h1 h2 => tail_in (n := n) hi h1 h2
    have htn := hX.st_tail_n
    clear hi hh
    generalize (headE s).since = hs1 at *
    generalize (headE s).n = hn1 at *
    by_cases h1 : n < s.tail.n
    · have h1I : (n : Int) < (s.tail.n : Int) := by omega
      have hM : Hid _ := hbel.out h1
      clear h1
      go_wp2_with (first
        | (refine wpList_build_has (by rfl) 40 #[] rfl (stC st0 none 0) (by simpa using st_built0) ?_)
        | (refine wpList_store_has (by rfl) 40 _ _ rfl (w.heap.size + 1) rfl (stC st0 none 0) rfl 40 (stC st0 none 0) (st_size _ _ _) (st_same _ _ _ _ _ _) (st_one _ _ _) ?hg ?_; (case hg => exact hR))
        | fail)
      refine ret_has_tmp rfl (w.heap.size + 1) rfl 40 (stC st0 none 0) _ Try.underlying40 rfl (st_size _ _ _) hz rfl ⟨none, 0, by rw [hM.out]; rfl, ?_⟩
      rw [hM.out]
      exact ⟨Sl.nothing _ _, (fun d hd => by cases hd), hbz⟩
    · have h1I : ¬ (n : Int) < (s.tail.n : Int) := by omega
      by_cases h2 : hn1 < n
      · have h2I : (hn1 : Int) < (n : Int) := by omega
        have hM : Hid _ := habv.out h1 h2
        clear h1 h2
        go_wp2_with (first
          | (refine wpList_build_has (by rfl) 40 #[] rfl (stC st0 none 0) (by simpa using st_built0) ?_)
          | (refine wpList_store_has (by rfl) 40 _ _ rfl (w.heap.size + 1) rfl (stC st0 none 0) rfl 40 (stC st0 none 0) (st_size _ _ _) (st_same _ _ _ _ _ _) (st_one _ _ _) ?hg ?_; (case hg => exact hR))
          | fail)
        refine ret_has_tmp rfl (w.heap.size + 1) rfl 40 (stC st0 none 0) _ Try.underlying40 rfl (st_size _ _ _) hz rfl ⟨none, 0, by rw [hM.out]; rfl, ?_⟩
        rw [hM.out]
        exact ⟨Sl.nothing _ _, (fun d hd => by cases hd), hbz⟩
      · have h2I : ¬ (hn1 : Int) < (n : Int) := by omega
        have hM : Hid _ := hin.out h1 h2
        obtain ⟨k, hk⟩ : ∃ k, n = s.tail.n + k := ⟨n - s.tail.n, by omega⟩
        have hkl : k ≤ s.log.length := by omega
        rw [show n - s.tail.n = k by omega] at hM
        have hbo : Below w.heap.size w w3 := hb
        replace hk : Hid _ := hk
        have h1D : Hid (decide (n < s.tail.n) = false) := by show _ = _; rw [decide_eq_false_iff_not]; exact h1
        have h2D : Hid (decide (hn1 < n) = false) := by show _ = _; rw [decide_eq_false_iff_not]; exact h2
        clear hz hbz hhn h1 h2
        go_wp2_with fail
        rw [h1D.out, h2D.out]
        clear htn h1D h2D
        go_loopw [] (fun wr => ∃ (i : Nat) (ro : Option Addr) (rc : Nat), i ≤ k ∧ Has wr w.heap.size 40 (stC (foldK s i) ro rc) ∧ Has wr (w.heap.size + 1) 40 (stC st0 none 0) ∧ Sl wr ro rc 8 (entR (foldK s i).log) ∧ (∀ d, ro = some d → 0 < (entR (foldK s i).log).length → d.block ≠ w.heap.size ∧ d.block ≠ w.heap.size + 1) ∧ (∀ d, ro = some d → 0 < (entR (foldK s i).log).length → some d = ao ∨ w.heap.size ≤ d.block) ∧ Below w.heap.size w wr) (fun wr => n - tailN wr w.heap.size)
        case atStart =>
          refine ⟨0, ao, c, Nat.zero_le _, hX, hR, h.later hb, fun d hd hp => ?_, fun d hd _ => .inl hd.symm, hb⟩
          subst hd
          have := Sl.block_lt h hp (by decide)
          omega
        case round =>
          clear hX hR hb hbo
          obtain ⟨i, ro, rc, hik, hX, hR, hS8, hap, hfar, hb⟩ := hrel
          have htn := hX.st_tail_n
          have hfi := hft.out i (by omega)
          rw [hfi] at htn
          have hFo := foldK_ok9 hs hB i
          have hlenF : (foldK s i).log.length = s.log.length - i := List.length_drop
          by_cases hlt : i < k
          · have hltI : ((s.tail.n + i : Nat) : Int) < (n : Int) := by have := hk.out; omega
            have hltJ : (s.tail.n : Int) + (i : Int) < (n : Int) := by have := hk.out; omega
            have hnx : Hid (foldK (foldK s i) 1 = foldK s (i + 1)) := foldK_two s i 1
            have hfn := hft.out (i + 1) (by omega)
            have hpos : 0 < (foldK s i).log.length := by omega
            generalize foldK s i = G at *
            have hm0 : tailN wr w.heap.size = s.tail.n + i := tailN_is htn
            go_wp2_with (first
              | (refine wpList_load_has (by rfl) 40 _ rfl (w.heap.size) rfl 40 (stC G ro rc) _ Try.underlying40 rfl (st_size _ _ _) ?hg ?_; (case hg => exact hX))
              | fail)
            refine (refpop_any G ro rc _ hFo.1 hFo.2 hS8 hpos).mono ?_
            rintro en w5 ⟨so, sc, rfl, hG⟩
            rw [hnx.out] at hG
            rw [hnx.out]
            have hlt0 := hR.lt
            have hnew : ∀ d, so = some d → w.heap.size + 1 < d.block := fun d hd => by have := hG.new d hd; omega
            have hS5 := hG.sl
            replace hX := hX.later hG.below
            replace hR := hR.later hG.below
            replace hb := hb.trans (hG.below.mono hb.size)
            clear hG hS8 hap hfar htn hnx
            obtain ⟨H, hH⟩ : ∃ H, foldK s (i + 1) = H := ⟨_, rfl⟩
            rw [hH] at hS5 hfn
            rw [hH]
            replace hH : Hid _ := hH
            have hX6 := hX.row (stC H so sc)
            have hR6 := hR.row_other (k := w.heap.size) (by omega) (stC H so sc)
            have hS6 := hS5.row_other (k := w.heap.size) (fun d hd => by have := hnew d hd; omega) (stC H so sc)
            have hb6 := below_setRow hb (Nat.le_refl _) (stC H so sc)
            have hm1 : tailN (w5.setRow w.heap.size (stC H so sc)) w.heap.size = s.tail.n + (i + 1) := by
              have := hX6.st_tail_n
              rw [hfn] at this
              exact tailN_is this
            go_wp2_with (first
              | (refine wpList_store_has (by rfl) 40 _ _ rfl (w.heap.size) rfl (stC H so sc) rfl 40 (stC G ro rc) (st_size _ _ _) (st_same _ _ _ _ _ _) (st_one _ _ _) ?hg ?_; (case hg => exact hX))
              | fail)
            go_roundw
            case rel =>
              iterate 7 apply Exists.intro
              exact ⟨⟨i + 1, so, sc, by omega, by rw [hH.out]; exact hX6, hR6, by rw [hH.out]; exact hS6, (fun d hd _ => by have := hnew d hd; omega), (fun d hd _ => .inr (by have := hnew d hd; omega)), hb6⟩, rfl⟩
            case measure => rw [hm0, hm1]; have := hk.out; omega
          · have e5 : i = k := by omega
            subst e5
            have hltI : ¬ ((s.tail.n + i : Nat) : Int) < (n : Int) := by have := hk.out; omega
            have hltJ : ¬ (s.tail.n : Int) + (i : Int) < (n : Int) := by have := hk.out; omega
            generalize foldK s i = G at *
            have hzf := hR.row (stC G ro rc)
            have hsl := hS8.row_if9 (k := w.heap.size + 1) (fun d hd hp => (hap d hd hp).2) (stC G ro rc)
            have hbf := below_setRow hb (show w.heap.size ≤ w.heap.size + 1 by omega) (stC G ro rc)
            go_wp2_with (first
              | (refine wpList_load_has (by rfl) 40 _ rfl (w.heap.size) rfl 40 (stC G ro rc) _ Try.underlying40 rfl (st_size _ _ _) ?hg ?_; (case hg => exact hX))
              | (refine wpList_store_has (by rfl) 40 _ _ rfl (w.heap.size + 1) rfl (stC G ro rc) rfl 40 (stC st0 none 0) (st_size _ _ _) (st_same _ _ _ _ _ _) (st_one _ _ _) ?hg ?_; (case hg => exact hR))
              | fail)
            refine ret_has_tmp rfl (w.heap.size + 1) rfl 40 (stC G ro rc) _ Try.underlying40 rfl (st_size _ _ _) hzf rfl ⟨ro, rc, by rw [hM.out]; rfl, ?_⟩
            rw [hM.out]
            exact ⟨hsl, hfar, hbf⟩


theorem can_no9 {s : StV} {e : EntV} (h : isM s = false ∨ followsM (headE s) e = false) : canM s e = false := by
  unfold canM
  rcases h with h | h <;> rw [h] <;> simp

set_option maxHeartbeats 4000000 in
theorem refadd_any (s : StV) (e : EntV) (ao : Option Addr) (c : Nat) (w : World) (hs : StOk s) (he : EntOk e) (h : Sl w ao c 8 (entR s.log)) :
    Calls Try.prog 14 #[.agg (stC s ao c), .agg (entC e)] w fun en w' => ∃ ro rc, en = .returned (.tuple #[.agg (stC (addM s e).1 ro rc), .bool (decide ((addM s e).2 = 0))]) ∧ Gives w w' (addM s e).1 ro rc := by
  obtain ⟨w1, hw1, hX, hE, hR, hb⟩ := three_vars w 40 37 40 (stC s ao c) (entC e) (stC st0 none 0)
  have hlen := hs.len
  have hle := h.ent_le
  have hcap := h.cap
  go_enter Try.func14, Try.ntmps14
  go_wp2_with (first
    | (refine wpList_alloc_has (by rfl) 40 rfl (stC st0 none 0) st_zero ?_; rw [hw1])
    | (refine wpList_load_has (by rfl) 40 _ rfl (w.heap.size) rfl 40 (stC s ao c) _ Try.underlying40 rfl (st_size _ _ _) ?hg ?_; (case hg => exact hX))
    | fail)
  refine (refhead_any s ao c _ hs (h.later hb)).mono ?_
  rintro en w2 ⟨rfl, hq⟩
  replace hX := hX.later hq
  replace hE := hE.later hq
  replace hR := hR.later hq
  replace hb := hb.trans (hq.mono hb.size)
  clear hq hw1
  go_wp2_with (first
    | (refine wpList_load_has (by rfl) 40 _ rfl (w.heap.size) rfl 40 (stC s ao c) _ Try.underlying40 rfl (st_size _ _ _) ?hg ?_; (case hg => exact hX))
    | fail)
  refine (refis_any s ao c _ hs (h.later hb)).mono ?_
  rintro en w3 ⟨rfl, hq⟩
  replace hX := hX.later hq
  replace hE := hE.later hq
  replace hR := hR.later hq
  replace hb := hb.trans (hq.mono hb.size)
  clear hq
  cases hi : isM s with
  | false =>
    have hF : Hid _ := add_no (s := s) (e := e) (can_no9 (.inl hi))
    have hz := hR.row (stC st0 none 0)
    have hbz := below_setRow hb (show w.heap.size ≤ w.heap.size + 1 + 1 by omega) (stC st0 none 0)
    generalize headM s = hd at *
    go_wp2_with (first
      | (refine wpList_build_has (by rfl) 40 #[] rfl (stC st0 none 0) (by simpa using st_built0) ?_)
      | (refine wpList_store_has (by rfl) 40 _ _ rfl (w.heap.size + 1 + 1) rfl (stC st0 none 0) rfl 40 (stC st0 none 0) (st_size _ _ _) (st_same _ _ _ _ _ _) (st_one _ _ _) ?hg ?_; (case hg => exact hR))
      | fail)
    refine ret_has_tmp rfl (w.heap.size + 1 + 1) rfl 40 (stC st0 none 0) _ Try.underlying40 rfl (st_size _ _ _) hz rfl ⟨none, 0, by rw [hF.out]; rfl, ?_⟩
    rw [hF.out]
    exact Gives.zero hbz
  | true =>
    have hh : Hid _ := head_yes hi
    have hho := lastE_ok hs.tail hs.log
    have hB := hs.isBase hi
    have h6 := ((is_is s).1 hi).2.2.2.1
    rw [hh.out]
    have eo := hE.ent_op
    go_wp2_with (first
      | (refine wpList_load_mid' (by rfl) 35 _ rfl (w.heap.size + 1) (2) rfl (opL e.op) _ ?hg Try.underlying35 rfl (op_size _) ?_; (case hg => exact eo))
      | fail)
    refine (refwrites_any e.op _ he.op).mono ?_
    rintro en w4 ⟨rfl, hq⟩
    replace hX := hX.later hq
    replace hE := hE.later hq
    replace hR := hR.later hq
    replace hb := hb.trans (hq.mono hb.size)
    clear hq eo
    have e0 := hE.ent_since
    have e1 := hE.ent_n
    have b1 := he.since
    have b2 := he.n
    have b3 : (headE s).since < 4294967296 := hho.since
    have b4 : (headE s).n < 4294967296 := hho.n
    have hno := fun hx => follows_no (p := headE s) (e := e) hx
    have hyes := fun hx => (follows_is (p := headE s) (e := e)).2 hx
    have hcan : Hid _ := fun hx => add_yes (s := s) (e := e) (can_is.2 ⟨hi, hx⟩)
    replace hno : Hid _ := hno
    replace hyes : Hid _ := hyes
    have hiH : Hid _ := hi
    clear hi hh hho
    generalize hps : (headE s).since = ps at *
    generalize hpn : (headE s).n = pn at *
    clear hps hpn
    cases hwr : writesM e.op with
    | false =>
      have hF : Hid _ := add_no (s := s) (e := e) (can_no9 (.inr (hno.out (.inl hwr))))
      have hz := hR.row (stC st0 none 0)
      have hbz := below_setRow hb (show w.heap.size ≤ w.heap.size + 1 + 1 by omega) (stC st0 none 0)
      go_wp2_with (first
        | (refine wpList_build_has (by rfl) 40 #[] rfl (stC st0 none 0) (by simpa using st_built0) ?_)
        | (refine wpList_store_has (by rfl) 40 _ _ rfl (w.heap.size + 1 + 1) rfl (stC st0 none 0) rfl 40 (stC st0 none 0) (st_size _ _ _) (st_same _ _ _ _ _ _) (st_one _ _ _) ?hg ?_; (case hg => exact hR))
        | fail)
      refine ret_has_tmp rfl (w.heap.size + 1 + 1) rfl 40 (stC st0 none 0) _ Try.underlying40 rfl (st_size _ _ _) hz rfl ⟨none, 0, by rw [hF.out]; rfl, ?_⟩
      rw [hF.out]
      exact Gives.zero hbz
    | true =>
    generalize e.since = es at *
    generalize hen : e.n = en at *
    clear hen
    by_cases n0 : en = 0
    · have i0 : ((en : Int) == 0) = true := by rw [n0]; rfl
      have i0N : (en == 0) = true := by rw [n0]; rfl
      have hF0 := hno.out (.inr (.inl (by omega)))
      clear n0
      have hF : Hid _ := add_no (s := s) (e := e) (can_no9 (.inr (hF0)))
      have hz := hR.row (stC st0 none 0)
      have hbz := below_setRow hb (show w.heap.size ≤ w.heap.size + 1 + 1 by omega) (stC st0 none 0)
      go_wp2_with (first
        | (refine wpList_build_has (by rfl) 40 #[] rfl (stC st0 none 0) (by simpa using st_built0) ?_)
        | (refine wpList_store_has (by rfl) 40 _ _ rfl (w.heap.size + 1 + 1) rfl (stC st0 none 0) rfl 40 (stC st0 none 0) (st_size _ _ _) (st_same _ _ _ _ _ _) (st_one _ _ _) ?hg ?_; (case hg => exact hR))
        | fail)
      refine ret_has_tmp rfl (w.heap.size + 1 + 1) rfl 40 (stC st0 none 0) _ Try.underlying40 rfl (st_size _ _ _) hz rfl ⟨none, 0, by rw [hF.out]; rfl, ?_⟩
      rw [hF.out]
      exact Gives.zero hbz
    have i0 : ((en : Int) == 0) = false := by rw [beq_eq_false_iff_ne]; omega
    have i0N : (en == 0) = false := by rw [beq_eq_false_iff_ne]; omega
    obtain ⟨m, hm⟩ : ∃ m, en = 1 + m := ⟨en - 1, by omega⟩
    have hm32 : m < 4294967296 := by omega
    by_cases n1 : m = pn
    · have i1 : ((m : Int) != (pn : Int)) = false := by rw [n1]; simp
      have i1N : (m != pn) = false := by rw [n1]; simp
      have hen1 : en = pn + 1 := by omega
      by_cases n2 : ps ≤ es
      · have i2 : ¬ (es : Int) < (ps : Int) := by omega
        have i2D : decide ((es : Int) < (ps : Int)) = false := by rw [decide_eq_false_iff_not]; omega
        by_cases n3 : es ≤ 60
        · have i3 : ¬ (60 : Int) < (es : Int) := by omega
          have i3D : decide ((60 : Int) < (es : Int)) = false := by rw [decide_eq_false_iff_not]; omega
          have hM : Hid _ := hcan.out (hyes.out ⟨hwr, hen1, n2, n3⟩)
          have d2 : Hid (decide (es < ps) = false) := by show _ = _; rw [decide_eq_false_iff_not]; omega
          have d3 : Hid (decide (60 < es) = false) := by show _ = _; rw [decide_eq_false_iff_not]; omega
          have d3' : Hid (decide (60 < (es : Int)) = false) := by show _ = _; rw [decide_eq_false_iff_not]; omega
          have d2' : Hid (decide ((es : Int) < (ps : Int)) = false) := by show _ = _; rw [decide_eq_false_iff_not]; omega
          clear hno hyes hcan n0 n1 n2 n3 hen1 hwr
          replace hm : Hid _ := hm
          go_wp2_with (first
            | (refine wpList_val (.int .u32 (m : Int)) (by first | rfl | simp [Region.wanted, yielded]) (run_sub_u32_9 _ _ _ _ rfl en 1 m rfl rfl hm.out hm32) ?_)
            | fail)
          try rw [d2.out]
          try rw [d3.out]
          try rw [d2'.out]
          try rw [d3'.out]
          clear d2 d3 d2' d3'
          have h3 := h.later hb
          have hlen1 : Hid ((s.log ++ [e]).length = s.log.length + 1) := by show _ = _; rw [List.length_append]; rfl
          let F8 : Act → Act → World → Prop := fun a a' w' => ∃ (ro : Option Addr) (rc : Nat) (v1 : Value) (go1 : Option Addr), a' = (((((((a.put (some 46) (.pointer (some ⟨w.heap.size, 48, none⟩))).put (some 47) (.slice ao s.log.length c)).put (some 48) v1).put (some 49) (.agg (entC e))).put (some 50) (.slice go1 1 1)).put (some 51) (.slice ro (s.log.length + 1) rc)).put (some 52) (.pointer (some ⟨w.heap.size, 48, none⟩))) ∧ Has w' w.heap.size 40 (stC (withLog s (s.log ++ [e])) ro rc) ∧ Has w' (w.heap.size + 1 + 1) 40 (stC st0 none 0) ∧ Sl w' ro rc 8 (entR (s.log ++ [e])) ∧ (∀ d, ro = some d → w.heap.size + 1 + 1 < d.block) ∧ Below w.heap.size w w'
          have hbr : Below w4.heap.size w4 w4.drew := (Below.refl _ _).drew
          refine wp_region_plan_mid (fun W => Has W (w.heap.size + 1) 37 (entC e)) (Plan.of [(0, true), (3, true)] (.either 1 (.either 2 (Plan.of [(4, false), (5, false), (6, true), (7, false)] .done) 4 (Plan.of [(2, false), (5, false), (6, true), (7, false)] .done)) 4 (Plan.of [(1, false), (2, false), (5, false), (6, true), (7, false)] .done))) F8 (by kernel_rfl) (by kernel_rfl) (by kernel_rfl) (by kernel_rfl) hE ?hplan ?hrest
          case hplan =>
            iterate 1
              first
                | (refine plan_pass _ rfl (by rfl) ?_)
                | (refine plan_take _ _ rfl (.inl ⟨by rfl, fun W hS => by clear hS; go_simp; try with_reducible rfl⟩) ?_)
              try simp only [Act.put, List.setIfInBounds_toArray, List.set_cons_zero, List.set_cons_succ]
            refine plan_take _ _ rfl (yields_load_has (by rfl) 37 _ rfl (w.heap.size + 1) rfl 37 (entC e) _ Try.underlying37 rfl (ent_size _) (fun W hW => hW)) ?_
            try simp only [Act.put, List.setIfInBounds_toArray, List.set_cons_zero, List.set_cons_succ]
            generalize w4.drew = wn at *
            refine plan_either ?_ ?_
            · have c48 := (hX.later hbr).st_log
              refine plan_run _ rfl (fun K hK => ?_)
              go_simp
              refine hK.out _ _ (hE.later hbr) ?_
              clear hK K c48
              try simp only [Act.put, List.setIfInBounds_toArray, List.set_cons_zero, List.set_cons_succ]
              refine plan_either ?_ ?_
              · obtain ⟨v1, wm, hr1, hown1, hgr1⟩ := run_append8 wn 38 w4.heap.size (.slice none 0 0) [] s.log (own_nil8 _ _) ao c (h3.later hbr) (by simp; omega) hbr.size
                have hqq : Below wn.heap.size wn wm := (Below.refl _ _).grown hgr1 (Nat.le_refl _) (fun k hk => by cases hk)
                rw [List.nil_append] at hown1
                try replace hS1 := hS1.later hqq
                replace hbr := hbr.trans (hqq.mono hbr.size)
                refine plan_append8 _ rfl (by rfl) _ _ 38 38 rfl (.slice none 0 0) (.slice ao s.log.length c) rfl rfl v1 wm hr1 (hE.later hbr) ?_
                try simp only [Act.put, List.setIfInBounds_toArray, List.set_cons_zero, List.set_cons_succ]
                clear hr1 hgr1 hqq
                obtain ⟨wn, hwn⟩ : ∃ W, W = wm := ⟨_, rfl⟩
                subst hwn
                obtain ⟨wm, hwe, hS1, hqq⟩ := one_ent wn e
                have hrr := slice_one_ent e wn
                rw [hwe] at hrr
                obtain ⟨go1, hgo1⟩ : ∃ g : Option Addr, some ⟨wn.heap.size, 0, none⟩ = g := ⟨_, rfl⟩
                rw [hgo1] at hrr hS1
                try replace hown1 := own_below hown1 hqq
                replace hbr := hbr.trans (hqq.mono hbr.size)
                refine plan_slice_one8 _ rfl (by rfl) 38 _ rfl (.agg (entC e)) rfl (.slice go1 1 1) wm hrr (hE.later hbr) ?_
                try simp only [Act.put, List.setIfInBounds_toArray, List.set_cons_zero, List.set_cons_succ]
                clear hrr hqq hwe hgo1
                obtain ⟨wn, hwn⟩ : ∃ W, W = wm := ⟨_, rfl⟩
                subst hwn
                obtain ⟨v2, wm, hr2, hown2, hgr2⟩ := run_append8 wn 38 w4.heap.size v1 s.log [e] hown1 go1 1 hS1 (by simp; omega) hbr.size
                have hbr2 : Below w4.heap.size w4 wm := hbr.grown hgr2 hbr.size (fun k hk => (hown1.lt k hk).1)
                refine plan_append8 _ rfl (by rfl) _ _ 38 38 rfl v1 (.slice go1 1 1) rfl rfl v2 wm hr2 (hE.later hbr2) ?_
                try simp only [Act.put, List.setIfInBounds_toArray, List.set_cons_zero, List.set_cons_succ]
                obtain ⟨ro, rc, hv2, hS2, hnw2⟩ := ents_own8 hown2
                rw [hlen1.out] at hv2
                subst hv2
                have hX6 := hX.later hbr2
                have hR6 := hR.later hbr2
                have hb6 := hb.trans (hbr2.mono hb.size)
                have c48 := hX6.st_log
                have f48 := hX6.free 48
                have hX7 := hX6.setLog (s.log ++ [e]) ro rc
                rw [hlen1.out] at hX7
                have hltR := hR.lt
                have hE7 := (hE.later hbr2).set_other (a := ⟨w.heap.size, 48, none⟩) (show w.heap.size + 1 ≠ w.heap.size by omega) (.slice ro (s.log.length + 1) rc)
                have hR7 := hR6.set_other (a := ⟨w.heap.size, 48, none⟩) (show w.heap.size + 1 + 1 ≠ w.heap.size by omega) (.slice ro (s.log.length + 1) rc)
                have hS7 := hS2.cell_other (a := ⟨w.heap.size, 48, none⟩) (fun d hd => by have := (hnw2 d hd).1; show d.block ≠ w.heap.size; omega) (.slice ro (s.log.length + 1) rc)
                have hb7 := hb6.setCell (show w.heap.size ≤ (⟨w.heap.size, 48, none⟩ : Addr).block from Nat.le_refl _) (.slice ro (s.log.length + 1) rc)
                iterate 1
                  first
                    | (refine plan_pass _ rfl (by rfl) ?_)
                    | (refine plan_take _ _ rfl (.inl ⟨by rfl, fun W hS => by clear hS; go_simp; try with_reducible rfl⟩) ?_)
                  try simp only [Act.put, List.setIfInBounds_toArray, List.set_cons_zero, List.set_cons_succ]
                refine plan_run _ rfl (fun K hK => ?_)
                go_simp
                refine hK.out _ (wm.setCell ⟨w.heap.size, 48, none⟩ (.slice ro (s.log.length + 1) rc)) hE7 ?_
                clear hK K
                try simp only [Act.put, List.setIfInBounds_toArray, List.set_cons_zero, List.set_cons_succ]
                refine plan_done ?_
                refine mid_done ?_
                exact ⟨ro, rc, v1, go1, by simp only [Act.put, List.setIfInBounds_toArray, List.set_cons_zero, List.set_cons_succ] <;> rfl, hX7, hR7, hS7, (fun d hd => by have := (hnw2 d hd).1; omega), hb7⟩
              · obtain ⟨wm, hwe, hS1, hqq⟩ := one_ent wn e
                have hrr := slice_one_ent e wn
                rw [hwe] at hrr
                obtain ⟨go1, hgo1⟩ : ∃ g : Option Addr, some ⟨wn.heap.size, 0, none⟩ = g := ⟨_, rfl⟩
                rw [hgo1] at hrr hS1
                try replace hown1 := own_below hown1 hqq
                replace hbr := hbr.trans (hqq.mono hbr.size)
                refine plan_slice_one8 _ rfl (by rfl) 38 _ rfl (.agg (entC e)) rfl (.slice go1 1 1) wm hrr (hE.later hbr) ?_
                try simp only [Act.put, List.setIfInBounds_toArray, List.set_cons_zero, List.set_cons_succ]
                clear hrr hqq hwe hgo1
                obtain ⟨wn, hwn⟩ : ∃ W, W = wm := ⟨_, rfl⟩
                subst hwn
                obtain ⟨v1, wm, hr1, hown1, hgr1⟩ := run_append8 wn 38 w4.heap.size (.slice none 0 0) [] s.log (own_nil8 _ _) ao c (h3.later hbr) (by simp; omega) hbr.size
                have hqq : Below wn.heap.size wn wm := (Below.refl _ _).grown hgr1 (Nat.le_refl _) (fun k hk => by cases hk)
                rw [List.nil_append] at hown1
                try replace hS1 := hS1.later hqq
                replace hbr := hbr.trans (hqq.mono hbr.size)
                refine plan_append8 _ rfl (by rfl) _ _ 38 38 rfl (.slice none 0 0) (.slice ao s.log.length c) rfl rfl v1 wm hr1 (hE.later hbr) ?_
                try simp only [Act.put, List.setIfInBounds_toArray, List.set_cons_zero, List.set_cons_succ]
                clear hr1 hgr1 hqq
                obtain ⟨wn, hwn⟩ : ∃ W, W = wm := ⟨_, rfl⟩
                subst hwn
                obtain ⟨v2, wm, hr2, hown2, hgr2⟩ := run_append8 wn 38 w4.heap.size v1 s.log [e] hown1 go1 1 hS1 (by simp; omega) hbr.size
                have hbr2 : Below w4.heap.size w4 wm := hbr.grown hgr2 hbr.size (fun k hk => (hown1.lt k hk).1)
                refine plan_append8 _ rfl (by rfl) _ _ 38 38 rfl v1 (.slice go1 1 1) rfl rfl v2 wm hr2 (hE.later hbr2) ?_
                try simp only [Act.put, List.setIfInBounds_toArray, List.set_cons_zero, List.set_cons_succ]
                obtain ⟨ro, rc, hv2, hS2, hnw2⟩ := ents_own8 hown2
                rw [hlen1.out] at hv2
                subst hv2
                have hX6 := hX.later hbr2
                have hR6 := hR.later hbr2
                have hb6 := hb.trans (hbr2.mono hb.size)
                have c48 := hX6.st_log
                have f48 := hX6.free 48
                have hX7 := hX6.setLog (s.log ++ [e]) ro rc
                rw [hlen1.out] at hX7
                have hltR := hR.lt
                have hE7 := (hE.later hbr2).set_other (a := ⟨w.heap.size, 48, none⟩) (show w.heap.size + 1 ≠ w.heap.size by omega) (.slice ro (s.log.length + 1) rc)
                have hR7 := hR6.set_other (a := ⟨w.heap.size, 48, none⟩) (show w.heap.size + 1 + 1 ≠ w.heap.size by omega) (.slice ro (s.log.length + 1) rc)
                have hS7 := hS2.cell_other (a := ⟨w.heap.size, 48, none⟩) (fun d hd => by have := (hnw2 d hd).1; show d.block ≠ w.heap.size; omega) (.slice ro (s.log.length + 1) rc)
                have hb7 := hb6.setCell (show w.heap.size ≤ (⟨w.heap.size, 48, none⟩ : Addr).block from Nat.le_refl _) (.slice ro (s.log.length + 1) rc)
                iterate 1
                  first
                    | (refine plan_pass _ rfl (by rfl) ?_)
                    | (refine plan_take _ _ rfl (.inl ⟨by rfl, fun W hS => by clear hS; go_simp; try with_reducible rfl⟩) ?_)
                  try simp only [Act.put, List.setIfInBounds_toArray, List.set_cons_zero, List.set_cons_succ]
                refine plan_run _ rfl (fun K hK => ?_)
                go_simp
                refine hK.out _ (wm.setCell ⟨w.heap.size, 48, none⟩ (.slice ro (s.log.length + 1) rc)) hE7 ?_
                clear hK K
                try simp only [Act.put, List.setIfInBounds_toArray, List.set_cons_zero, List.set_cons_succ]
                refine plan_done ?_
                refine mid_done ?_
                exact ⟨ro, rc, v1, go1, by simp only [Act.put, List.setIfInBounds_toArray, List.set_cons_zero, List.set_cons_succ] <;> rfl, hX7, hR7, hS7, (fun d hd => by have := (hnw2 d hd).1; omega), hb7⟩
            · obtain ⟨wm, hwe, hS1, hqq⟩ := one_ent wn e
              have hrr := slice_one_ent e wn
              rw [hwe] at hrr
              obtain ⟨go1, hgo1⟩ : ∃ g : Option Addr, some ⟨wn.heap.size, 0, none⟩ = g := ⟨_, rfl⟩
              rw [hgo1] at hrr hS1
              try replace hown1 := own_below hown1 hqq
              replace hbr := hbr.trans (hqq.mono hbr.size)
              refine plan_slice_one8 _ rfl (by rfl) 38 _ rfl (.agg (entC e)) rfl (.slice go1 1 1) wm hrr (hE.later hbr) ?_
              try simp only [Act.put, List.setIfInBounds_toArray, List.set_cons_zero, List.set_cons_succ]
              clear hrr hqq hwe hgo1
              obtain ⟨wn, hwn⟩ : ∃ W, W = wm := ⟨_, rfl⟩
              subst hwn
              have c48 := (hX.later hbr).st_log
              refine plan_run _ rfl (fun K hK => ?_)
              go_simp
              refine hK.out _ _ (hE.later hbr) ?_
              clear hK K c48
              try simp only [Act.put, List.setIfInBounds_toArray, List.set_cons_zero, List.set_cons_succ]
              obtain ⟨v1, wm, hr1, hown1, hgr1⟩ := run_append8 wn 38 w4.heap.size (.slice none 0 0) [] s.log (own_nil8 _ _) ao c (h3.later hbr) (by simp; omega) hbr.size
              have hqq : Below wn.heap.size wn wm := (Below.refl _ _).grown hgr1 (Nat.le_refl _) (fun k hk => by cases hk)
              rw [List.nil_append] at hown1
              try replace hS1 := hS1.later hqq
              replace hbr := hbr.trans (hqq.mono hbr.size)
              refine plan_append8 _ rfl (by rfl) _ _ 38 38 rfl (.slice none 0 0) (.slice ao s.log.length c) rfl rfl v1 wm hr1 (hE.later hbr) ?_
              try simp only [Act.put, List.setIfInBounds_toArray, List.set_cons_zero, List.set_cons_succ]
              clear hr1 hgr1 hqq
              obtain ⟨wn, hwn⟩ : ∃ W, W = wm := ⟨_, rfl⟩
              subst hwn
              obtain ⟨v2, wm, hr2, hown2, hgr2⟩ := run_append8 wn 38 w4.heap.size v1 s.log [e] hown1 go1 1 hS1 (by simp; omega) hbr.size
              have hbr2 : Below w4.heap.size w4 wm := hbr.grown hgr2 hbr.size (fun k hk => (hown1.lt k hk).1)
              refine plan_append8 _ rfl (by rfl) _ _ 38 38 rfl v1 (.slice go1 1 1) rfl rfl v2 wm hr2 (hE.later hbr2) ?_
              try simp only [Act.put, List.setIfInBounds_toArray, List.set_cons_zero, List.set_cons_succ]
              obtain ⟨ro, rc, hv2, hS2, hnw2⟩ := ents_own8 hown2
              rw [hlen1.out] at hv2
              subst hv2
              have hX6 := hX.later hbr2
              have hR6 := hR.later hbr2
              have hb6 := hb.trans (hbr2.mono hb.size)
              have c48 := hX6.st_log
              have f48 := hX6.free 48
              have hX7 := hX6.setLog (s.log ++ [e]) ro rc
              rw [hlen1.out] at hX7
              have hltR := hR.lt
              have hE7 := (hE.later hbr2).set_other (a := ⟨w.heap.size, 48, none⟩) (show w.heap.size + 1 ≠ w.heap.size by omega) (.slice ro (s.log.length + 1) rc)
              have hR7 := hR6.set_other (a := ⟨w.heap.size, 48, none⟩) (show w.heap.size + 1 + 1 ≠ w.heap.size by omega) (.slice ro (s.log.length + 1) rc)
              have hS7 := hS2.cell_other (a := ⟨w.heap.size, 48, none⟩) (fun d hd => by have := (hnw2 d hd).1; show d.block ≠ w.heap.size; omega) (.slice ro (s.log.length + 1) rc)
              have hb7 := hb6.setCell (show w.heap.size ≤ (⟨w.heap.size, 48, none⟩ : Addr).block from Nat.le_refl _) (.slice ro (s.log.length + 1) rc)
              iterate 1
                first
                  | (refine plan_pass _ rfl (by rfl) ?_)
                  | (refine plan_take _ _ rfl (.inl ⟨by rfl, fun W hS => by clear hS; go_simp; try with_reducible rfl⟩) ?_)
                try simp only [Act.put, List.setIfInBounds_toArray, List.set_cons_zero, List.set_cons_succ]
              refine plan_run _ rfl (fun K hK => ?_)
              go_simp
              refine hK.out _ (wm.setCell ⟨w.heap.size, 48, none⟩ (.slice ro (s.log.length + 1) rc)) hE7 ?_
              clear hK K
              try simp only [Act.put, List.setIfInBounds_toArray, List.set_cons_zero, List.set_cons_succ]
              refine plan_done ?_
              refine mid_done ?_
              exact ⟨ro, rc, v1, go1, by simp only [Act.put, List.setIfInBounds_toArray, List.set_cons_zero, List.set_cons_succ] <;> rfl, hX7, hR7, hS7, (fun d hd => by have := (hnw2 d hd).1; omega), hb7⟩
          case hrest =>
            clear hX hE hR hb hbr h3 e0 e1
            rintro _ w5 ⟨ro, rc, v1, go1, rfl, hX, hR, hS8, hap, hb⟩
            try simp only [Act.put, List.setIfInBounds_toArray, List.set_cons_zero, List.set_cons_succ]
            clear F8
            have hXo : StOk (withLog s (s.log ++ [e])) := ⟨hs.started, hs.base, hs.tail, (fun x hx => by
              rcases List.mem_append.1 hx with hx | hx
              · exact hs.log x hx
              · rw [List.mem_singleton.1 hx]; exact he), by show (s.log ++ [e]).length ≤ 1000; rw [hlen1.out]; omega⟩
            have hXB : BaseOk (withLog s (s.log ++ [e])).base := hB
            have hXl : (withLog s (s.log ++ [e])).log.length = s.log.length + 1 := hlen1.out
            have hS8 : Sl w5 ro rc 8 (entR (withLog s (s.log ++ [e])).log) := hS8
            generalize withLog s (s.log ++ [e]) = X at *
            have c48 := hX.st_log
            rw [hXl] at c48
            by_cases h7 : 6 < s.log.length + 1
            · have i7 : (6 : Int) < (s.log.length : Int) + 1 := by omega
              have hpos : 0 < X.log.length := by omega
              rw [show s.log.length + 1 - 6 = 1 by omega] at hM
              clear h7 hXl
              go_wp2_with (first
                | (refine wpList_load_has (by rfl) 40 _ rfl (w.heap.size) rfl 40 (stC X ro rc) _ Try.underlying40 rfl (st_size _ _ _) ?hg ?_; (case hg => exact hX))
                | fail)
              refine (refpop_any X ro rc _ hXo hXB hS8 hpos).mono ?_
              rintro en w6 ⟨so, sc, rfl, hG⟩
              have hlt0 := hR.lt
              have hnew : ∀ d, so = some d → w.heap.size + 1 + 1 < d.block := fun d hd => by have := hG.new d hd; omega
              have hS6 := hG.sl
              replace hX := hX.later hG.below
              replace hR := hR.later hG.below
              replace hb := hb.trans (hG.below.mono hb.size)
              clear hG hS8 hap c48
              generalize foldK X 1 = G at *
              have hX7 := hX.row (stC G so sc)
              have hR7 := hR.row_other (k := w.heap.size) (by omega) (stC G so sc)
              have hS7 := hS6.row_other (k := w.heap.size) (fun d hd => by have := hnew d hd; omega) (stC G so sc)
              have hb7 := below_setRow hb (Nat.le_refl _) (stC G so sc)
              obtain ⟨w7, hw7⟩ : ∃ W, w6.setRow w.heap.size (stC G so sc) = W := ⟨_, rfl⟩
              rw [hw7] at hX7 hR7 hS7 hb7
              have hz := hR7.row (stC G so sc)
              have hsl := hS7.row_other (k := w.heap.size + 1 + 1) (fun d hd => by have := hnew d hd; omega) (stC G so sc)
              have hbz := below_setRow hb7 (show w.heap.size ≤ w.heap.size + 1 + 1 by omega) (stC G so sc)
              have hgn : ∀ d, so = some d → w.heap.size ≤ d.block := fun d hd => by have := hnew d hd; omega
              go_wp2_with (first
                | (refine wpList_store_to (by rfl) 40 _ _ rfl (w.heap.size) rfl (stC G so sc) rfl 40 (stC X ro rc) (st_size _ _ _) (st_same _ _ _ _ _ _) (st_one _ _ _) ?hg w7 ?hW ?_; (case hg => exact hX); (case hW => exact hw7))
                | (refine wpList_load_has (by rfl) 40 _ rfl (w.heap.size) rfl 40 (stC G so sc) _ Try.underlying40 rfl (st_size _ _ _) ?hg ?_; (case hg => exact hX7))
                | (refine wpList_store_has (by rfl) 40 _ _ rfl (w.heap.size + 1 + 1) rfl (stC G so sc) rfl 40 (stC st0 none 0) (st_size _ _ _) (st_same _ _ _ _ _ _) (st_one _ _ _) ?hg ?_; (case hg => exact hR7))
                | fail)
              refine ret_has_tmp rfl (w.heap.size + 1 + 1) rfl 40 (stC G so sc) _ Try.underlying40 rfl (st_size _ _ _) hz rfl ⟨so, sc, by rw [hM.out]; rfl, ?_⟩
              rw [hM.out]
              exact ⟨hsl, hgn, hbz⟩
            · have i7 : ¬ (6 : Int) < (s.log.length : Int) + 1 := by omega
              rw [show s.log.length + 1 - 6 = 0 by omega] at hM
              have hM2 : Hid (addM s e = (X, 0)) := hM.out.trans rfl
              clear h7 hXl hM
              have hz := hR.row (stC X ro rc)
              have hsl := hS8.row_other (k := w.heap.size + 1 + 1) (fun d hd => by have := hap d hd; omega) (stC X ro rc)
              have hbz := below_setRow hb (show w.heap.size ≤ w.heap.size + 1 + 1 by omega) (stC X ro rc)
              have hgn : ∀ d, ro = some d → w.heap.size ≤ d.block := fun d hd => by have := hap d hd; omega
              go_wp2_with (first
                | (refine wpList_load_has (by rfl) 40 _ rfl (w.heap.size) rfl 40 (stC X ro rc) _ Try.underlying40 rfl (st_size _ _ _) ?hg ?_; (case hg => exact hX))
                | (refine wpList_store_has (by rfl) 40 _ _ rfl (w.heap.size + 1 + 1) rfl (stC X ro rc) rfl 40 (stC st0 none 0) (st_size _ _ _) (st_same _ _ _ _ _ _) (st_one _ _ _) ?hg ?_; (case hg => exact hR))
                | fail)
              refine ret_has_tmp rfl (w.heap.size + 1 + 1) rfl 40 (stC X ro rc) _ Try.underlying40 rfl (st_size _ _ _) hz rfl ⟨ro, rc, by rw [hM2.out]; rfl, ?_⟩
              rw [hM2.out]
              exact ⟨hsl, hgn, hbz⟩
        · have i3 : (60 : Int) < (es : Int) := by omega
          have hF0 := hno.out (.inr (.inr (.inr n3)))
          clear n0 n1 n2 n3 hen1
          replace hm : Hid _ := hm
          have hF : Hid _ := add_no (s := s) (e := e) (can_no9 (.inr (hF0)))
          have hz := hR.row (stC st0 none 0)
          have hbz := below_setRow hb (show w.heap.size ≤ w.heap.size + 1 + 1 by omega) (stC st0 none 0)
          go_wp2_with (first
            | (refine wpList_val (.int .u32 (m : Int)) (by first | rfl | simp [Region.wanted, yielded]) (run_sub_u32_9 _ _ _ _ rfl en 1 m rfl rfl hm.out hm32) ?_)
            | (refine wpList_build_has (by rfl) 40 #[] rfl (stC st0 none 0) (by simpa using st_built0) ?_)
            | (refine wpList_store_has (by rfl) 40 _ _ rfl (w.heap.size + 1 + 1) rfl (stC st0 none 0) rfl 40 (stC st0 none 0) (st_size _ _ _) (st_same _ _ _ _ _ _) (st_one _ _ _) ?hg ?_; (case hg => exact hR))
            | fail)
          refine ret_has_tmp rfl (w.heap.size + 1 + 1) rfl 40 (stC st0 none 0) _ Try.underlying40 rfl (st_size _ _ _) hz rfl ⟨none, 0, by rw [hF.out]; rfl, ?_⟩
          rw [hF.out]
          exact Gives.zero hbz
      · have i2 : (es : Int) < (ps : Int) := by omega
        have hF0 := hno.out (.inr (.inr (.inl n2)))
        clear n0 n1 n2 hen1
        replace hm : Hid _ := hm
        have hF : Hid _ := add_no (s := s) (e := e) (can_no9 (.inr (hF0)))
        have hz := hR.row (stC st0 none 0)
        have hbz := below_setRow hb (show w.heap.size ≤ w.heap.size + 1 + 1 by omega) (stC st0 none 0)
        go_wp2_with (first
          | (refine wpList_val (.int .u32 (m : Int)) (by first | rfl | simp [Region.wanted, yielded]) (run_sub_u32_9 _ _ _ _ rfl en 1 m rfl rfl hm.out hm32) ?_)
          | (refine wpList_build_has (by rfl) 40 #[] rfl (stC st0 none 0) (by simpa using st_built0) ?_)
          | (refine wpList_store_has (by rfl) 40 _ _ rfl (w.heap.size + 1 + 1) rfl (stC st0 none 0) rfl 40 (stC st0 none 0) (st_size _ _ _) (st_same _ _ _ _ _ _) (st_one _ _ _) ?hg ?_; (case hg => exact hR))
          | fail)
        refine ret_has_tmp rfl (w.heap.size + 1 + 1) rfl 40 (stC st0 none 0) _ Try.underlying40 rfl (st_size _ _ _) hz rfl ⟨none, 0, by rw [hF.out]; rfl, ?_⟩
        rw [hF.out]
        exact Gives.zero hbz
    · have i1 : ((m : Int) != (pn : Int)) = true := by rw [bne_iff_ne]; omega
      have i1N : (m != pn) = true := by rw [bne_iff_ne]; omega
      have hF0 := hno.out (.inr (.inl (by omega)))
      clear n0 n1
      replace hm : Hid _ := hm
      have hF : Hid _ := add_no (s := s) (e := e) (can_no9 (.inr (hF0)))
      have hz := hR.row (stC st0 none 0)
      have hbz := below_setRow hb (show w.heap.size ≤ w.heap.size + 1 + 1 by omega) (stC st0 none 0)
      go_wp2_with (first
        | (refine wpList_val (.int .u32 (m : Int)) (by first | rfl | simp [Region.wanted, yielded]) (run_sub_u32_9 _ _ _ _ rfl en 1 m rfl rfl hm.out hm32) ?_)
        | (refine wpList_build_has (by rfl) 40 #[] rfl (stC st0 none 0) (by simpa using st_built0) ?_)
        | (refine wpList_store_has (by rfl) 40 _ _ rfl (w.heap.size + 1 + 1) rfl (stC st0 none 0) rfl 40 (stC st0 none 0) (st_size _ _ _) (st_same _ _ _ _ _ _) (st_one _ _ _) ?hg ?_; (case hg => exact hR))
        | fail)
      refine ret_has_tmp rfl (w.heap.size + 1 + 1) rfl 40 (stC st0 none 0) _ Try.underlying40 rfl (st_size _ _ _) hz rfl ⟨none, 0, by rw [hF.out]; rfl, ?_⟩
      rw [hF.out]
      exact Gives.zero hbz


theorem find_form {s : StV} {n : Nat} (hi : isM s = false) : findM s n = (ent0, false) := find_no (.inl (by rw [reach_form hi]; decide))
theorem find_at {s : StV} {n m : Nat} (hi : isM s = true) (hm : m < s.log.length) (h : s.log[m].n = n) : findM s n = (s.log[m], true) := by
  have hch : chainM s.tail s.log = true := ((is_is s).1 hi).2.2.2.2
  have hcn : (headE s).n = s.tail.n + s.log.length := chain_n _ _ hch
  have hat := chain_at hch m hm
  have hre : reachM s n = (m + 1, 0) := by rw [reach_in hi (by omega) (by omega)]; congr 1; omega
  exact find_yes (by rw [hre]) (by rw [hre]) hm
theorem find_none {s : StV} {n : Nat} (h : ∀ (j : Nat) (hj : j < s.log.length), s.log[j].n ≠ n) : findM s n = (ent0, false) := by
  cases hi : isM s with
  | false => exact find_form hi
  | true =>
    have hch : chainM s.tail s.log = true := ((is_is s).1 hi).2.2.2.2
    have hcn : (headE s).n = s.tail.n + s.log.length := chain_n _ _ hch
    by_cases h1 : n < s.tail.n
    · exact find_no (.inl (by rw [reach_below hi h1]; decide))
    · by_cases h2 : (headE s).n < n
      · exact find_no (.inl (by rw [reach_above hi h1 h2]; decide))
      · by_cases h3 : n = s.tail.n
        · exact find_no (.inr (by rw [reach_in hi h1 h2]; simp only; omega))
        · have hj : n - s.tail.n - 1 < s.log.length := by omega
          exact absurd (by have := chain_at hch _ hj; omega) (h _ hj)

set_option maxHeartbeats 4000000 in
theorem reffind_any (s : StV) (ao : Option Addr) (c n : Nat) (w : World) (hs : StOk s) (h : Sl w ao c 8 (entR s.log)) (hn : n < 4294967296) :
    Calls Try.prog 28 #[.agg (stC s ao c), .int .u32 (n : Int)] w fun en w' => en = .returned (.tuple #[.agg (entC (findM s n).1), .bool (findM s n).2]) ∧ Below w.heap.size w w' := by
  obtain ⟨w1, hw1, hX, hR, hb⟩ := two_vars w 40 37 (stC s ao c) (entC ent0)
  have hlen := hs.len
  have hle := h.ent_le
  have hcap := h.cap
  go_enter Try.func28, Try.ntmps28
  go_wp2_with (first
    | (refine wpList_alloc_has (by rfl) 37 rfl (entC ent0) ent_zero ?_; rw [hw1]))
  go_loopw [6] (fun i wr => ∃ m : Nat, m ≤ s.log.length ∧ i = .int .i64 m ∧ Has wr w.heap.size 40 (stC s ao c) ∧ Has wr (w.heap.size + 1) 37 (entC ent0) ∧ Below w.heap.size w wr ∧ Hid (∀ (j : Nat) (hj : j < s.log.length), j < m → s.log[j].n ≠ n)) (fun i _ => s.log.length - (intOf i).toNat)
  case atStart => exact ⟨0, Nat.zero_le _, rfl, hX, hR, hb, fun j hj hh => absurd hh (by omega)⟩
  case round =>
    clear hX hR hb
    obtain ⟨m, hm, rfl, hX, hR, hb, hno⟩ := hrel
    have c48 := hX.st_log
    have hz := hR.row (entC ent0)
    have hbz := below_setRow hb (show w.heap.size ≤ w.heap.size + 1 by omega) (entC ent0)
    by_cases hlt : m < s.log.length
    · cases ao with
      | none => have := h.nil rfl; omega
      | some ad =>
        have hlI : (m : Int) < (s.log.length : Int) := by omega
        clear hz hbz
        go_wp2_with (first
          | (refine wpList_load_has (by first | rfl | simp [Region.wanted, yielded]) 40 _ rfl w.heap.size rfl 40 (stC s (some ad) c) _ Try.underlying40 rfl (st_size _ _ _) ?hg ?_; (case hg => exact hX)))
        refine (refis_any s (some ad) c _ hs (h.later hb)).mono ?_
        rintro en w2 ⟨rfl, hq⟩
        replace hX := hX.later hq
        replace hR := hR.later hq
        replace hb := hb.trans (hq.mono hb.size)
        clear hq c48
        cases hi : isM s with
        | false =>
          have hM : Hid _ := find_form (s := s) (n := n) hi
          have hz := hR.row (entC ent0)
          have hbz := below_setRow hb (show w.heap.size ≤ w.heap.size + 1 by omega) (entC ent0)
          go_wp2_with ((with_reducible refine at_open ?_); first
            | (refine wpList_build_has (by rfl) 37 #[] rfl (entC ent0) (by simpa using ent_built0) ?_)
            | (refine wpList_store_has (by rfl) 37 _ _ rfl (w.heap.size + 1) rfl (entC ent0) rfl 37 (entC ent0) (ent_size _) rfl (ent_one _) ?hg ?_; (case hg => exact hR)))
          exact ret_has_tmp rfl (w.heap.size + 1) rfl 37 (entC ent0) _ Try.underlying37 rfl (ent_size _) hz rfl ⟨by rw [hM.out]; rfl, hbz⟩
        | true =>
          have c48 := hX.st_log
          have hx := ent_at (h.later hb) m hlt
          have hxo := (hs.log s.log[m] (List.getElem_mem hlt)).n
          have cn := hx 1 _ rfl
          replace cn : w2.cell? ⟨(ad.add (m * 8)).block, (ad.add (m * 8)).off + 1, none⟩ = some (.int .u32 (s.log[m].n : Int)) := cn
          by_cases hxn : s.log[m].n = n
          · have hM : Hid _ := find_at hi hlt hxn
            have hxB : ((s.log[m].n : Int) == (n : Int)) = true := by rw [beq_iff_eq]; omega
            have hxC : (s.log[m].n == n) = true := by rw [beq_iff_eq]; omega
            replace hxn : Hid _ := hxn
            generalize s.log[m] = x at *
            have hz := hR.row (entC x)
            have hbz := below_setRow hb (show w.heap.size ≤ w.heap.size + 1 by omega) (entC x)
            go_wp2_with (first
              | (refine wpList_load_any (by rfl) 37 _ rfl _ rfl (entL x) _ ?hg Try.underlying37 rfl (ent_size x) ?_; (case hg => exact hx))
              | (refine wpList_store_has (by rfl) 37 _ _ rfl (w.heap.size + 1) rfl (entC x) rfl 37 (entC ent0) (ent_size _) rfl (ent_one _) ?hg ?_; (case hg => exact hR)))
            exact ret_has_tmp rfl (w.heap.size + 1) rfl 37 (entC x) _ Try.underlying37 rfl (ent_size _) hz rfl ⟨by rw [hM.out]; rfl, hbz⟩
          · have hxB : ((s.log[m].n : Int) == (n : Int)) = false := by rw [beq_eq_false_iff_ne]; omega
            have hxC : (s.log[m].n == n) = false := by rw [beq_eq_false_iff_ne]; omega
            have hno2 : Hid (∀ (j : Nat) (hj : j < s.log.length), j < m + 1 → s.log[j].n ≠ n) := fun j hj hjm => by
              by_cases e : j = m
              · subst e; exact hxn
              · exact hno.out j hj (by omega)
            clear hx hno hxn
            generalize s.log[m] = x at *
            go_wp2
            go_roundw
            case rel => exact ⟨m + 1, by omega, by go_num, hX, hR, hb, hno2⟩
            case measure => simp [intOf]; omega
    · have hlI : ¬ (m : Int) < (s.log.length : Int) := by omega
      have hM : Hid _ := find_none (s := s) (n := n) (fun j hj => hno.out j hj (by omega))
      go_wp2_with ((with_reducible refine at_open ?_); first
        | (refine wpList_build_has (by rfl) 37 #[] rfl (entC ent0) (by simpa using ent_built0) ?_)
        | (refine wpList_store_has (by rfl) 37 _ _ rfl (w.heap.size + 1) rfl (entC ent0) rfl 37 (entC ent0) (ent_size _) rfl (ent_one _) ?hg ?_; (case hg => exact hR)))
      exact ret_has_tmp rfl (w.heap.size + 1) rfl 37 (entC ent0) _ Try.underlying37 rfl (ent_size _) hz rfl ⟨by rw [hM.out]; rfl, hbz⟩
end Go.Proofs.Ytphlfepgaghhhaa
