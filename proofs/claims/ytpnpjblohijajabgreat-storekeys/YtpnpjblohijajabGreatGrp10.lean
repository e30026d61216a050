/- WrMem, joined. -/
import Derived.Test.YtpnpjblohijajabGreatGrp9
import Derived.Test.YtpnpjblohijajabGreatPackTools
import Derived.Maps.AppendAt
namespace Go.Proofs.YtpnpjblohijajabGreat
section
set_option linter.unusedSimpArgs false
set_option linter.unusedVariables false
set_option maxRecDepth 100000
open Go.RowKit

def wrC (x : WrV) : Array Value := #[strV x.key, strV x.bs, .bool x.drop]
def wrR (l : List WrV) : List (List Value) := l.map fun x => (wrC x).toList
def wrF (l : List WrV) : List Value := (wrR l).flatten
def wr0 : WrV := ⟨[], [], false⟩
/-- A slice of writes. -/
abbrev Wrs (w : World) (ao : Option Addr) (c : Nat) (l : List WrV) : Prop := Sl w ao c 3 (wrR l)
theorem wrR_len (l : List WrV) : (wrR l).length = l.length := by unfold wrR; rw [List.length_map]
theorem wrR_each (l : List WrV) : ∀ r ∈ wrR l, r.length = 3 := by
  intro r hr
  obtain ⟨x, _, rfl⟩ := List.mem_map.1 hr
  rfl
theorem wrF_len (l : List WrV) : (wrF l).length = l.length * 3 := by
  induction l with
  | nil => rfl
  | cons e l ih =>
    show ((wrC e).toList ++ wrF l).length = _
    rw [List.length_append, ih, List.length_cons]
    show 3 + _ = _
    omega
theorem wrF_app (a b : List WrV) : wrF (a ++ b) = wrF a ++ wrF b := by
  unfold wrF wrR
  rw [List.map_append, List.flatten_append]
theorem wrF_one1 (x : WrV) : wrF [x] = (wrC x).toList := by unfold wrF wrR; simp
theorem wrF_at (l : List WrV) (i : Nat) (h : i < l.length) (j : Nat) (hj : j < 3) : (wrF l)[i * 3 + j]? = ((wrC l[i]).toList)[j]? := by
  have := flatten_at (wrR l) (wrR_each l) i (by rw [wrR_len]; exact h) j hj
  unfold wrF
  rw [this]
  unfold wrR
  rw [List.getElem_map]
theorem wrF_one (l : List WrV) : ∀ v ∈ wrF l, v.oneCell' = true := by
  intro v hv
  obtain ⟨r, hr, hv⟩ := List.mem_flatten.1 hv
  obtain ⟨x, _, rfl⟩ := List.mem_map.1 hr
  simp [wrC] at hv
  rcases hv with rfl | rfl | rfl <;> rfl
theorem wr_at {w : World} {ad : Addr} {c : Nat} {l : List WrV} (h : Wrs w (some ad) c l) (i : Nat) (hi : i < l.length) :
    ∀ j v, (wrC l[i]).toList[j]? = some v → w.cell? ((ad.add (i * 3)).add j) = some v := by
  intro j v hj
  have hj3 : j < 3 := (List.getElem?_eq_some_iff.1 hj).1
  have h0 := h.at' ad rfl i (by rw [wrR_len]; exact hi) j hj3
  unfold wrR at h0
  rw [List.getElem_map, hj] at h0
  rw [Go.Deep.add_add]
  exact h0
theorem wrs_le {w : World} {ao : Option Addr} {c : Nat} {l : List WrV} (h : Wrs w ao c l) : l.length ≤ c := by
  have := h.le
  rwa [wrR_len] at this
theorem wrs_cells {w : World} {ad : Addr} {c : Nat} {l : List WrV} (h : Wrs w (some ad) c l) : ∀ j v, (wrF l)[j]? = some v → w.cell? (ad.add j) = some v := by
  intro j v hj
  have hlt : j < l.length * 3 := by
    have := (List.getElem?_eq_some_iff.1 hj).1
    rw [wrF_len] at this
    exact this
  have e : j = j / 3 * 3 + j % 3 := by omega
  have hi : j / 3 < l.length := by omega
  rw [e, wrF_at l (j / 3) hi (j % 3) (by omega)] at hj
  have := wr_at h (j / 3) hi (j % 3) v hj
  rw [Go.Deep.add_add, ← e] at this
  exact this
theorem wrs_of {w : World} {g : Nat} {l : List WrV} (h : Has w g 32 (wrF l).toArray) (hn : l.length ≤ 1000000) : Wrs w (some ⟨g, 0, none⟩) l.length l := by
  have := Sl.of_block (w := w) (g := g) (sz := 3) (rows := wrR l) h (wrR_each l) (by rw [wrR_len]; exact hn)
  rw [wrR_len] at this
  exact this
theorem wr_size (x : WrV) : (Tryz.prog.info? 32).map (·.size) = some (wrC x).size := by
  show _ = some 3
  kernel_rfl
theorem wr_zero : (Tryz.prog.info? 32).map (·.zero) = some (some (.agg (wrC wr0))) := by kernel_rfl
theorem wr_cells1 (x : WrV) : (wrC x).all (·.oneCell') = true := by unfold wrC; simp [Value.oneCell', strV]
theorem wr_built (k b : List UInt8) (d : Bool) : Tryz.prog.built 32 [(0, strV k), (1, strV b), (2, .bool d)] = some (wrC ⟨k, b, d⟩) := by kernel_rfl
theorem wr_built2 (k b : List UInt8) : Tryz.prog.built 32 [(0, strV k), (1, strV b)] = some (wrC ⟨k, b, false⟩) := by kernel_rfl
theorem wr_built1 (k : List UInt8) : Tryz.prog.built 32 [(0, strV k)] = some (wrC ⟨k, [], false⟩) := by kernel_rfl
theorem wr_built02 (k : List UInt8) (d : Bool) : Tryz.prog.built 32 [(0, strV k), (2, .bool d)] = some (wrC ⟨k, [], d⟩) := by kernel_rfl
section laws
variable {ops : Array Oper} {rest : List Oper} {o : Oper} {a : Act} {w : World} {Q : Exit → Act → World → Prop} {S : World → Prop}
theorem load_wr (y : WrV) (hw : Region.wanted o (yielded ops a.tmps) = true) (x : Operand) (ho : o.op = .load 32 x) (g : Nat) (hx : a.eval x = .pointer (some ⟨g, 0, none⟩))
    (hg : Has w g 32 (wrC y)) (h : wpList Tryz.prog ops Q rest (a.put o.dst (.agg (wrC y))) w) : wpList Tryz.prog ops Q (o :: rest) a w :=
  wpList_load_has hw 32 x ho g hx 32 (wrC y) _ Tryz.underlying32 rfl (wr_size y) hg h
theorem load_wr_at (y : WrV) (hw : Region.wanted o (yielded ops a.tmps) = true) (x : Operand) (ho : o.op = .load 32 x) (A : Addr) (hx : a.eval x = .pointer (some A))
    (hc : ∀ j v, (wrC y).toList[j]? = some v → w.cell? (A.add j) = some v) (h : wpList Tryz.prog ops Q rest (a.put o.dst (.agg (wrC y))) w) : wpList Tryz.prog ops Q (o :: rest) a w :=
  wpList_load_any hw 32 x ho A hx (wrC y).toList _ hc Tryz.underlying32 rfl (wr_size y) h
theorem store_wr (y old : WrV) (hw : Region.wanted o (yielded ops a.tmps) = true) (x z : Operand) (ho : o.op = .store 32 x z) (g : Nat) (hx : a.eval x = .pointer (some ⟨g, 0, none⟩)) (hy : a.eval z = .agg (wrC y))
    (hg : Has w g 32 (wrC old)) (h : wpList Tryz.prog ops Q rest (a.put o.dst undef) (w.setRow g (wrC y))) : wpList Tryz.prog ops Q (o :: rest) a w :=
  wpList_store_has hw 32 x z ho g hx (wrC y) hy 32 (wrC old) (wr_size y) rfl (wr_cells1 y) hg h
theorem alloc_wr (hw : Region.wanted o (yielded ops a.tmps) = true) (ho : o.op = .alloc 32)
    (h : wpList Tryz.prog ops Q rest (a.put o.dst (.pointer (some ⟨w.heap.size, 0, none⟩))) (w.alloc (.cells (wrC wr0) 32))) : wpList Tryz.prog ops Q (o :: rest) a w :=
  wpList_alloc_has hw 32 ho (wrC wr0) wr_zero h
theorem build_wr3 (k b : List UInt8) (d : Bool) (hw : Region.wanted o (yielded ops a.tmps) = true) (x y z : Operand) (ho : o.op = .build 32 #[(0, x), (1, y), (2, z)]) (hx : a.eval x = strV k) (hy : a.eval y = strV b) (hz : a.eval z = .bool d)
    (h : wpList Tryz.prog ops Q rest (a.put o.dst (.agg (wrC ⟨k, b, d⟩))) w) : wpList Tryz.prog ops Q (o :: rest) a w :=
  wpList_build_has hw 32 _ ho _ (by simpa [hx, hy, hz] using wr_built k b d) h
theorem build_wr2 (k b : List UInt8) (hw : Region.wanted o (yielded ops a.tmps) = true) (x y : Operand) (ho : o.op = .build 32 #[(0, x), (1, y)]) (hx : a.eval x = strV k) (hy : a.eval y = strV b)
    (h : wpList Tryz.prog ops Q rest (a.put o.dst (.agg (wrC ⟨k, b, false⟩))) w) : wpList Tryz.prog ops Q (o :: rest) a w :=
  wpList_build_has hw 32 _ ho _ (by simpa [hx, hy] using wr_built2 k b) h
end laws
theorem wr_info : ∃ i, Tryz.prog.info? 32 = some i ∧ i.zero = some (.agg (wrC wr0)) ∧ i.size = 3 ∧ i.bytes = 40 := by
  have h : (Tryz.prog.info? 32).map (fun i => (i.zero, i.size, i.bytes)) = some (some (.agg (wrC wr0)), 3, 40) := by kernel_rfl
  cases hi : Tryz.prog.info? 32 with
  | none => rw [hi] at h; cases h
  | some i =>
    rw [hi] at h
    simp only [Option.map_some, Option.some.injEq, Prod.mk.injEq] at h
    exact ⟨i, rfl, h.1, h.2.1, h.2.2⟩
theorem slice_wr_w (e : WrV) (w : World) : (Instr.buildSlice 33 1 #[(0, .agg (wrC e))]).run Tryz.prog w = .ok (.slice (some ⟨w.heap.size, 0, none⟩) 1 1) (w.alloc (.cells (wrC e) 32)) := by
  have h : (Instr.buildSlice 33 1 #[(0, .agg (wrC e))]).run Tryz.prog w = ((newRow 32 (wrC e)).run Tryz.prog w).andThen (fun a w => .ok (.slice (some a) 1 1) w) := by kernel_rfl
  rw [h]
  simp [newRow, run_newObj_alloc, Sem.run_bind, Sem.run_pure, Result.andThen]
theorem wr_w1 (w : World) (e : WrV) : ∃ W, w.alloc (.cells (wrC e) 32) = W ∧ Wrs W (some ⟨w.heap.size, 0, none⟩) 1 [e] ∧ Below w.heap.size w W := by
  refine ⟨_, rfl, ?_, (Below.refl _ _).alloc (Nat.le_refl _) _⟩
  have h : Has (w.alloc (.cells (wrC e) 32)) w.heap.size 32 (wrF [e]).toArray := by
    have := Has.new w 32 (wrC e)
    rw [wrF_one1]
    exact this
  exact wrs_of h (by simp)
theorem run_appendWr (w : World) (ty : TypeId) (base : Nat) (v : Value) (m l : List WrV) (hown : w.ownsRow base 32 3 v m.length (wrF m)) (ao : Option Addr) (c : Nat) (h : Wrs w ao c l) (hl : m.length + l.length ≤ 1000000) (hbase : base ≤ w.heap.size) :
    ∃ v' w', (Builtin.append_ #[33, 33] ty #[v, .slice ao l.length c]).run Tryz.prog w = .ok v' w' ∧ w'.ownsRow base 32 3 v' (m ++ l).length (wrF (m ++ l)) ∧ w.grownBy w' v.ownBlock := by
  obtain ⟨i0, hi, hz0, hz1, hz2⟩ := wr_info
  cases ao with
  | none =>
    have h0 : l = [] := by have := h.nil rfl; have := wrs_le h; exact List.eq_nil_of_length_eq_zero (by omega)
    have hc := h.nil rfl
    subst h0 hc
    exact ⟨v, w, run_append_owned_none (P := Tryz.prog) (w := w) base 33 ty 32 i0 3 Tryz.underlying33 hi v m.length (wrF m) hown, by rw [List.append_nil]; exact hown, World.grownBy.refl _ _⟩
  | some ad =>
    obtain ⟨v', w', hr, h2, h3, h4, h5⟩ := run_append_own_at (P := Tryz.prog) w base 33 ty 32 i0 (.agg (wrC wr0)) 3 40 Tryz.underlying33 hi hz0 hz1 hz2 rfl (by decide) v m.length (wrF m) hown ad l.length c (wrF l) (wrF_len l) (wrs_cells h) (wrF_one l) (by unfold maxLen; omega) (by omega) hbase
    refine ⟨v', w', hr, ?_, h3⟩
    rw [List.length_append, wrF_app]
    exact h2
theorem own_nilWr (w : World) (base : Nat) : w.ownsRow base 32 3 (.slice none 0 0) ([] : List WrV).length (wrF []) := World.ownsRow_nil _ _ _ _
/-- A row of one's own, as a slice of writes. -/
theorem wrs_own {w : World} {base n : Nat} {v : Value} {l : List WrV} (h : w.ownsRow base 32 3 v n (wrF l)) : n = l.length ∧ ∃ ao c, v = .slice ao l.length c ∧ Wrs w ao c l ∧ (∀ d, ao = some d → base ≤ d.block ∧ d.block < w.heap.size) := by
  have hl : n = l.length := by have := h.1; rw [wrF_len] at this; omega
  refine ⟨hl, ?_⟩
  subst hl
  rcases h.2 with ⟨hv, h0⟩ | ⟨g, cap, cur, hv, hg, hc, hle, hm, hcur⟩
  · have : l = [] := List.eq_nil_of_length_eq_zero (by omega)
    subst this
    exact ⟨none, 0, by rw [hv]; rfl, Sl.nothing _ _, fun d hd => by cases hd⟩
  · refine ⟨some ⟨g, 0, none⟩, cap, hv, ⟨by rw [wrR_len]; omega, Nat.le_trans hm (by unfold maxLen; omega), (fun h => by cases h), wrR_each l, fun ad had i hi j hj => ?_⟩, fun d hd => by obtain rfl := Option.some.inj hd; exact ⟨hg, (Array.getElem?_eq_some_iff.1 hc).1⟩⟩
    obtain rfl := Option.some.inj had
    have hf := flatten_at (wrR l) (wrR_each l) i hi j hj
    have hl3 := wrR_each l _ (List.getElem_mem hi)
    rw [List.getElem?_eq_getElem (show j < ((wrR l)[i]).length by omega)] at hf ⊢
    exact h.cells (g := g) (by rw [hv]; rfl) _ _ hf
theorem wrs_keptW {w w' : World} {base n : Nat} {v : Value} {l : List WrV} (h : w.ownsRow base 32 3 v n (wrF l)) (hq : Below w.heap.size w w') : w'.ownsRow base 32 3 v n (wrF l) := by
  obtain ⟨h1, h2⟩ := h
  refine ⟨h1, h2.imp id ?_⟩
  rintro ⟨g, cap, cur, hv, hb, hg, hr⟩
  refine ⟨g, cap, cur, hv, hb, ?_, hr⟩
  rw [hq.block g (Array.getElem?_eq_some_iff.1 hg).1]
  exact hg
section
variable {ops : Array Oper} {rest : List Oper} {o : Oper} {a : Act} {w : World} {Q : Exit → Act → World → Prop}
/-- One write behind writes of one's own. -/
theorem wpList_appendWr (hw : Region.wanted o (yielded ops a.tmps) = true) (s x : Operand) (hop : o.op = .call { callee := .builtin .append, args := #[s, x], argTypes := #[33, 33] }) (base : Nat) (v : Value) (m l : List WrV) (hs : a.eval s = v) (hown : w.ownsRow base 32 3 v m.length (wrF m)) (ao : Option Addr) (n c : Nat) (hx : a.eval x = .slice ao n c) (hn : n = l.length) (h : Wrs w ao c l) (hl : m.length + l.length ≤ 1000000) (hbase : base ≤ w.heap.size)
    (hK : ∀ v' w', w'.ownsRow base 32 3 v' (m ++ l).length (wrF (m ++ l)) → Below base w w' → (∀ i, i < w.heap.size → v.ownBlock ≠ some i → w'.heap[i]? = w.heap[i]?) → wpList Tryz.prog ops Q rest (a.put o.dst v') w') : wpList Tryz.prog ops Q (o :: rest) a w := by
  subst hn
  refine BigFrame.wpList_want hw fun K hK' => ?_
  obtain ⟨v', w', hr, ho, hg⟩ := run_appendWr w o.type base v m l hown ao c h hl hbase
  have e : (execOp a.eval o).run Tryz.prog w = .ok (.value v') w' := by
    unfold execOp
    simp only [hop, resolve, invoke, builtin, Sem.run_bind, Sem.run_pure, Result.andThen_ok, List.map_toArray, List.map_cons, List.map_nil, hs, hx, hr]
  unfold Oper.wp
  rw [e]
  refine hK' _ _ (hK v' w' ho ((Below.refl base w).grown hg hbase fun k hk => ?_) fun i hi hn => hg.block i hi (fun e => hn e.symm))
  rcases hown.2 with ⟨hv, _⟩ | ⟨g, cap, cur, hv, hg', hc, _⟩
  · rw [hv] at hk; cases hk
  · rw [hv] at hk
    have : g = k := by simpa [Value.ownBlock] using hk
    omega
theorem wpList_slice_wr (hw : Region.wanted o (yielded ops a.tmps) = true) (x : Operand) (ho : o.op = .buildSlice 33 1 #[(0, x)]) (e : WrV) (hx : a.eval x = .agg (wrC e))
    (h : wpList Tryz.prog ops Q rest (a.put o.dst (.slice (some ⟨w.heap.size, 0, none⟩) 1 1)) (w.alloc (.cells (wrC e) 32))) : wpList Tryz.prog ops Q (o :: rest) a w := by
  refine BigFrame.wpList_want hw fun K hK => ?_
  have hp : (#[(0, x)] : Array (Nat × Operand)).map (fun (i, x) => (i, a.eval x)) = #[(0, .agg (wrC e))] := by simp [hx]
  have e : (execOp a.eval o).run Tryz.prog w = .ok (.value (.slice (some ⟨w.heap.size, 0, none⟩) 1 1)) (w.alloc (.cells (wrC e) 32)) := by
    unfold execOp
    simp only [ho]
    simp only [hp, Sem.run_bind, slice_wr_w e w, Result.andThen_ok, Sem.run_pure]
  unfold Oper.wp
  rw [e]
  exact hK _ _ h
end
end
end Go.Proofs.YtpnpjblohijajabGreat
