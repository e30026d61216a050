/- Two rows of one's own side by side: numbers, and states; a step along a plan whose run is known. -/
import Derived.Test.YtlbokkbngbpmiaaBestFacts9
import Derived.Test.YtlbokkbngbpmiaaIntApp
import Derived.Test.YtlbokkbngbpmiaaChooseKnown
namespace Go.Proofs.Ytlbokkbngbpmiaa
set_option linter.unusedSimpArgs false
set_option linter.unusedVariables false
set_option maxRecDepth 100000
open Go.RowKit

theorem plan_is9 {ops : Array Oper} {Q : Exit → Act → World → Prop} {S : World → Prop} {i : Nat} {p : Plan} {a : Act} {w : World} (o : Oper) (v : Value) (W : World) (ho : nth ops.toList i = some o) (hw : Region.wanted o (yielded ops a.tmps) = true) (hr : (execOp a.eval o).run Try.prog w = .ok (.value v) W) (hS : S W) (h : wpPlan Try.prog ops Q S p (a.put o.dst v) W) : wpPlan Try.prog ops Q S (Plan.run i p) a w := by
  refine plan_run o ho fun K hK => ?_
  rw [if_pos hw]
  unfold Oper.wp
  rw [hr]
  exact hK.out _ _ hS h
theorem run_slice_one9 {o : Oper} {ev : Operand → Value} (t : TypeId) (x : Operand) (ho : o.op = .buildSlice t 1 #[(0, x)]) (q : Value) (hx : ev x = q) (v : Value) (w W : World) (hr : (Instr.buildSlice t 1 #[(0, q)]).run Try.prog w = .ok v W) : (execOp ev o).run Try.prog w = .ok (.value v) W := by
  unfold execOp
  simp only [ho]
  have e : ((#[(0, x)] : Array (Nat × Operand)).map fun (i, x) => (i, ev x)) = #[(0, q)] := by simp [hx]
  simp only [e, Sem.run_bind, hr, Result.andThen_ok, Sem.run_pure]
theorem ints_one (x : Int) (w : World) : (Instr.buildSlice 22 1 #[(0, .int .i64 x)]).run Try.prog w = .ok (.slice (some ⟨w.heap.size, 0, none⟩) 1 1) (w.alloc (.cells #[.int .i64 x] 3)) := by
  have h : (Instr.buildSlice 22 1 #[(0, .int .i64 x)]).run Try.prog w = ((newRow 3 #[.int .i64 x]).run Try.prog w).andThen (fun a w => .ok (.slice (some a) 1 1) w) := by kernel_rfl
  rw [h]
  simp [newRow, run_newObj_alloc, Sem.run_bind, Sem.run_pure, Result.andThen]
theorem sts_one (p : StE) (w : World) : (Instr.buildSlice 23 1 #[(0, .agg (stC p.st p.ao p.c))]).run Try.prog w = .ok (.slice (some ⟨w.heap.size, 0, none⟩) 1 1) (w.alloc (.cells (stC p.st p.ao p.c) 63)) := by
  have h : (Instr.buildSlice 23 1 #[(0, .agg (stC p.st p.ao p.c))]).run Try.prog w = ((newRow 63 (stC p.st p.ao p.c)).run Try.prog w).andThen (fun a w => .ok (.slice (some a) 1 1) w) := by kernel_rfl
  rw [h]
  simp [newRow, run_newObj_alloc, Sem.run_bind, Sem.run_pure, Result.andThen]
theorem Try.infoSt9 : (Try.prog.info? 63).map (fun i => (i.zero, i.size, i.bytes)) = some (some (.agg (stC st0 none 0)), 49, 600) := by kernel_rfl

structure TwoOwn (w : World) (B : Nat) (v6 v7 : Value) (A : List Int) (Y : List StE) : Prop where
  o6 : w.ownsRow B 3 1 v6 A.length (intsC A)
  o7 : w.ownsRow B 63 49 v7 Y.length (rowsS Y).flatten
  ap : ∀ k, v6.ownBlock = some k → v7.ownBlock ≠ some k
theorem TwoOwn.nil (w : World) (B : Nat) : TwoOwn w B (.slice none 0 0) (.slice none 0 0) [] [] := ⟨World.ownsRow_nil _ _ _ _, World.ownsRow_nil _ _ _ _, fun k h => by cases h⟩
theorem TwoOwn.alloc {w : World} {B : Nat} {v6 v7 : Value} {A : List Int} {Y : List StE} (h : TwoOwn w B v6 v7 A Y) (o : Obj) : TwoOwn (w.alloc o) B v6 v7 A Y := ⟨h.o6.alloc o, h.o7.alloc o, h.ap⟩
theorem TwoOwn.drew {w : World} {B : Nat} {v6 v7 : Value} {A : List Int} {Y : List StE} (h : TwoOwn w B v6 v7 A Y) : TwoOwn w.drew B v6 v7 A Y := ⟨h.o6, h.o7, h.ap⟩
theorem has_grown9 {w w' : World} {row : Option Nat} {g : Nat} {t : TypeId} {c : Array Value} (h : Has w g t c) (hg : w.grownBy w' row) (hn : row ≠ some g) : Has w' g t c := (hg.block g h.lt (Ne.symm hn)).trans h
theorem rowsS_each (xs : List StE) : ∀ r ∈ rowsS xs, r.length = 49 := by
  intro r hr
  obtain ⟨x, _, rfl⟩ := List.mem_map.1 hr
  rfl
theorem rowsS_snoc (xs : List StE) (x : StE) : (rowsS (xs ++ [x])).flatten = (rowsS xs).flatten ++ stL x.st x.ao x.c := by
  unfold rowsS
  rw [List.map_append, List.flatten_append]
  simp
theorem TwoOwn.app6 {w : World} {B : Nat} {v6 v7 : Value} {A : List Int} {Y : List StE} (h : TwoOwn w B v6 v7 A Y) (hB : B ≤ w.heap.size) (hl : A.length ≤ 100) {g : Nat} {x : Int} (hX : Has w g 3 #[.int .i64 x]) :
    ∃ v w', (Builtin.append_ #[22, 22] 22 #[v6, .slice (some ⟨g, 0, none⟩) 1 1]).run Try.prog w = .ok v w' ∧ TwoOwn w' B v v7 (A ++ [x]) Y ∧ w.grownBy w' v6.ownBlock := by
  obtain ⟨i0, hi, hz0, hz1, hz2⟩ := info_parts Try.infoInt
  obtain ⟨v', w', hr, h2, h3, h4, h5⟩ := run_append_own_at (P := Try.prog) w B 22 22 3 i0 (.int .i64 0) 1 8 Try.underlying22 hi hz0 hz1 hz2 rfl (by decide) v6 A.length (intsC A) h.o6 ⟨g, 0, none⟩ 1 1 [.int .i64 x] rfl (fun j u hj => by
    match j, hj with
    | 0, hj =>
      obtain rfl := Option.some.inj hj
      have := hX.cell 0
      rw [Addr.add_mid, Nat.zero_add, this]
      rfl) (fun u hu => by obtain rfl := List.mem_singleton.1 hu; rfl) (by unfold maxLen; omega) (by omega) hB
  refine ⟨v', w', hr, ⟨?_, h.o7.kept h3 ?_, fun k hk => ?_⟩, h3⟩
  · rw [List.length_append, intsC_app]
    exact h2
  · cases hv : v7.ownBlock with
    | none => exact .inl rfl
    | some k => exact .inr (fun e => h.ap k e.symm hv)
  · rcases h5 with e | e
    · exact h.ap k (e ▸ hk)
    · intro e7
      have := (h.o7.lt k e7).2
      rw [hk] at e
      have := Option.some.inj e
      omega
theorem TwoOwn.app7 {w : World} {B : Nat} {v6 v7 : Value} {A : List Int} {Y : List StE} (h : TwoOwn w B v6 v7 A Y) (hB : B ≤ w.heap.size) (hl : Y.length ≤ 100) {g : Nat} {x : StE} (hX : Has w g 63 (stC x.st x.ao x.c)) :
    ∃ v w', (Builtin.append_ #[23, 23] 23 #[v7, .slice (some ⟨g, 0, none⟩) 1 1]).run Try.prog w = .ok v w' ∧ TwoOwn w' B v6 v A (Y ++ [x]) ∧ w.grownBy w' v7.ownBlock := by
  obtain ⟨i0, hi, hz0, hz1, hz2⟩ := info_parts Try.infoSt9
  obtain ⟨v', w', hr, h2, h3, h4, h5⟩ := run_append_own_at (P := Try.prog) w B 23 23 63 i0 (.agg (stC st0 none 0)) 49 600 Try.underlying23 hi hz0 hz1 hz2 rfl (by decide) v7 Y.length (rowsS Y).flatten h.o7 ⟨g, 0, none⟩ 1 1 (stL x.st x.ao x.c) rfl (fun j u hj => by
      have := hX.cell j
      rw [Addr.add_mid, Nat.zero_add, this]
      show (stL x.st x.ao x.c).toArray[j]? = some u
      rw [List.getElem?_toArray]
      exact hj) (fun u hu => by
      have := st_one x.st x.ao x.c
      rw [Array.all_eq_true'] at this
      exact this u (by show u ∈ (stL x.st x.ao x.c).toArray; simpa using hu)) (by unfold maxLen; omega) (by omega) hB
  refine ⟨v', w', hr, ⟨h.o6.kept h3 ?_, ?_, fun k hk e7 => ?_⟩, h3⟩
  · cases hv : v6.ownBlock with
    | none => exact .inl rfl
    | some k => exact .inr (fun e => h.ap k hv e.symm)
  · rw [List.length_append, rowsS_snoc]
    exact h2
  · rcases h5 with e | e
    · exact h.ap k hk (e ▸ e7)
    · have := (h.o6.lt k hk).2
      rw [e7] at e
      have := Option.some.inj e
      omega
/-- A row of states of one's own, as a slice of states. -/
theorem sts_own {w : World} {base n : Nat} {v : Value} {l : List StE} (h : w.ownsRow base 63 49 v n (rowsS l).flatten) (hn : n = l.length) : ∃ ao c, v = .slice ao l.length c ∧ Sl w ao c 49 (rowsS l) := by
  subst hn
  rcases h.2 with ⟨hv, h0⟩ | ⟨g, cap, cur, hv, hg, hc, hle, hm, hcur⟩
  · have : l = [] := List.eq_nil_of_length_eq_zero (by omega)
    subst this
    exact ⟨none, 0, by rw [hv]; rfl, Sl.nothing _ _⟩
  · refine ⟨some ⟨g, 0, none⟩, cap, hv, ⟨by rw [rowsS_len]; omega, Nat.le_trans hm (by unfold maxLen; omega), (fun h => by cases h), rowsS_each l, fun ad had i hi j hj => ?_⟩⟩
    obtain rfl := Option.some.inj had
    have hf := flatten_at (rowsS l) (rowsS_each l) i hi j hj
    have hl3 := rowsS_each l _ (List.getElem_mem hi)
    rw [List.getElem?_eq_getElem (show j < ((rowsS l)[i]).length by omega)] at hf ⊢
    exact h.cells (g := g) (by rw [hv]; rfl) _ _ hf
end Go.Proofs.Ytlbokkbngbpmiaa
