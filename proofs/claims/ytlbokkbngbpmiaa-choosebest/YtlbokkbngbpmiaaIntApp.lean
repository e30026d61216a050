/- Slices of int by append: of whatever slice, to nothing or to one's own. Numbers of 32 bits by name. -/
import Derived.Test.YtlbokkbngbpmiaaPackMaps
import Derived.Test.YtlbokkbngbpmiaaPackTools
import Derived.Maps.AppendAt
namespace Go.Proofs.Ytlbokkbngbpmiaa
set_option linter.unusedSimpArgs false
set_option linter.unusedVariables false
set_option maxRecDepth 100000
open Go.RowKit

theorem run_rem_u32c {P : Program} {o : Oper} {ev : Operand → Value} (ty ty' : TypeId) (x y : Operand) (ho : o.op = .binOp .rem ty x y ty') (n m k : Nat) (hx : ev x = .int .u32 (n : Int)) (hy : ev y = .int .u32 (m : Int)) (hn : n < 4294967296) (hm : 0 < m) (hk : n % m = k) (w : World) :
    (execOp ev o).run P w = .ok (.value (.int .u32 (k : Int))) w := by
  subst hk
  have h1 : ((m : Int) = 0) = False := by simp; omega
  have h2 : (n : Int).tmod (m : Int) = ((n % m : Nat) : Int) := rfl
  have h3 : n % m < 4294967296 := Nat.lt_of_le_of_lt (Nat.mod_le _ _) hn
  have h4 : IntKind.u32.wrap ((n % m : Nat) : Int) = ((n % m : Nat) : Int) := by
    simp [IntKind.wrap, IntKind.bits, IntKind.signed]
    omega
  unfold execOp
  simp only [ho, hx, hy]
  simp [Sem.run_bind, go_sem, h1, h2, h4]
  omega
/-- The sum of two numbers of 32 bits that stays below 2^32. -/
theorem run_add_u32c {P : Program} {o : Oper} {ev : Operand → Value} (ty ty' : TypeId) (x y : Operand) (ho : o.op = .binOp .add ty x y ty') (n m k : Nat) (hx : ev x = .int .u32 (n : Int)) (hy : ev y = .int .u32 (m : Int)) (hk : n + m = k) (hl : k < 4294967296) (w : World) :
    (execOp ev o).run P w = .ok (.value (.int .u32 (k : Int))) w := by
  subst hk
  have h4 : IntKind.u32.wrap ((n : Int) + (m : Int)) = ((n + m : Nat) : Int) := by
    simp [IntKind.wrap, IntKind.bits, IntKind.signed]
    omega
  unfold execOp
  simp only [ho, hx, hy]
  simp [Sem.run_bind, go_sem, h4]
theorem intsC_app (a b : List Int) : intsC (a ++ b) = intsC a ++ intsC b := by unfold intsC; rw [List.map_append]
theorem Ix.cells {w : World} {ad : Addr} {c : Nat} {l : List Int} (h : Ix w (some ad) c l) : ∀ j u, (intsC l)[j]? = some u → w.cell? (ad.add j) = some u := by
  intro j u hj
  unfold intsC at hj
  rw [List.getElem?_map] at hj
  cases hq : l[j]? with
  | none => rw [hq] at hj; cases hj
  | some x =>
    rw [hq] at hj
    obtain ⟨hlt, rfl⟩ := List.getElem?_eq_some_iff.1 hq
    rw [h.at' ad rfl j hlt]
    exact hj
theorem run_appendI (w : World) (ty : TypeId) (base : Nat) (v : Value) (m l : List Int) (hown : w.ownsRow base 3 1 v m.length (intsC m)) (ao : Option Addr) (c : Nat) (h : Ix w ao c l) (hl : m.length + l.length ≤ 1000) (hbase : base ≤ w.heap.size) :
    ∃ v' w', (Builtin.append_ #[22, 22] ty #[v, .slice ao l.length c]).run Try.prog w = .ok v' w' ∧ w'.ownsRow base 3 1 v' (m ++ l).length (intsC (m ++ l)) ∧ w.grownBy w' v.ownBlock := by
  obtain ⟨i0, hi, hz0, hz1, hz2⟩ := info_parts Try.infoInt
  cases ao with
  | none =>
    have h0 : l = [] := by have := h.nil rfl; have := h.le; exact List.eq_nil_of_length_eq_zero (by omega)
    have hc := h.nil rfl
    subst h0 hc
    exact ⟨v, w, run_append_owned_none (P := Try.prog) (w := w) base 22 ty 3 i0 1 Try.underlying22 hi v m.length (intsC m) hown, by rw [List.append_nil]; exact hown, World.grownBy.refl _ _⟩
  | some ad =>
    obtain ⟨v', w', hr, h2, h3, h4, h5⟩ := run_append_own_at (P := Try.prog) w base 22 ty 3 i0 (.int .i64 0) 1 8 Try.underlying22 hi hz0 hz1 hz2 rfl (by decide) v m.length (intsC m) hown ad l.length c (intsC l) (by unfold intsC; rw [List.length_map]; omega) h.cells (fun u hu => by unfold intsC at hu; obtain ⟨x, _, rfl⟩ := List.mem_map.1 hu; rfl) (by unfold maxLen; omega) (by omega) hbase
    refine ⟨v', w', hr, ?_, h3⟩
    rw [List.length_append, intsC_app]
    exact h2
theorem run_append_opI {o : Oper} {ev : Operand → Value} (s x : Operand) (t u : TypeId) (hop : o.op = .call { callee := .builtin .append, args := #[s, x], argTypes := #[t, u] }) (v xv : Value) (hs : ev s = v) (hx : ev x = xv) (v' : Value) (w W : World) (hr : (Builtin.append_ #[t, u] o.type #[v, xv]).run Try.prog w = .ok v' W) :
    (execOp ev o).run Try.prog w = .ok (.value v') W := by
  unfold execOp
  simp only [hop, resolve, invoke, builtin, Sem.run_bind, Sem.run_pure, Result.andThen_ok, List.map_toArray, List.map_cons, List.map_nil, hs, hx, hr]
theorem wpList_appendI {ops : Array Oper} {rest : List Oper} {o : Oper} {a : Act} {w : World} {Q : Exit → Act → World → Prop} (hw : Region.wanted o (yielded ops a.tmps) = true) (s x : Operand) (t u : TypeId) (hop : o.op = .call { callee := .builtin .append, args := #[s, x], argTypes := #[t, u] }) (v xv : Value) (hs : a.eval s = v) (hx : a.eval x = xv) (v' : Value) (W : World) (hr : (Builtin.append_ #[t, u] o.type #[v, xv]).run Try.prog w = .ok v' W)
    (h : wpList Try.prog ops Q rest (a.put o.dst v') W) : wpList Try.prog ops Q (o :: rest) a w := by
  refine BigFrame.wpList_want hw fun K hK => ?_
  unfold Oper.wp
  rw [run_append_opI s x t u hop v xv hs hx v' w W hr]
  exact hK _ _ h
/-- append([]int(nil), l...), and one more. -/
theorem copy_one (w : World) (l : List Int) (x : Int) (ao : Option Addr) (c : Nat) (h : Ix w ao c l) (hl : l.length ≤ 100) :
    ∃ v1 w1, (Builtin.append_ #[22, 22] 22 #[.slice none 0 0, .slice ao l.length c]).run Try.prog w = .ok v1 w1 ∧ ∃ mo mc w3, (Builtin.append_ #[22, 22] 22 #[v1, .slice (some ⟨w1.heap.size, 0, none⟩) 1 1]).run Try.prog (w1.alloc (.cells #[.int .i64 x] 3)) = .ok (.slice mo (l.length + 1) mc) w3 ∧ Ix w3 mo mc (l ++ [x]) ∧ Below w.heap.size w w3 := by
  obtain ⟨v1, w1, hr, hown, hg⟩ := run_appendI w 22 w.heap.size (.slice none 0 0) [] l (World.ownsRow_nil _ _ _ _) ao c h (by simp; omega) (Nat.le_refl _)
  rw [List.nil_append] at hown
  have hb1 : Below w.heap.size w w1 := (Below.refl _ _).grown hg (Nat.le_refl _) (fun k hk => by cases hk)
  have hown2 := hown.alloc (.cells #[.int .i64 x] 3)
  have hb2 := hb1.alloc hb1.size (.cells #[.int .i64 x] 3)
  have hN := Has.new w1 3 #[.int .i64 x]
  have hIx : Ix (w1.alloc (.cells #[.int .i64 x] 3)) (some ⟨w1.heap.size, 0, none⟩) 1 [x] := by
    refine ⟨Nat.le_refl _, by decide, (fun h => by cases h), fun ad had j hj => ?_⟩
    obtain rfl := Option.some.inj had
    have hc := hN.cell j
    rw [Addr.add_mid, Nat.zero_add, hc]
    have hj : j < 1 := hj
    match j, hj with
    | 0, _ => rfl
  obtain ⟨v3, w3, hr3, hown3, hg3⟩ := run_appendI _ 22 w.heap.size v1 l [x] hown2 _ 1 hIx (by simp; omega) hb2.size
  obtain ⟨_, mo, mc, rfl, hI3⟩ := ix_own hown3
  refine ⟨v1, w1, hr, mo, mc, w3, ?_, hI3, hb2.grown hg3 hb2.size (fun k hk => (hown2.lt k hk).1)⟩
  rw [List.length_append] at hr3
  exact hr3
end Go.Proofs.Ytlbokkbngbpmiaa
