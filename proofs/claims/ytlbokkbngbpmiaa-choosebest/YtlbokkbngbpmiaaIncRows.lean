/- Rows of increments: in slices, of one's own; histories that take what comes. -/
import Derived.Test.YtlbokkbngbpmiaaHistKnown
import Derived.Test.YtlbokkbngbpmiaaPackMaps
import Derived.Test.YtlbokkbngbpmiaaPackTools
import Derived.Maps.AppendAt
namespace Go.Proofs.Ytlbokkbngbpmiaa
set_option linter.unusedSimpArgs false
set_option linter.unusedVariables false
set_option maxRecDepth 100000
open Go.RowKit

def incR (xs : List IncV) : List (List Value) := xs.map fun x => (incC x).toList

theorem incR_len (xs : List IncV) : (incR xs).length = xs.length := by unfold incR; rw [List.length_map]
theorem incR_flat (xs : List IncV) : (incR xs).flatten.length = xs.length * 3 := by
  induction xs with
  | nil => rfl
  | cons c cs ih =>
    show ((incC c).toList ++ (incR cs).flatten).length = _
    rw [List.length_append, ih, List.length_cons]
    show 3 + _ = _
    omega
theorem incR_snoc (xs : List IncV) (c : IncV) : (incR (xs ++ [c])).flatten = (incR xs).flatten ++ (incC c).toList := by
  unfold incR
  rw [List.map_append, List.flatten_append]
  simp

theorem incR_each (xs : List IncV) : ∀ r ∈ incR xs, r.length = 3 := by
  intro r hr
  unfold incR at hr
  obtain ⟨x, _, rfl⟩ := List.mem_map.1 hr
  rfl

theorem Try.infoIncH : (Try.prog.info? 73).map (fun i => (i.zero, i.size, i.bytes)) = some (some (.agg (incC ⟨0, 0, 0⟩)), 3, 16) := by kernel_rfl

theorem incR_at {w : World} {ad : Addr} {c : Nat} {xs : List IncV} (h : Sl w (some ad) c 3 (incR xs)) (i : Nat) (hi : i < xs.length) :
    ∀ j v, (incC xs[i]).toList[j]? = some v → w.cell? ((ad.add (i * 3)).add j) = some v := by
  intro j v hj
  have hj3 : j < 3 := (List.getElem?_eq_some_iff.1 hj).1
  have h0 := h.at' ad rfl i (by rw [incR_len]; exact hi) j hj3
  unfold incR at h0
  rw [List.getElem_map, hj] at h0
  rw [Go.Deep.add_add]
  exact h0

/-- A row of one's own, as a slice of increments. -/
theorem inc_own {w : World} {base n : Nat} {v : Value} {xs : List IncV} (h : w.ownsRow base 73 3 v n (incR xs).flatten) : n = xs.length ∧ ∃ ao c, v = .slice ao n c ∧ Sl w ao c 3 (incR xs) := by
  have hl : n = xs.length := by
    have := h.1
    rw [incR_flat] at this
    omega
  refine ⟨hl, ?_⟩
  rcases h.2 with ⟨hv, h0⟩ | ⟨g, cap, cur, hv, hg, hc, hle, hm, hcur⟩
  · have : xs = [] := List.eq_nil_of_length_eq_zero (by omega)
    subst this
    exact ⟨none, 0, by rw [hv, h0], Sl.nothing _ _⟩
  · refine ⟨some ⟨g, 0, none⟩, cap, hv, ⟨by rw [incR_len]; omega, Nat.le_trans hm (by unfold maxLen; omega), (fun h => by cases h), incR_each xs, fun ad had i hi j hj => ?_⟩⟩
    obtain rfl := Option.some.inj had
    have hf := flatten_at (incR xs) (incR_each xs) i hi j hj
    have hl3 := incR_each xs _ (List.getElem_mem hi)
    rw [List.getElem?_eq_getElem (show j < ((incR xs)[i]).length by omega)] at hf ⊢
    exact h.cells (g := g) (by rw [hv]; rfl) _ _ hf

theorem inc_row_own {w : World} {base n : Nat} {v : Value} {cs : List IncV} {x : IncV} {xs : List Value} (h : w.ownsRow base 73 3 v n xs) (hx : xs = (incR cs).flatten ++ (incC x).toList) (hn : n = cs.length + 1) : w.ownsRow base 73 3 v (cs ++ [x]).length (incR (cs ++ [x])).flatten := by
  rw [incR_snoc, ← hx, List.length_append]
  subst hn
  exact h

theorem row_new (w : World) (t : TypeId) (c : Array Value) : ∀ j u, c.toList[j]? = some u → (w.alloc (.cells c t)).cell? ((⟨w.heap.size, 0, none⟩ : Addr).add j) = some u := by
  intro j u hj
  have h := (Has.new w t c).cell j
  rw [Addr.add_mid, Nat.zero_add, h]
  simpa using hj

theorem inc_cells1 (x : IncV) : ∀ u ∈ (incC x).toList, u.oneCell' = true := by
  intro u hu
  simp [incC] at hu
  rcases hu with rfl | rfl | rfl <;> rfl

section
variable {ops : Array Oper} {S : World → Prop} {Q : Exit → Act → World → Prop}

theorem yields_inc_at {o : Oper} {a : Act} (y : IncV) (hw : Region.wanted o (yielded ops a.tmps) = true) (x : Operand) (ho : o.op = .load 73 x) (A : Addr) (hx : a.eval x = .pointer (some A))
    (hc : ∀ w, S w → ∀ j v, (incC y).toList[j]? = some v → w.cell? (A.add j) = some v) : YieldsIf Try.prog ops S o (.agg (incC y)) a :=
  .inl ⟨hw, fun w hSw => run_load_any 73 x ho A hx (incC y).toList _ (hc w hSw) Try.underlying73 rfl (inc_size y)⟩

theorem load_inc_on {rest : List Oper} {o : Oper} {a : Act} {w : World} (y : IncV) (hw : Region.wanted o (yielded ops a.tmps) = true) (x : Operand) (ho : o.op = .load 73 x) (A : Addr) (hx : a.eval x = .pointer (some A))
    (hc : ∀ j v, (incC y).toList[j]? = some v → w.cell? (A.add j) = some v) (h : wpList Try.prog ops Q rest (a.put o.dst (.agg (incC y))) w) : wpList Try.prog ops Q (o :: rest) a w :=
  wpList_load_any hw 73 x ho A hx (incC y).toList _ hc Try.underlying73 rfl (inc_size y) h
end

theorem open_row {H : Type} {enc : TypeId × Value → H} {W : World} {base : Nat} {v : Value} {d : DataW H} {p : List MemPlace} (ok : Value.okWide Try.prog W .any base 24 v) (h : DataW.Trod enc Try.prog W 0 (fun _ => true) true 24 v d p) :
    ∃ ao c xs, v = .slice ao xs.length c ∧ Sl W ao c 3 (incR xs) ∧ ∀ x ∈ xs, IncOk x := open_incs ok h

/-- What is taken of increments that come one behind the other, each as the next one. -/
def takeH (l : List IncV) (i : Nat) : List IncV := (l.take i).foldl (fun xs x => (addH xs (xs.length + 2) x).2) []

theorem takeH_succ {l : List IncV} {i : Nat} (h : i < l.length) : takeH l (i + 1) = (addH (takeH l i) ((takeH l i).length + 2) l[i]).2 := by
  unfold takeH
  rw [List.take_succ_eq_append_getElem h, List.foldl_append]
  rfl

theorem add_next (xs : List IncV) (x : IncV) : (addH xs (xs.length + 2) x = (0, xs ++ [x]) ∧ okA (mapH xs xs.length) x = true) ∨ (addH xs (xs.length + 2) x = (40, xs) ∧ okA (mapH xs xs.length) x = false) := by
  cases h : okA (mapH xs xs.length) x with
  | true => exact .inl ⟨addH_yes rfl h, rfl⟩
  | false => exact .inr ⟨addH_no rfl h, rfl⟩

theorem u32_next {m : Nat} (h : m < 1000) : IntKind.u32.wrap ((m : Int) + 1) = ((m + 1 : Nat) : Int) := by
  simp [IntKind.wrap, IntKind.bits, IntKind.signed]
  omega
end Go.Proofs.Ytlbokkbngbpmiaa
