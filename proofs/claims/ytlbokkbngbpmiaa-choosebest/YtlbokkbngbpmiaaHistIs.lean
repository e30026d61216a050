/- What a history of the landed code is in memory: a block with two maps, epochs and increments by their epochs; New, Last, Map and Inc. -/
import Derived.Test.YtlbokkbngbpmiaaHistSpec
import Derived.Test.YtlbokkbngbpmiaaPackTools
import Derived.Test.YtlbokkbngbpmiaaPackMaps
namespace Go.Proofs.Ytlbokkbngbpmiaa
set_option linter.unusedSimpArgs false
set_option linter.unusedVariables false
set_option maxRecDepth 100000
open Go.RowKit

theorem alloc_size (w : World) (o : Obj) : (w.alloc o).heap.size = w.heap.size + 1 := by simp

def epF (xs : List IncV) (k : Nat) : Value := .agg (mapC (mapH xs k))
def inF (xs : List IncV) (k : Nat) : Value := .agg (incC (xs.getD k ⟨0, 0, 0⟩))

structure IsAt (w : World) (p b c : Nat) (xs : List IncV) : Prop where
  good : Good xs
  has : Has w p 111 #[.map (some b), .map (some c)]
  eps : MapRow w b 1 (xs.length + 1) (epF xs)
  ins : MapRow w c 2 xs.length (inF xs)
  bc : b ≠ c
  pb : p ≠ b
  pc : p ≠ c

def IsH (w : World) (p : Nat) (xs : List IncV) (F : Nat → Prop) : Prop := ∃ b c, IsAt w p b c xs ∧ ∀ k, F k ↔ (k = p ∨ k = b ∨ k = c)

theorem IsAt.kept {w w' : World} {p b c : Nat} {xs : List IncV} (h : IsAt w p b c xs) (hp : w'.heap[p]? = w.heap[p]?) (hb : w'.heap[b]? = w.heap[b]?) (hc : w'.heap[c]? = w.heap[c]?) : IsAt w' p b c xs :=
  ⟨h.good, hp.trans h.has, hb.trans h.eps, hc.trans h.ins, h.bc, h.pb, h.pc⟩

theorem IsAt.later {w w' : World} {p b c : Nat} {xs : List IncV} (h : IsAt w p b c xs) (hb : Below w.heap.size w w') : IsAt w' p b c xs :=
  h.kept (hb.block _ h.has.lt) (hb.block _ h.eps.lt) (hb.block _ h.ins.lt)

theorem IsAt.drew {w : World} {p b c : Nat} {xs : List IncV} (h : IsAt w p b c xs) : IsAt w.drew p b c xs := h.kept rfl rfl rfl

theorem IsAt.drewN {w : World} {p b c : Nat} {xs : List IncV} (h : IsAt w p b c xs) (n : Nat) : IsAt (w.drewN n) p b c xs := h.kept rfl rfl rfl

theorem IsAt.c0 {w : World} {p b c : Nat} {xs : List IncV} (h : IsAt w p b c xs) : w.cell? ⟨p, 0, none⟩ = some (.map (some b)) := (h.has.cell 0).trans rfl
theorem IsAt.c1 {w : World} {p b c : Nat} {xs : List IncV} (h : IsAt w p b c xs) : w.cell? ⟨p, 1, none⟩ = some (.map (some c)) := (h.has.cell 1).trans rfl

theorem isH_lt {w : World} {p : Nat} {xs : List IncV} {F : Nat → Prop} (h : IsH w p xs F) : ∀ b, F b → b < w.heap.size := by
  obtain ⟨b, c, hI, hF⟩ := h
  intro k hk
  rcases (hF k).1 hk with rfl | rfl | rfl
  · exact hI.has.lt
  · exact hI.eps.lt
  · exact hI.ins.lt

theorem isH_kept {w w' : World} {p : Nat} {xs : List IncV} {F : Nat → Prop} (h : IsH w p xs F) (hk : ∀ b, F b → w'.heap[b]? = w.heap[b]?) : IsH w' p xs F := by
  obtain ⟨b, c, hI, hF⟩ := h
  exact ⟨b, c, hI.kept (hk p ((hF p).2 (.inl rfl))) (hk b ((hF b).2 (.inr (.inl rfl)))) (hk c ((hF c).2 (.inr (.inr rfl)))), hF⟩

theorem under_mm : Try.prog.underlying 108 = some (.map 25 106) := Try.underlying108
theorem under_mi : Try.prog.underlying 109 = some (.map 25 73) := Try.underlying109
theorem zero_map (w : World) : (zeroValue 106).run Try.prog w = .ok (.agg (mapC zeroM)) w := by
  have h := map_zero
  cases hq : Try.prog.info? 106 with
  | none => simp [hq] at h
  | some i =>
    have h' : i.zero = some (.agg (mapC zeroM)) := by simpa [hq] using h
    simp [zeroValue, typeInfo, Sem.run_bind, hq, h', Result.andThen]
theorem zero_inc (w : World) : (zeroValue 73).run Try.prog w = .ok (.agg (incC ⟨0, 0, 0⟩)) w := by
  have h := inc_zero
  cases hq : Try.prog.info? 73 with
  | none => simp [hq] at h
  | some i =>
    have h' : i.zero = some (.agg (incC ⟨0, 0, 0⟩)) := by simpa [hq] using h
    simp [zeroValue, typeInfo, Sem.run_bind, hq, h', Result.andThen]

theorem look_ep {xs : List IncV} (e : Nat) : lookN 1 (xs.length + 1) (epF xs) (.agg (mapC zeroM)) e = .agg (mapC (mapE xs e).1) := by
  unfold lookN mapE epF
  by_cases h : 1 ≤ e ∧ e ≤ xs.length + 1
  · rw [if_pos h, if_pos (by omega)]
  · rw [if_neg h, if_neg (by omega)]
theorem look_ep_ok {xs : List IncV} (e : Nat) : decide (1 ≤ e ∧ e < 1 + (xs.length + 1)) = (mapE xs e).2 := by
  unfold mapE
  by_cases h : 1 ≤ e ∧ e ≤ xs.length + 1
  · rw [if_pos h]; exact decide_eq_true (by omega)
  · rw [if_neg h]; exact decide_eq_false (by omega)
theorem look_in {xs : List IncV} (e : Nat) : lookN 2 xs.length (inF xs) (.agg (incC ⟨0, 0, 0⟩)) e = .agg (incC (incE xs e).1) := by
  unfold lookN incE inF
  by_cases h : 2 ≤ e ∧ e ≤ xs.length + 1
  · rw [dif_pos h, if_pos (by omega)]
    have h2 : e - 2 < xs.length := by omega
    simp [List.getD, h2]
  · rw [dif_neg h, if_neg (by omega)]
theorem look_in_ok {xs : List IncV} (e : Nat) : decide (2 ≤ e ∧ e < 2 + xs.length) = (incE xs e).2 := by
  unfold incE
  by_cases h : 2 ≤ e ∧ e ≤ xs.length + 1
  · rw [dif_pos h]; exact decide_eq_true (by omega)
  · rw [dif_neg h]; exact decide_eq_false (by omega)

set_option maxHeartbeats 1000000 in
theorem last_at (p b c : Nat) (xs : List IncV) (w : World) (h : IsAt w p b c xs) : Calls Try.prog 28 #[ptr p] w fun en w' => en = .returned (.int .u32 (xs.length + 1 : Nat)) ∧ w' = w := by
  have c0 := h.c0
  have hl := lenH h.good
  have hlI : ((xs.length + 1 : Nat) : Int) ≤ 60 := by omega
  have hlen := fun ty => run_len_map (P := Try.prog) h.eps 108 _ _ under_mm ty
  have hpt : ptr p = .pointer (some ⟨p, 0, none⟩) := rfl
  rw [hpt]
  generalize hm : xs.length + 1 = m at *
  clear h hm hl
  go_enter Try.func28, Try.ntmps28
  go_wp2
  go_ret
  exact ⟨rfl, rfl⟩

theorem ret_inc_tmp (y : IncV) {a : Act} {w : World} {fn : Func} {R : Ending → World → Prop} {p u : Tmp} (h : fn.results = #[.cell p 73, .tmp u]) (g : Nat) (hp : a.tmps.getD p undef = .pointer (some ⟨g, 0, none⟩))
    (hg : Has w g 73 (incC y)) (hdf : a.defers = []) (hR : R (.returned (.tuple #[.agg (incC y), a.tmps.getD u undef])) w) : bodyPost Try.prog fn R .ret a w :=
  ret_has_tmp h g hp 73 (incC y) _ Try.underlying73 rfl (inc_size y) hg hdf hR

end Go.Proofs.Ytlbokkbngbpmiaa
