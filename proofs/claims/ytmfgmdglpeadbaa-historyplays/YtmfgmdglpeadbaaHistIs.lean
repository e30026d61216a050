/- What a history of the landed code is in memory: a block with two maps, epochs and increments by their epochs; New, Last, Map and Inc. -/
import Derived.Test.YtmfgmdglpeadbaaHistSpec
import Derived.Test.YtmfgmdglpeadbaaPackTools
import Derived.Test.YtmfgmdglpeadbaaPackMaps
namespace Go.Proofs.Ytmfgmdglpeadbaa
set_option linter.unusedSimpArgs false
set_option linter.unusedVariables false
set_option maxRecDepth 100000
open Go.RowKit

theorem alloc_size (w : World) (o : Obj) : (w.alloc o).heap.size = w.heap.size + 1 := by simp

def epF (xs : List IncV) (k : Nat) : Value := .agg (mapC (mapH xs k))
def inF (xs : List IncV) (k : Nat) : Value := .agg (incC (xs.getD k ⟨0, 0, 0⟩))

structure IsAt (w : World) (p b c : Nat) (xs : List IncV) : Prop where
  good : Good xs
  has : Has w p 72 #[.map (some b), .map (some c)]
  eps : MapRow w b 1 (xs.length + 1) (epF xs)
  ins : MapRow w c 2 xs.length (inF xs)
  bc : b ≠ c
  pb : p ≠ b
  pc : p ≠ c

def IsH (w : World) (p : Nat) (xs : List IncV) (F : Nat → Prop) : Prop := ∃ b c, IsAt w p b c xs ∧ ∀ k, F k ↔ (k = p ∨ k = b ∨ k = c)

theorem IsAt.kept {w w' : World} {p b c : Nat} {xs : List IncV} (h : IsAt w p b c xs) (hp : w'.heap[p]? = w.heap[p]?) (hb : w'.heap[b]? = w.heap[b]?) (hc : w'.heap[c]? = w.heap[c]?) : IsAt w' p b c xs :=
  ⟨h.good, hp.trans h.has, hb.trans h.eps, hc.trans h.ins, h.bc, h.pb, h.pc⟩

theorem IsAt.later {w w' : World} {p b c : Nat} {xs : List IncV} (h : IsAt w p b c xs) (hb : Below w.heap.size w w') : IsAt w' p b c xs :=
  h.kept (hb.block _ h.has.lt) (hb.block _ h.eps.lt) (hb.block _ h.ins.lt)

theorem IsAt.drew {w : World} {p b c : Nat} {xs : List IncV} (h : IsAt w p b c xs) : IsAt w.drew p b c xs := h.kept rfl rfl rfl

theorem IsAt.drewN {w : World} {p b c : Nat} {xs : List IncV} (h : IsAt w p b c xs) (n : Nat) : IsAt (w.drewN n) p b c xs := h.kept rfl rfl rfl

theorem IsAt.c0 {w : World} {p b c : Nat} {xs : List IncV} (h : IsAt w p b c xs) : w.cell? ⟨p, 0, none⟩ = some (.map (some b)) := (h.has.cell 0).trans rfl
theorem IsAt.c1 {w : World} {p b c : Nat} {xs : List IncV} (h : IsAt w p b c xs) : w.cell? ⟨p, 1, none⟩ = some (.map (some c)) := (h.has.cell 1).trans rfl

theorem isH_lt {w : World} {p : Nat} {xs : List IncV} {F : Nat → Prop} (h : IsH w p xs F) : ∀ b, F b → b < w.heap.size := by
  obtain ⟨b, c, hI, hF⟩ := h
  intro k hk
  rcases (hF k).1 hk with rfl | rfl | rfl
  · exact hI.has.lt
  · exact hI.eps.lt
  · exact hI.ins.lt

theorem isH_kept {w w' : World} {p : Nat} {xs : List IncV} {F : Nat → Prop} (h : IsH w p xs F) (hk : ∀ b, F b → w'.heap[b]? = w.heap[b]?) : IsH w' p xs F := by
  obtain ⟨b, c, hI, hF⟩ := h
  exact ⟨b, c, hI.kept (hk p ((hF p).2 (.inl rfl))) (hk b ((hF b).2 (.inr (.inl rfl)))) (hk c ((hF c).2 (.inr (.inr rfl)))), hF⟩

theorem under_mm : Try.prog.underlying 69 = some (.map 23 44) := Try.underlying69
theorem under_mi : Try.prog.underlying 70 = some (.map 23 32) := Try.underlying70
theorem zero_map (w : World) : (zeroValue 44).run Try.prog w = .ok (.agg (mapC zeroM)) w := by
  have h := map_zero
  cases hq : Try.prog.info? 44 with
  | none => simp [hq] at h
  | some i =>
    have h' : i.zero = some (.agg (mapC zeroM)) := by simpa [hq] using h
    simp [zeroValue, typeInfo, Sem.run_bind, hq, h', Result.andThen]
theorem zero_inc (w : World) : (zeroValue 32).run Try.prog w = .ok (.agg (incC ⟨0, 0, 0⟩)) w := by
  have h := inc_zero
  cases hq : Try.prog.info? 32 with
  | none => simp [hq] at h
  | some i =>
    have h' : i.zero = some (.agg (incC ⟨0, 0, 0⟩)) := by simpa [hq] using h
    simp [zeroValue, typeInfo, Sem.run_bind, hq, h', Result.andThen]

theorem look_ep {xs : List IncV} (e : Nat) : lookN 1 (xs.length + 1) (epF xs) (.agg (mapC zeroM)) e = .agg (mapC (mapE xs e).1) := by
  unfold lookN mapE epF
  by_cases h : 1 ≤ e ∧ e ≤ xs.length + 1
  · rw [if_pos h, if_pos (by omega)]
  · rw [if_neg h, if_neg (by omega)]
theorem look_ep_ok {xs : List IncV} (e : Nat) : decide (1 ≤ e ∧ e < 1 + (xs.length + 1)) = (mapE xs e).2 := by
  unfold mapE
  by_cases h : 1 ≤ e ∧ e ≤ xs.length + 1
  · rw [if_pos h]; exact decide_eq_true (by omega)
  · rw [if_neg h]; exact decide_eq_false (by omega)
theorem look_in {xs : List IncV} (e : Nat) : lookN 2 xs.length (inF xs) (.agg (incC ⟨0, 0, 0⟩)) e = .agg (incC (incE xs e).1) := by
  unfold lookN incE inF
  by_cases h : 2 ≤ e ∧ e ≤ xs.length + 1
  · rw [dif_pos h, if_pos (by omega)]
    have h2 : e - 2 < xs.length := by omega
    simp [List.getD, h2]
  · rw [dif_neg h, if_neg (by omega)]
theorem look_in_ok {xs : List IncV} (e : Nat) : decide (2 ≤ e ∧ e < 2 + xs.length) = (incE xs e).2 := by
  unfold incE
  by_cases h : 2 ≤ e ∧ e ≤ xs.length + 1
  · rw [dif_pos h]; exact decide_eq_true (by omega)
  · rw [dif_neg h]; exact decide_eq_false (by omega)

set_option maxHeartbeats 1000000 in
theorem last_at (p b c : Nat) (xs : List IncV) (w : World) (h : IsAt w p b c xs) : Calls Try.prog 19 #[ptr p] w fun en w' => en = .returned (.int .u32 (xs.length + 1 : Nat)) ∧ w' = w := by
  have c0 := h.c0
  have hl := lenH h.good
  have hlI : ((xs.length + 1 : Nat) : Int) ≤ 60 := by omega
  have hlen := fun ty => run_len_map (P := Try.prog) h.eps 69 _ _ under_mm ty
  have hpt : ptr p = .pointer (some ⟨p, 0, none⟩) := rfl
  rw [hpt]
  generalize hm : xs.length + 1 = m at *
  clear h hm hl
  go_enter Try.func19, Try.ntmps19
  go_wp2
  go_ret
  exact ⟨rfl, rfl⟩

theorem ret_inc_tmp (y : IncV) {a : Act} {w : World} {fn : Func} {R : Ending → World → Prop} {p u : Tmp} (h : fn.results = #[.cell p 32, .tmp u]) (g : Nat) (hp : a.tmps.getD p undef = .pointer (some ⟨g, 0, none⟩))
    (hg : Has w g 32 (incC y)) (hdf : a.defers = []) (hR : R (.returned (.tuple #[.agg (incC y), a.tmps.getD u undef])) w) : bodyPost Try.prog fn R .ret a w :=
  ret_has_tmp h g hp 32 (incC y) _ Try.underlying32 rfl (inc_size y) hg hdf hR

set_option maxHeartbeats 1000000 in
theorem map_at (p b c : Nat) (xs : List IncV) (e : Nat) (w : World) (h : IsAt w p b c xs) (he : e < 4294967296) : Calls Try.prog 15 #[ptr p, .int .u32 e] w fun en w' => en = .returned (.tuple #[.agg (mapC (mapE xs e).1), .bool (mapE xs e).2]) ∧ Below w.heap.size w w' := by
  have hpt : ptr p = .pointer (some ⟨p, 0, none⟩) := rfl
  rw [hpt]
  have hb0 := (Below.refl w.heap.size w).alloc (Nat.le_refl _) (.cells (mapC zeroM) 44)
  replace h := h.later hb0
  have cc := h.c0
  have hrow := h.eps
  have hl1 := look_ep (xs := xs) e
  have hl2 := look_ep_ok (xs := xs) e
  generalize (mapE xs e).1 = m at *
  generalize (mapE xs e).2 = y at *
  generalize epF xs = fx at *
  generalize xs.length + 1 = n at *
  clear h hpt
  have hM : Has (((w.alloc (.cells (mapC zeroM) 44)).alloc (.cells (mapC zeroM) 44)).setRow (w.heap.size + 1) (mapC m)) (w.heap.size + 1) 44 (mapC m) := by
    have := (Has.new (w.alloc (.cells (mapC zeroM) 44)) 44 (mapC zeroM)).row (mapC m)
    simpa using this
  have hR : Has (((w.alloc (.cells (mapC zeroM) 44)).alloc (.cells (mapC zeroM) 44)).setRow (w.heap.size + 1) (mapC m)) w.heap.size 44 (mapC zeroM) := ((Has.new w 44 (mapC zeroM)).alloc _).row_other (by omega) _
  have hb : Below w.heap.size w (((w.alloc (.cells (mapC zeroM) 44)).alloc (.cells (mapC zeroM) 44)).setRow (w.heap.size + 1) (mapC m)) := below_setRow (hb0.alloc (by simp) _) (by omega) _
  go_enter Try.func15, Try.ntmps15
  go_wp2_with (first
    | (refine alloc_map (by rfl) rfl ?_)
    | (refine wpList_look_ok (by rfl) 69 _ _ rfl rfl e rfl hrow _ _ under_mm Try.underlying23 _ zero_map _ _ hl1 hl2 ?_)
    | (refine store_map m zeroM (by rfl) _ _ rfl _ rfl rfl ?hg ?_; (case hg => exact Has.new _ _ _); rw [alloc_size]; generalize ((w.alloc (.cells (mapC zeroM) 44)).alloc (.cells (mapC zeroM) 44)).setRow (w.heap.size + 1) (mapC m) = w2 at *)
    | (refine load_map m (by rfl) _ rfl (w.heap.size + 1) rfl ?hg ?_; (case hg => exact hM))
    | (refine store_map m zeroM (by rfl) _ _ rfl w.heap.size rfl rfl ?hg ?_; (case hg => exact hR)))
  exact ret_map_tmp m rfl _ rfl (hR.row _) rfl ⟨rfl, below_setRow hb (Nat.le_refl _) _⟩

set_option maxHeartbeats 1000000 in
theorem inc_at (p b c : Nat) (xs : List IncV) (e : Nat) (w : World) (h : IsAt w p b c xs) (he : e < 4294967296) : Calls Try.prog 16 #[ptr p, .int .u32 e] w fun en w' => en = .returned (.tuple #[.agg (incC (incE xs e).1), .bool (incE xs e).2]) ∧ Below w.heap.size w w' := by
  have hpt : ptr p = .pointer (some ⟨p, 0, none⟩) := rfl
  rw [hpt]
  have hb0 := (Below.refl w.heap.size w).alloc (Nat.le_refl _) (.cells (incC ⟨0, 0, 0⟩) 32)
  replace h := h.later hb0
  have cc := h.c1
  have hrow := h.ins
  have hl1 := look_in (xs := xs) e
  have hl2 := look_in_ok (xs := xs) e
  generalize (incE xs e).1 = m at *
  generalize (incE xs e).2 = y at *
  generalize inF xs = fx at *
  generalize xs.length = n at *
  clear h hpt
  have hM : Has (((w.alloc (.cells (incC ⟨0, 0, 0⟩) 32)).alloc (.cells (incC ⟨0, 0, 0⟩) 32)).setRow (w.heap.size + 1) (incC m)) (w.heap.size + 1) 32 (incC m) := by
    have := (Has.new (w.alloc (.cells (incC ⟨0, 0, 0⟩) 32)) 32 (incC ⟨0, 0, 0⟩)).row (incC m)
    simpa using this
  have hR : Has (((w.alloc (.cells (incC ⟨0, 0, 0⟩) 32)).alloc (.cells (incC ⟨0, 0, 0⟩) 32)).setRow (w.heap.size + 1) (incC m)) w.heap.size 32 (incC ⟨0, 0, 0⟩) := ((Has.new w 32 (incC ⟨0, 0, 0⟩)).alloc _).row_other (by omega) _
  have hb : Below w.heap.size w (((w.alloc (.cells (incC ⟨0, 0, 0⟩) 32)).alloc (.cells (incC ⟨0, 0, 0⟩) 32)).setRow (w.heap.size + 1) (incC m)) := below_setRow (hb0.alloc (by simp) _) (by omega) _
  go_enter Try.func16, Try.ntmps16
  go_wp2_with (first
    | (refine alloc_inc (by rfl) rfl ?_)
    | (refine wpList_look_ok (by rfl) 70 _ _ rfl rfl e rfl hrow _ _ under_mi Try.underlying23 _ zero_inc _ _ hl1 hl2 ?_)
    | (refine store_inc m ⟨0, 0, 0⟩ (by rfl) _ _ rfl _ rfl rfl ?hg ?_; (case hg => exact Has.new _ _ _); rw [alloc_size]; generalize ((w.alloc (.cells (incC ⟨0, 0, 0⟩) 32)).alloc (.cells (incC ⟨0, 0, 0⟩) 32)).setRow (w.heap.size + 1) (incC m) = w2 at *)
    | (refine load_inc m (by rfl) _ rfl (w.heap.size + 1) rfl ?hg ?_; (case hg => exact hM))
    | (refine store_inc m ⟨0, 0, 0⟩ (by rfl) _ _ rfl w.heap.size rfl rfl ?hg ?_; (case hg => exact hR)))
  exact ret_inc_tmp m rfl _ rfl (hR.row _) rfl ⟨rfl, below_setRow hb (Nat.le_refl _) _⟩

end Go.Proofs.Ytmfgmdglpeadbaa
