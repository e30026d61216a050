/- Candidates in variables and rows: the laws of Mem at this seat's types. -/
import Derived.Test.YtmfgmdglpeadbaaPlaceBest
import Derived.Test.YtmfgmdglpeadbaaMapMem
import Derived.Test.YtmfgmdglpeadbaaPart
import Derived.Test.YtmfgmdglpeadbaaSliceOf
namespace Go.Proofs.Ytmfgmdglpeadbaa
set_option linter.unusedSimpArgs false
set_option linter.unusedVariables false
open Go.RowKit

/-- A daemon that may be picked. -/
structure CandV where
  o : Int
  wt : Int
  host : Nat

def candC (x : CandV) : Array Value := #[.int .i64 x.o, .int .i64 x.wt, .int .u8 x.host]

def candOf (m : MapV) (k : Int) : CandV := ⟨k, wtI m k, hostI m k⟩

def candR (cs : List CandV) : List (List Value) := cs.map fun x => (candC x).toList

theorem cand_size (x : CandV) : (Try.prog.info? 87).map (·.size) = some (candC x).size := by
  show _ = some 3
  kernel_rfl

theorem cand_zero : (Try.prog.info? 87).map (·.zero) = some (some (.agg (candC ⟨0, 0, 0⟩))) := by kernel_rfl
theorem cand_built : Try.prog.built 87 [] = some (candC ⟨0, 0, 0⟩) := by kernel_rfl
theorem cand_one (x : CandV) : (candC x).all (·.oneCell') = true := by
  unfold candC
  simp [Value.oneCell']

theorem Try.infoCand : (Try.prog.info? 87).map (fun i => (i.zero, i.size, i.bytes)) = some (some (.agg (candC ⟨0, 0, 0⟩)), 3, 24) := by kernel_rfl

section laws
variable {ops : Array Oper} {rest : List Oper} {o : Oper} {a : Act} {w : World} {Q : Exit → Act → World → Prop}

theorem load_cand (y : CandV) (hw : Region.wanted o (yielded ops a.tmps) = true) (x : Operand) (ho : o.op = .load 87 x) (g : Nat) (hx : a.eval x = .pointer (some ⟨g, 0, none⟩))
    (hg : Has w g 87 (candC y)) (h : wpList Try.prog ops Q rest (a.put o.dst (.agg (candC y))) w) : wpList Try.prog ops Q (o :: rest) a w :=
  wpList_load_has hw 87 x ho g hx 87 (candC y) _ Try.underlying87 rfl (cand_size y) hg h

theorem load_cand_at (y : CandV) (hw : Region.wanted o (yielded ops a.tmps) = true) (x : Operand) (ho : o.op = .load 87 x) (A : Addr) (hx : a.eval x = .pointer (some A))
    (hc : ∀ j v, (candC y).toList[j]? = some v → w.cell? (A.add j) = some v) (h : wpList Try.prog ops Q rest (a.put o.dst (.agg (candC y))) w) : wpList Try.prog ops Q (o :: rest) a w :=
  wpList_load_any hw 87 x ho A hx (candC y).toList _ hc Try.underlying87 rfl (cand_size y) h

theorem store_cand (y old : CandV) (hw : Region.wanted o (yielded ops a.tmps) = true) (x z : Operand) (ho : o.op = .store 87 x z) (g : Nat) (hx : a.eval x = .pointer (some ⟨g, 0, none⟩)) (hy : a.eval z = .agg (candC y))
    (hg : Has w g 87 (candC old)) (h : wpList Try.prog ops Q rest (a.put o.dst undef) (w.setRow g (candC y))) : wpList Try.prog ops Q (o :: rest) a w :=
  wpList_store_has hw 87 x z ho g hx (candC y) hy 87 (candC old) (cand_size y) rfl (cand_one y) hg h

theorem alloc_cand (hw : Region.wanted o (yielded ops a.tmps) = true) (ho : o.op = .alloc 87)
    (h : wpList Try.prog ops Q rest (a.put o.dst (.pointer (some ⟨w.heap.size, 0, none⟩))) (w.alloc (.cells (candC ⟨0, 0, 0⟩) 87))) : wpList Try.prog ops Q (o :: rest) a w :=
  wpList_alloc_has hw 87 ho (candC ⟨0, 0, 0⟩) cand_zero h

theorem build_cand0 (hw : Region.wanted o (yielded ops a.tmps) = true) (ho : o.op = .build 87 #[])
    (h : wpList Try.prog ops Q rest (a.put o.dst (.agg (candC ⟨0, 0, 0⟩))) w) : wpList Try.prog ops Q (o :: rest) a w :=
  wpList_build_has hw 87 #[] ho (candC ⟨0, 0, 0⟩) (by simpa using cand_built) h

theorem ret_cand_tmp (m : CandV) {fn : Func} {R : Ending → World → Prop} {p u : Tmp} (h : fn.results = #[.cell p 87, .tmp u]) (g : Nat) (hp : a.tmps.getD p undef = .pointer (some ⟨g, 0, none⟩))
    (hg : Has w g 87 (candC m)) (hdf : a.defers = []) (hR : R (.returned (.tuple #[.agg (candC m), a.tmps.getD u undef])) w) : bodyPost Try.prog fn R .ret a w :=
  ret_has_tmp h g hp 87 (candC m) _ Try.underlying87 rfl (cand_size m) hg hdf hR
end laws

theorem candR_len (cs : List CandV) : (candR cs).length = cs.length := by unfold candR; rw [List.length_map]
theorem candR_flat (cs : List CandV) : (candR cs).flatten.length = cs.length * 3 := by
  induction cs with
  | nil => rfl
  | cons c cs ih =>
    show ((candC c).toList ++ (candR cs).flatten).length = _
    rw [List.length_append, ih, List.length_cons]
    show 3 + _ = _
    omega
theorem candR_snoc (cs : List CandV) (c : CandV) : (candR (cs ++ [c])).flatten = (candR cs).flatten ++ (candC c).toList := by
  unfold candR
  rw [List.map_append, List.flatten_append]
  simp

theorem cand_at {w : World} {ad : Addr} {c : Nat} {cs : List CandV} (h : Sl w (some ad) c 3 (candR cs)) (i : Nat) (hi : i < cs.length) :
    ∀ j v, (candC cs[i]).toList[j]? = some v → w.cell? ((ad.add (i * 3)).add j) = some v := by
  intro j v hj
  have hj3 : j < 3 := (List.getElem?_eq_some_iff.1 hj).1
  have h0 := h.at' ad rfl i (by rw [candR_len]; exact hi) j hj3
  unfold candR at h0
  rw [List.getElem_map, hj] at h0
  rw [Go.Deep.add_add]
  exact h0

/-- A row of one's own, as a slice of candidates. -/
theorem cand_own {w : World} {base n : Nat} {v : Value} {cs : List CandV} (h : w.ownsRow base 87 3 v n (candR cs).flatten) : n = cs.length ∧ ∃ ao c, v = .slice ao n c ∧ Sl w ao c 3 (candR cs) := by
  have hl : n = cs.length := by
    have := h.1
    rw [candR_flat] at this
    omega
  refine ⟨hl, ?_⟩
  have hr : ∀ r ∈ candR cs, r.length = 3 := by
    intro r hr
    unfold candR at hr
    obtain ⟨x, _, rfl⟩ := List.mem_map.1 hr
    rfl
  rcases h.2 with ⟨hv, h0⟩ | ⟨g, cap, cur, hv, hg, hc, hle, hm, hcur⟩
  · have : cs = [] := List.eq_nil_of_length_eq_zero (by omega)
    subst this
    exact ⟨none, 0, by rw [hv, h0], Sl.nothing _ _⟩
  · refine ⟨some ⟨g, 0, none⟩, cap, hv, ⟨by rw [candR_len]; omega, Nat.le_trans hm (by unfold maxLen; omega), (fun h => by cases h), hr, fun ad had i hi j hj => ?_⟩⟩
    obtain rfl := Option.some.inj had
    have hf := flatten_at (candR cs) hr i hi j hj
    have hl3 := hr _ (List.getElem_mem hi)
    rw [List.getElem?_eq_getElem (show j < ((candR cs)[i]).length by omega)] at hf ⊢
    exact h.cells (g := g) (by rw [hv]; rfl) _ _ hf

theorem one_row (w : World) (t : TypeId) (c : Array Value) : ∀ j u, c.toList[j]? = some u → (w.alloc (.cells c t)).cell? ((⟨w.heap.size, 0, none⟩ : Addr).add j) = some u := by
  intro j u hj
  have h := (Has.new w t c).cell j
  rw [Addr.add_mid, Nat.zero_add, h]
  simpa using hj

theorem cand_cells1 (x : CandV) : ∀ u ∈ (candC x).toList, u.oneCell' = true := by
  intro u hu
  simp [candC] at hu
  rcases hu with rfl | rfl | rfl <;> rfl
end Go.Proofs.Ytmfgmdglpeadbaa
