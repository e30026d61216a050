/- Differences in variables: their cells, what is built. -/
import Derived.Test.YtecilienolabfaaGreatDoorMergeMath
import Derived.Test.YtecilienolabfaaGreatDoorPackLog
namespace Go.Proofs.YtecilienolabfaaGreatDoor
set_option linter.unusedSimpArgs false
set_option linter.unusedVariables false
set_option maxRecDepth 100000
open Go.RowKit

section
variable (d : DiffV) (lo wo : Option Addr) (lc wc : Nat)
theorem diff_size : (Tryz.prog.info? 46).map (·.size) = some (diffC d lo lc wo wc).size := by show _ = some 52; kernel_rfl
theorem diff_same (d e : DiffV) (lo wo mo xo : Option Addr) (lc wc mc xc : Nat) : (diffC d lo lc wo wc).size = (diffC e mo mc xo xc).size := rfl
theorem diff_zero : (Tryz.prog.info? 46).map (·.zero) = some (some (.agg (diffC diff0 none 0 none 0))) := by kernel_rfl
theorem diff_built0 : Tryz.prog.built 46 [] = some (diffC diff0 none 0 none 0) := by kernel_rfl
theorem diff_built1 (k : Int) : Tryz.prog.built 46 [(0, .int .i64 k)] = some (diffC ⟨k, 0, [], st0⟩ none 0 none 0) := by kernel_rfl
theorem diff_built_kf (k : Int) (n : Nat) : Tryz.prog.built 46 [(0, .int .i64 k), (1, .int .u32 (n : Int))] = some (diffC ⟨k, n, [], st0⟩ none 0 none 0) := by kernel_rfl
theorem diff_built_kw (k : Int) (s : StV) : Tryz.prog.built 46 [(0, .int .i64 k), (3, .agg (stC s wo wc))] = some (diffC ⟨k, 0, [], s⟩ none 0 wo wc) := by kernel_rfl
theorem diff_built_kfw (k : Int) (n : Nat) (s : StV) : Tryz.prog.built 46 [(0, .int .i64 k), (1, .int .u32 (n : Int)), (3, .agg (stC s wo wc))] = some (diffC ⟨k, n, [], s⟩ none 0 wo wc) := by kernel_rfl
theorem diff_built4 (k : Int) (n : Nat) (l : List EntV) (s : StV) : Tryz.prog.built 46 [(0, .int .i64 k), (1, .int .u32 (n : Int)), (2, .slice lo l.length lc), (3, .agg (stC s wo wc))] = some (diffC ⟨k, n, l, s⟩ lo lc wo wc) := by kernel_rfl
theorem st_built_ends (n : Nat) (t : EntV) : Tryz.prog.built 44 [(0, .int .u32 (n : Int)), (2, .agg (entC t))] = some (stC ⟨n, base0, t, []⟩ none 0) := by kernel_rfl
theorem st_built_tail (t : EntV) : Tryz.prog.built 44 [(2, .agg (entC t))] = some (stC ⟨0, base0, t, []⟩ none 0) := by kernel_rfl
theorem st_built_started (n : Nat) : Tryz.prog.built 44 [(0, .int .u32 (n : Int))] = some (stC ⟨n, base0, ent0, []⟩ none 0) := by kernel_rfl
theorem ent_built_n (n : Nat) : Tryz.prog.built 41 [(1, .int .u32 (n : Int))] = some (entC ⟨0, n, op0⟩) := by kernel_rfl
theorem st_start (s : StV) (ao : Option Addr) (c n : Nat) : (stC s ao c).setIfInBounds 0 (.int .u32 (n : Int)) = stC (startAt s n) ao c := by kernel_rfl
end
theorem stL_one (s : StV) (ao : Option Addr) (c : Nat) : ∀ u ∈ stL s ao c, u.oneCell' = true := by
  intro u hu
  have h := st_one s ao c
  unfold stC at h
  simp only [List.all_toArray, List.all_eq_true] at h
  exact h u hu
theorem diff_one (d : DiffV) (lo wo : Option Addr) (lc wc : Nat) : (diffC d lo lc wo wc).all (·.oneCell') = true := by
  refine all_oneCell_toArray ?_
  intro u hu
  unfold diffL at hu
  rcases List.mem_cons.1 hu with rfl | hu
  · rfl
  · rcases List.mem_cons.1 hu with rfl | hu
    · rfl
    · rcases List.mem_cons.1 hu with rfl | hu
      · rfl
      · exact stL_one _ _ _ u hu

section
variable {w : World} {g : Nat} {d : DiffV} {lo wo : Option Addr} {lc wc : Nat}
theorem Has.setStart {s : StV} {ao : Option Addr} {c : Nat} (h : Has w g 44 (stC s ao c)) (n : Nat) : Has (w.setCell ⟨g, 0, none⟩ (.int .u32 (n : Int))) g 44 (stC (startAt s n) ao c) := by
  have := h.set 0 (.int .u32 (n : Int))
  rw [st_start] at this
  exact this
theorem Has.d_kind (h : Has w g 46 (diffC d lo lc wo wc)) : w.cell? ⟨g, 0, none⟩ = some (.int .i64 d.kind) := (h.cell 0).trans rfl
theorem Has.d_from (h : Has w g 46 (diffC d lo lc wo wc)) : w.cell? ⟨g, 1, none⟩ = some (.int .u32 (d.fr : Int)) := (h.cell 1).trans rfl
theorem Has.d_log (h : Has w g 46 (diffC d lo lc wo wc)) : w.cell? ⟨g, 2, none⟩ = some (.slice lo d.log.length lc) := (h.cell 2).trans rfl
theorem Has.d_whole (h : Has w g 46 (diffC d lo lc wo wc)) : w.rangeAt g 3 (stL d.whole wo wc) := h.range _ _ fun j v hj => by
  unfold diffC diffL
  rw [List.getElem?_toArray, show 3 + j = j + 1 + 1 + 1 by omega, List.getElem?_cons_succ, List.getElem?_cons_succ, List.getElem?_cons_succ]
  exact hj
theorem Has.d_cell (h : Has w g 46 (diffC d lo lc wo wc)) (j : Nat) (v : Value) (hj : (stC d.whole wo wc)[j]? = some v) : w.cell? ⟨g, 3 + j, none⟩ = some v := by
  refine h.d_whole j v ?_
  unfold stC at hj
  rw [List.getElem?_toArray] at hj
  exact hj
theorem Has.d_wlog (h : Has w g 46 (diffC d lo lc wo wc)) : w.cell? ⟨g, 51, none⟩ = some (.slice wo d.whole.log.length wc) := h.d_cell 48 _ (by
  unfold stC stL
  rw [List.getElem?_toArray, List.getElem?_cons_succ, List.getElem?_append_right (by rw [baseL_len]; omega), baseL_len, List.getElem?_append_right (by rw [entL_len]; omega), entL_len]
  rfl)
theorem Has.d_objs (h : Has w g 46 (diffC d lo lc wo wc)) : w.rangeAt g 4 (objsL d.whole.base.obj) := fun j v hj => by
  have hl : j < 30 := (List.getElem?_eq_some_iff.1 hj).1
  have : w.cell? ⟨g, 3 + (j + 1), none⟩ = some v := h.d_cell (j + 1) v (by
    unfold stC stL
    rw [List.getElem?_toArray, List.getElem?_cons_succ, List.getElem?_append_left (show j < (baseL d.whole.base).length from Nat.lt_of_lt_of_le hl (by rw [baseL_len]; omega))]
    unfold baseL
    rw [List.getElem?_append_left (show j < (objsL d.whole.base.obj).length from hl)]
    exact hj)
  rw [show 3 + (j + 1) = 4 + j by omega] at this
  exact this
end

structure DiffOk (d : DiffV) : Prop where
  kind1 : -9223372036854775808 ≤ d.kind
  kind2 : d.kind ≤ 9223372036854775807
  fr : d.fr < 4294967296
  log : ∀ e ∈ d.log, EntOk e
  len : d.log.length ≤ 1000
  whole : StOk d.whole

theorem st0_fit : StOk st0 := ⟨by show 0 < _; decide, base0_ok.in', ⟨by show 0 < _; decide, by show 0 < _; decide, op0_ok⟩, (fun e he => by cases he), by show 0 ≤ _; decide⟩
theorem ends_fit {s : StV} (hs : StOk s) : StOk (endsM s) := ⟨hs.started, base0_ok.in', hs.tail, (fun e he => by cases he), by show 0 ≤ _; decide⟩
theorem diff0_fit : DiffOk diff0 := ⟨by show (_ : Int) ≤ 0; decide, by show (0 : Int) ≤ _; decide, by show 0 < _; decide, (fun e he => by cases he), by show 0 ≤ _; decide, st0_fit⟩
end Go.Proofs.YtecilienolabfaaGreatDoor
