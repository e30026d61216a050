/- Differences in variables: their cells, what is built; that what is cut, added, folded, made, is well formed. -/
import Derived.Test.YtphlfepgaghhhaaMergeMath
import Derived.Test.YtphlfepgaghhhaaLogAdd
namespace Go.Proofs.Ytphlfepgaghhhaa
set_option linter.unusedSimpArgs false
set_option linter.unusedVariables false
set_option maxRecDepth 100000
open Go.RowKit

section
variable (d : DiffV) (lo wo : Option Addr) (lc wc : Nat)
theorem diff_size : (Try.prog.info? 61).map (·.size) = some (diffC d lo lc wo wc).size := by show _ = some 52; kernel_rfl
theorem diff_same (d e : DiffV) (lo wo mo xo : Option Addr) (lc wc mc xc : Nat) : (diffC d lo lc wo wc).size = (diffC e mo mc xo xc).size := rfl
theorem diff_zero : (Try.prog.info? 61).map (·.zero) = some (some (.agg (diffC diff0 none 0 none 0))) := by kernel_rfl
theorem diff_built0 : Try.prog.built 61 [] = some (diffC diff0 none 0 none 0) := by kernel_rfl
theorem diff_built1 (k : Int) : Try.prog.built 61 [(0, .int .i64 k)] = some (diffC ⟨k, 0, [], st0⟩ none 0 none 0) := by kernel_rfl
theorem diff_built_kf (k : Int) (n : Nat) : Try.prog.built 61 [(0, .int .i64 k), (1, .int .u32 (n : Int))] = some (diffC ⟨k, n, [], st0⟩ none 0 none 0) := by kernel_rfl
theorem diff_built_kw (k : Int) (s : StV) : Try.prog.built 61 [(0, .int .i64 k), (3, .agg (stC s wo wc))] = some (diffC ⟨k, 0, [], s⟩ none 0 wo wc) := by kernel_rfl
theorem diff_built_kfw (k : Int) (n : Nat) (s : StV) : Try.prog.built 61 [(0, .int .i64 k), (1, .int .u32 (n : Int)), (3, .agg (stC s wo wc))] = some (diffC ⟨k, n, [], s⟩ none 0 wo wc) := by kernel_rfl
theorem diff_built4 (k : Int) (n : Nat) (l : List EntV) (s : StV) : Try.prog.built 61 [(0, .int .i64 k), (1, .int .u32 (n : Int)), (2, .slice lo l.length lc), (3, .agg (stC s wo wc))] = some (diffC ⟨k, n, l, s⟩ lo lc wo wc) := by kernel_rfl
theorem st_built_ends (n : Nat) (t : EntV) : Try.prog.built 40 [(0, .int .u32 (n : Int)), (2, .agg (entC t))] = some (stC ⟨n, base0, t, []⟩ none 0) := by kernel_rfl
theorem st_built_tail (t : EntV) : Try.prog.built 40 [(2, .agg (entC t))] = some (stC ⟨0, base0, t, []⟩ none 0) := by kernel_rfl
theorem st_built_started (n : Nat) : Try.prog.built 40 [(0, .int .u32 (n : Int))] = some (stC ⟨n, base0, ent0, []⟩ none 0) := by kernel_rfl
theorem ent_built_n (n : Nat) : Try.prog.built 37 [(1, .int .u32 (n : Int))] = some (entC ⟨0, n, op0⟩) := by kernel_rfl
theorem st_start (s : StV) (ao : Option Addr) (c n : Nat) : (stC s ao c).setIfInBounds 0 (.int .u32 (n : Int)) = stC (startAt s n) ao c := by kernel_rfl
end
theorem stL_one (s : StV) (ao : Option Addr) (c : Nat) : ∀ u ∈ stL s ao c, u.oneCell' = true := by
  intro u hu
  have h := st_one s ao c
  unfold stC at h
  simp only [List.all_toArray, List.all_eq_true] at h
  exact h u hu
theorem diff_one (d : DiffV) (lo wo : Option Addr) (lc wc : Nat) : (diffC d lo lc wo wc).all (·.oneCell') = true := by
  refine all_oneCell_toArray ?_
  intro u hu
  unfold diffL at hu
  rcases List.mem_cons.1 hu with rfl | hu
  · rfl
  · rcases List.mem_cons.1 hu with rfl | hu
    · rfl
    · rcases List.mem_cons.1 hu with rfl | hu
      · rfl
      · exact stL_one _ _ _ u hu

section
variable {w : World} {g : Nat} {d : DiffV} {lo wo : Option Addr} {lc wc : Nat}
theorem Has.setStart {s : StV} {ao : Option Addr} {c : Nat} (h : Has w g 40 (stC s ao c)) (n : Nat) : Has (w.setCell ⟨g, 0, none⟩ (.int .u32 (n : Int))) g 40 (stC (startAt s n) ao c) := by
  have := h.set 0 (.int .u32 (n : Int))
  rw [st_start] at this
  exact this
theorem Has.d_kind (h : Has w g 61 (diffC d lo lc wo wc)) : w.cell? ⟨g, 0, none⟩ = some (.int .i64 d.kind) := (h.cell 0).trans rfl
theorem Has.d_from (h : Has w g 61 (diffC d lo lc wo wc)) : w.cell? ⟨g, 1, none⟩ = some (.int .u32 (d.fr : Int)) := (h.cell 1).trans rfl
theorem Has.d_log (h : Has w g 61 (diffC d lo lc wo wc)) : w.cell? ⟨g, 2, none⟩ = some (.slice lo d.log.length lc) := (h.cell 2).trans rfl
theorem Has.d_whole (h : Has w g 61 (diffC d lo lc wo wc)) : w.rangeAt g 3 (stL d.whole wo wc) := h.range _ _ fun j v hj => by
  unfold diffC diffL
  rw [List.getElem?_toArray, show 3 + j = j + 1 + 1 + 1 by omega, List.getElem?_cons_succ, List.getElem?_cons_succ, List.getElem?_cons_succ]
  exact hj
theorem Has.d_cell (h : Has w g 61 (diffC d lo lc wo wc)) (j : Nat) (v : Value) (hj : (stC d.whole wo wc)[j]? = some v) : w.cell? ⟨g, 3 + j, none⟩ = some v := by
  refine h.d_whole j v ?_
  unfold stC at hj
  rw [List.getElem?_toArray] at hj
  exact hj
theorem Has.d_wlog (h : Has w g 61 (diffC d lo lc wo wc)) : w.cell? ⟨g, 51, none⟩ = some (.slice wo d.whole.log.length wc) := h.d_cell 48 _ (by
  unfold stC stL
  rw [List.getElem?_toArray, List.getElem?_cons_succ, List.getElem?_append_right (by rw [baseL_len]; omega), baseL_len, List.getElem?_append_right (by rw [entL_len]; omega), entL_len]
  rfl)
theorem Has.d_objs (h : Has w g 61 (diffC d lo lc wo wc)) : w.rangeAt g 4 (objsL d.whole.base.obj) := fun j v hj => by
  have hl : j < 30 := (List.getElem?_eq_some_iff.1 hj).1
  have : w.cell? ⟨g, 3 + (j + 1), none⟩ = some v := h.d_cell (j + 1) v (by
    unfold stC stL
    rw [List.getElem?_toArray, List.getElem?_cons_succ, List.getElem?_append_left (show j < (baseL d.whole.base).length from Nat.lt_of_lt_of_le hl (by rw [baseL_len]; omega))]
    unfold baseL
    rw [List.getElem?_append_left (show j < (objsL d.whole.base.obj).length from hl)]
    exact hj)
  rw [show 3 + (j + 1) = 4 + j by omega] at this
  exact this
end

structure DiffOk (d : DiffV) : Prop where
  kind1 : -9223372036854775808 ≤ d.kind
  kind2 : d.kind ≤ 9223372036854775807
  fr : d.fr < 4294967296
  log : ∀ e ∈ d.log, EntOk e
  len : d.log.length ≤ 1000
  whole : StOk d.whole

theorem st0_fit : StOk st0 := ⟨by show 0 < _; decide, base0_ok.in', ⟨by show 0 < _; decide, by show 0 < _; decide, op0_ok⟩, (fun e he => by cases he), by show 0 ≤ _; decide⟩
theorem foldK_ok {s : StV} (hs : StOk s) (hB : BaseOk s.base) (k : Nat) : StOk (foldK s k) :=
  ⟨hs.started, (done_in hB _ (fun x hx => hs.log x (List.mem_of_mem_take hx))).in', lastE_ok hs.tail (fun x hx => hs.log x (List.mem_of_mem_take hx)), fun x hx => hs.log x (List.mem_of_mem_drop hx), by
    show (s.log.drop k).length ≤ 1000
    have := hs.len
    rw [List.length_drop]
    omega⟩
theorem withLog_ok {s : StV} (hs : StOk s) {l : List EntV} (hl : ∀ e ∈ l, EntOk e) (hn : l.length ≤ 1000) : StOk (withLog s l) := ⟨hs.started, hs.base, hs.tail, hl, hn⟩
theorem startAt_ok {s : StV} (hs : StOk s) {n : Nat} (hn : n < 4294967296) : StOk (startAt s n) := ⟨hn, hs.base, hs.tail, hs.log, hs.len⟩
theorem addM_ok {s : StV} {e : EntV} (hs : StOk s) (he : EntOk e) : StOk (addM s e).1 := by
  cases hc : canM s e with
  | false => rw [add_no hc]; exact st0_fit
  | true =>
    rw [add_yes hc]
    have hi := (can_is.1 hc).1
    have h6 := ((is_is s).1 hi).2.2.2.1
    refine foldK_ok (s := withLog s (s.log ++ [e])) (withLog_ok hs (fun x hx => ?_) ?_) (hs.isBase hi) _
    · rcases List.mem_append.1 hx with hx | hx
      · exact hs.log x hx
      · rw [List.mem_singleton.1 hx]; exact he
    · rw [List.length_append, List.length_singleton]; omega
theorem cutM_fit {s : StV} (hs : StOk s) (n : Nat) : StOk (cutM s n).1 := by
  unfold cutM
  split
  · refine withLog_ok hs (fun x hx => hs.log x (List.mem_of_mem_take hx)) ?_
    have := hs.len
    rw [List.length_take]
    omega
  · split <;> exact st0_fit
theorem tailM_fit {s : StV} (hs : StOk s) (n : Nat) : StOk (tailM s n).1 := by
  by_cases h : (reachM s n).2 = 0
  · unfold tailM
    rw [if_pos h]
    exact foldK_ok hs (hs.isBase (reach_ins h).1) _
  · unfold tailM
    rw [if_neg h]
    exact st0_fit
theorem addTo_fit {p : StV × Nat} {e : EntV} (hp : StOk p.1) (he : EntOk e) : StOk (addTo p e).1 := by
  unfold addTo
  split
  · exact addM_ok hp he
  · exact hp
theorem rew_fit {s : StV} (hs : StOk s) (n : Nat) {l : List EntV} (hl : ∀ e ∈ l, EntOk e) : StOk (rewM s n l).1 := by
  induction l using snoc_ind with
  | h0 => exact cutM_fit hs n
  | h1 l e ih =>
    unfold rewM
    rw [List.foldl_append]
    exact addTo_fit (ih (fun x hx => hl x (List.mem_append.2 (.inl hx)))) (hl e (List.mem_append.2 (.inr (List.mem_singleton.2 rfl))))
theorem ended_fit {s : StV} (hs : StOk s) {t : StV} (ht : StOk t) : StOk (endedM s t).1 := startAt_ok (tailM_fit hs _) ht.started
theorem turned_fit {s : StV} {d : DiffV} (hs : StOk s) (hd : DiffOk d) : StOk (turnedM s d).1 := by
  unfold turnedM
  split
  · exact ended_fit hs hd.whole
  · split
    · split
      · exact ended_fit (rew_fit hs _ hd.log) hd.whole
      · exact st0_fit
    · split
      · exact hd.whole
      · exact st0_fit
theorem apply_fit {s : StV} {d : DiffV} (hs : StOk s) (hd : DiffOk d) : StOk (applyM s d).1 := by
  unfold applyM
  split
  · exact turned_fit hs hd
  · exact st0_fit
theorem ends_fit {s : StV} (hs : StOk s) : StOk (endsM s) := ⟨hs.started, base0_ok.in', hs.tail, (fun e he => by cases he), by show 0 ≤ _; decide⟩
theorem diff0_fit : DiffOk diff0 := ⟨by show (_ : Int) ≤ 0; decide, by show (0 : Int) ≤ _; decide, by show 0 < _; decide, (fun e he => by cases he), by show 0 ≤ _; decide, st0_fit⟩
theorem find_fit {s : StV} (hs : StOk s) (n : Nat) : EntOk (findM s n).1 := by
  unfold findM
  split
  · rw [List.getD_eq_getElem?_getD]
    cases hq : s.log[(reachM s n).1 - 1]? with
    | none => exact ⟨by show 0 < _; decide, by show 0 < _; decide, op0_ok⟩
    | some x => exact hs.log x (List.mem_of_getElem? hq)
  · exact ⟨by show 0 < _; decide, by show 0 < _; decide, op0_ok⟩
theorem upto_fit {s : StV} (hs : StOk s) (n : Nat) : BaseOk (uptoM s n).1 := by
  by_cases h : (reachM s n).2 = 0
  · unfold uptoM
    rw [if_pos h]
    exact done_in (hs.isBase (reach_ins h).1) _ (fun x hx => hs.log x (List.mem_of_mem_take hx))
  · unfold uptoM
    rw [if_neg h]
    exact base0_ok
/-- The last number of a log is a number of 32 bits, if its entries' are. -/
theorem last_lt {s : StV} (hs : StOk s) (hi : isM s = true) : s.tail.n + s.log.length < 4294967296 := by
  have h := head_num hi
  have := (lastE_ok hs.tail hs.log).n
  unfold headE at h
  omega
theorem make_fit {a b : StV} (ha : StOk a) (hb : StOk b) : DiffOk (makeM a b) := by
  unfold makeM
  split
  · exact diff0_fit
  · rename_i hn
    have hbi : isM b = true := by cases hq : isM b with
      | true => rfl
      | false => exact absurd (.inr hq) hn
    split
    · exact ⟨by show (_ : Int) ≤ 0; decide, by show (0 : Int) ≤ _; decide, by show 0 < _; decide, (fun e he => by cases he), by show 0 ≤ _; decide, ends_fit hb⟩
    · split
      · have h1 := shared_le a b.log
        have h2 := last_lt hb hbi
        refine ⟨by show (_ : Int) ≤ 1; decide, by show (1 : Int) ≤ _; decide, ?_, fun x hx => hb.log x (List.mem_of_mem_drop hx), ?_, ends_fit hb⟩
        · show b.tail.n + sharedN a b.log < _
          omega
        · show (b.log.drop _).length ≤ _
          have := hb.len
          rw [List.length_drop]
          omega
      · exact ⟨by show (_ : Int) ≤ 2; decide, by show (2 : Int) ≤ _; decide, by show 0 < _; decide, (fun e he => by cases he), by show 0 ≤ _; decide, hb⟩
end Go.Proofs.Ytphlfepgaghhhaa
