/- What adding to a state comes to: a state, its head, its last entry found. -/
import Derived.Test.YtkkjdihmjcaibabLogOps
namespace Go.Proofs.Ytkkjdihmjcaibab
set_option linter.unusedSimpArgs false
set_option linter.unusedVariables false
open Go.RowKit

theorem st0_ok : StOk st0 := ⟨by show 0 < _; decide, base0_ok.in', ⟨by show 0 < _; decide, by show 0 < _; decide, op0_ok⟩, (fun e he => by cases he), by show 0 ≤ _; decide⟩
theorem add_ok {s : StV} {e : EntV} (hs : StOk s) (he : EntOk e) : StOk (addM s e).1 := by
  cases hc : canM s e with
  | false => rw [add_no hc]; exact st0_ok
  | true =>
    rw [add_yes hc]
    have hi := (can_is.1 hc).1
    have hB := hs.isBase hi
    have hl : ∀ x ∈ s.log ++ [e], EntOk x := fun x hx => by
      rcases List.mem_append.1 hx with hx | hx
      · exact hs.log x hx
      · rw [List.mem_singleton.1 hx]; exact he
    have h6 := ((is_is s).1 hi).2.2.2.1
    refine ⟨hs.started, (done_in hB _ (fun x hx => hl x (List.mem_of_mem_take hx))).in', lastE_ok hs.tail (fun x hx => hl x (List.mem_of_mem_take hx)), fun x hx => hl x (List.mem_of_mem_drop hx), ?_⟩
    show ((s.log ++ [e]).drop _).length ≤ 1000
    rw [List.length_drop, List.length_append, List.length_singleton]
    omega
theorem add_headM {s : StV} {e : EntV} (h : canM s e = true) : headM (addM s e).1 = (e.since, e.n) := by
  rw [head_yes (add_is h), add_head h]
  rfl
theorem add_find {s : StV} {e : EntV} (h : canM s e = true) : findM (addM s e).1 e.n = (e, true) := by
  have hi := add_is h
  have hh := add_head h
  have hn := chain_n _ _ ((is_is _).1 hi).2.2.2.2
  have hlog : ∃ l, (addM s e).1.log = l ++ [e] := by
    rw [add_yes h]
    have h6 := ((is_is s).1 (can_is.1 h).1).2.2.2.1
    refine ⟨s.log.drop (s.log.length + 1 - 6), ?_⟩
    show (s.log ++ [e]).drop _ = _
    exact List.drop_append_of_le_length (by omega)
  generalize (addM s e).1 = T at *
  obtain ⟨l, hl⟩ := hlog
  rw [← head_n T, hh] at hn
  have hn : e.n = T.tail.n + T.log.length := hn
  rw [hl, List.length_append, List.length_singleton] at hn
  have hr : reachM T e.n = (l.length + 1, 0) := by
    rw [reach_in hi (by omega) (by rw [hh]; show ¬ e.n < e.n; omega)]
    rw [show e.n - T.tail.n = l.length + 1 by omega]
  rw [find_yes (k := l.length) (by rw [hr]) (by rw [hr]) (by rw [hl, List.length_append, List.length_singleton]; omega)]
  have : T.log[l.length]'(by rw [hl, List.length_append, List.length_singleton]; omega) = e := by
    simp [hl]
  rw [this]
theorem can_row {q : Nat} {D : List OpV} {k : Nat} {e : EntV} (hi : isM (sK q D k) = true) (hk : k ≤ D.length) : canM (sK q D k) e = followsM (posQ q D.length) e := by
  unfold canM
  rw [hi, sK_head hk]
  rfl
theorem fold_st0 : foldM st0 = base0 := by rw [fold_yes is_st0]; rfl
end Go.Proofs.Ytkkjdihmjcaibab
