/- Who is behind by a few entries: what is made, what comes of it, once and twice. -/
import Derived.Test.YtphlfepgaghhhabRewFacts
namespace Go.Proofs.Ytphlfepgaghhhab
set_option linter.unusedSimpArgs false
set_option linter.unusedVariables false
open Go.RowKit

theorem Sl.row_if {w : World} {ao : Option Addr} {c sz : Nat} {rows : List (List Value)} (h : Sl w ao c sz rows) {k : Nat} (hk : ∀ d, ao = some d → 0 < rows.length → d.block ≠ k) (c' : Array Value) : Sl (w.setRow k c') ao c sz rows := by
  refine ⟨h.le, h.cap, h.nil, h.each, fun ad had i hi j hj => ?_⟩
  have hc := h.at' ad had i hi j hj
  rw [← hc]
  have hb : (ad.add (i * sz + j)).block = ad.block := by simp [Addr.add]; split <;> rfl
  have hne : (ad.add (i * sz + j)).block ≠ k := by rw [hb]; exact hk ad had (by omega)
  unfold World.cell?
  rw [setRow_other w k _ c' hne]

/-- A list that goes on from another one. -/
theorem part_more {E F : List EntV} (hE : Row E) (hF : Row F) (h : E = F.take E.length) : Part E F E.length := by
  have hl : E.length ≤ F.length := by
    have := congrArg List.length h
    rw [List.length_take] at this
    omega
  exact ⟨hE, hF, Nat.le_refl _, hl, by rw [List.take_length]; exact h, fun x y hx => by rw [List.getElem?_eq_none (Nat.le_refl _)] at hx; cases hx⟩
theorem through_more {E F : List EntV} {p q j k : Nat} (hE : Row E) (hF : Row F) (h : E = F.take E.length) (hp : p < 60) (hj6 : E.length - j ≤ 6) (hjk : j ≤ k) (hk : k ≤ E.length) : throughM (full p E j) (full q F k) = true := by
  have hl : E.length ≤ F.length := by
    have := congrArg List.length h
    rw [List.length_take] at this
    omega
  have e1 : F.take k = E.take j ++ (E.drop j).take (k - j) := by
    have : F.take k = E.take k := by
      have h2 : (F.take E.length).take k = F.take k := by rw [List.take_take, Nat.min_eq_left hk]
      rw [← h2, ← h]
    rw [this, ← List.take_add, show j + (k - j) = k by omega]
  refine through_of (m := k - j) (full_is hE hp hj6) ?_ ?_ ?_ ?_
  · rw [full_len]; omega
  · rw [full_tail_n hF (by omega), full_tail_n hE (by omega)]; omega
  · show doneM base0 (F.take k) = doneM (doneM base0 (E.take j)) ((E.drop j).take (k - j))
    rw [e1, done_app]
  · show lastE ent0 (F.take k) = lastE (lastE ent0 (E.take j)) ((E.drop j).take (k - j))
    rw [e1, lastE_app]

/-- What is sent, applied by who has it already, changes nothing. -/
theorem apply_again {T : StV} {i : Nat} (hT : isM T = true) (hi : i ≤ T.log.length) : applyM T ⟨1, T.tail.n + i, T.log.drop i, endsM T⟩ = (T, 0) := by
  have hI := (is_is T).1 hT
  have hcut : cutM T (T.tail.n + i) = (withLog T (T.log.take i), 0) := by rw [cutM_ok hT (by omega) (by omega), show T.tail.n + i - T.tail.n = i by omega]
  have hadd := add_many T hI.1 hI.2.1 hI.2.2.1 (T.log.take i) (T.log.drop i) (by rw [List.length_take]; omega) (by rw [List.take_append_drop]; exact hI.2.2.2.2)
  have h0 : (T.log.take i).length + (T.log.drop i).length - 6 = 0 := by
    rw [← List.length_append, List.take_append_drop]
    omega
  rw [List.take_append_drop, h0] at hadd
  have hrew : rewM T (T.tail.n + i) (T.log.drop i) = (T, 0) := by
    unfold rewM
    rw [hcut]
    exact hadd
  have ht : tailM T T.tail.n = (T, 0) := by
    rw [tailM_ok hT (Nat.le_refl _) (by omega), Nat.sub_self]
    rfl
  have hend : endedM T (endsM T) = (T, true) := by
    unfold endedM
    show (startAt (tailM T T.tail.n).1 T.started, decide ((tailM T T.tail.n).2 = 0) && decide ((tailM T T.tail.n).1.tail.since = T.tail.since)) = _
    rw [ht]
    simp [startAt]
  have htu : turnedM T ⟨1, T.tail.n + i, T.log.drop i, endsM T⟩ = (T, true) := by
    unfold turnedM
    rw [if_neg (by show ¬ (1 : Int) = 0; decide), if_pos rfl]
    show (if (rewM T (T.tail.n + i) (T.log.drop i)).2 = 0 then endedM (rewM T (T.tail.n + i) (T.log.drop i)).1 (endsM T) else (st0, false)) = _
    rw [hrew, if_pos rfl, hend]
  rw [apply_yes hT (by rw [htu]) (by rw [htu]; exact hT), htu]

/-- What MergeOnly asks of its states: the one has k entries more. -/
structure Onlys (S T : StV) (k : Nat) : Prop where
  okS : StOk S
  okT : StOk T
  kind : (makeM S T).kind = if k = 0 then 0 else 1
  log : (makeM S T).log.length = k
  app : applyM S (makeM S T) = (T, 0)
  again : applyM T (makeM S T) = (T, 0)
  ext : extendsM S T = true
  back : extendsM T S = decide (k = 0)
theorem same_self_start {S : StV} : same tSt (startAt S S.started) S = true := (same_is _ _).2 rfl
theorem make_self {S : StV} (hS : isM S = true) : makeM S S = ⟨0, 0, [], endsM S⟩ := make_0 hS hS same_self_start
theorem extends_self {S : StV} (hS : isM S = true) : extendsM S S = true := by
  rw [extends_yes hS hS, make_self hS, decide_eq_true (Nat.le_refl _)]
  rfl
theorem onlys {E F : List EntV} {k : Nat} (hE : Row E) (hF : Row F) (h : E = F.take E.length) (hk : F.length = E.length + k) (hk6 : k ≤ 6) : Onlys (full 1 E (E.length - 6)) (full 1 F (F.length - 6)) k := by
  have hSi : isM (full 1 E (E.length - 6)) = true := full_is hE (by decide) (by omega)
  have hTi : isM (full 1 F (F.length - 6)) = true := full_is hF (by decide) (by omega)
  have hSo : StOk (full 1 E (E.length - 6)) := full_ok hE (by decide)
  have hTo : StOk (full 1 F (F.length - 6)) := full_ok hF (by decide)
  by_cases h0 : k = 0
  · subst h0
    have hEF : E = F := by
      rw [h, show E.length = F.length by omega, List.take_length]
    subst hEF
    refine ⟨hSo, hTo, ?_, ?_, apply_make hSi hTi, apply_make hSi hTi, extends_self hSi, ?_⟩
    · rw [make_self hSi]; rfl
    · rw [make_self hSi]; rfl
    · rw [extends_self hSi]; rfl
  · have nS : (headE (full 1 E (E.length - 6))).n = E.length := by rw [full_head hE, row_n hE]
    have nT : (headE (full 1 F (F.length - 6))).n = F.length := by rw [full_head hF, row_n hF]
    have hns : same tSt (startAt (full 1 E (E.length - 6)) (full 1 F (F.length - 6)).started) (full 1 F (F.length - 6)) = false := same_not (fun e => by
      have e2 : headE (startAt (full 1 E (E.length - 6)) (full 1 F (F.length - 6)).started) = headE (full 1 F (F.length - 6)) := by rw [e]
      have e3 : headE (startAt (full 1 E (E.length - 6)) (full 1 F (F.length - 6)).started) = headE (full 1 E (E.length - 6)) := rfl
      rw [e3] at e2
      have := congrArg EntV.n e2
      rw [nS, nT] at this
      omega)
    have hth := through_more (p := 1) (q := 1) (j := E.length - 6) (k := F.length - 6) hE hF h (by decide) (by omega) (by omega) (by omega)
    have hsh := part_shared (j := E.length - 6) (k := F.length - 6) (part_more hE hF h) (p := 1) (q := 1) (by decide) (by decide) (by omega) (by omega) (by omega) (by omega)
    have hM := make_1 hSi hTi hns hth
    rw [hsh] at hM
    have htn := full_tail_n (st := 1) (k := F.length - 6) hF (by omega)
    have hll : (full 1 F (F.length - 6)).log.length = F.length - (F.length - 6) := full_len
    refine ⟨hSo, hTo, ?_, ?_, apply_make hSi hTi, ?_, ?_, ?_⟩
    · rw [hM, if_neg h0]
    · rw [hM]
      show ((full 1 F (F.length - 6)).log.drop (E.length - (F.length - 6))).length = k
      rw [List.length_drop, hll]
      omega
    · rw [hM]
      exact apply_again hTi (by rw [hll]; omega)
    · rw [extends_yes hSi hTi, hM, nS, nT, decide_eq_true (show E.length ≤ F.length by omega)]
      show (true && (decide ((1 : Int) = 0) || (decide ((1 : Int) = 1) && decide ((full 1 F (F.length - 6)).tail.n + (E.length - (F.length - 6)) = E.length)))) = true
      rw [htn, decide_eq_true (show F.length - 6 + (E.length - (F.length - 6)) = E.length by omega)]
      rfl
    · rw [extends_yes hTi hSi, nS, nT, decide_eq_false (show ¬ F.length ≤ E.length by omega), decide_eq_false h0]
      rfl

/-- The law's row: entries of the first n more operations. -/
def onlyE (l more : List OpV) (n : Nat) : List EntV := entA l (more.take n) 30
theorem only_step {l more : List OpV} {n : Nat} (h : n < more.length) : onlyE l more (n + 1) = if writesM more[n] = true then onlyE l more n ++ [⟨30, (onlyE l more n).length + 1, more[n]⟩] else onlyE l more n := by
  unfold onlyE entA
  rw [filter_take more n h]
  split
  · rw [ents_snoc, List.append_assoc, List.length_append, ents_len, ents_len]
  · rfl
theorem only_count {l more : List OpV} {n : Nat} (h : n < more.length) : ((more.take (n + 1)).filter writesM).length = if writesM more[n] = true then ((more.take n).filter writesM).length + 1 else ((more.take n).filter writesM).length := by
  rw [filter_take more n h]
  split
  · rw [List.length_append]; rfl
  · rfl
theorem only_row {l more : List OpV} {n : Nat} (hl : ∀ o ∈ l, OpOk o) (hm : ∀ o ∈ more, OpOk o) (h1 : l.length ≤ 100) (h2 : more.length ≤ 100) : Row (onlyE l more n) :=
  entA_row (by decide) (by decide) hl (fun o ho => hm o (List.mem_of_mem_take ho)) h1 (by rw [List.length_take]; omega)
theorem only_last {l more : List OpV} {n : Nat} : (lastE ent0 (onlyE l more n)).since ≤ 30 := by
  unfold onlyE
  rw [← entN_all]
  exact (entN_last (by decide) (by decide)).2
theorem only_nil (l more : List OpV) : onlyE l more 0 = entA l [] 2 := by
  unfold onlyE
  rw [List.take_zero, entA_nil, entA_nil]
theorem only_pre (l more : List OpV) (n : Nat) : entA l [] 2 = (onlyE l more n).take (entA l [] 2).length := by
  rw [entA_nil]
  unfold onlyE entA
  rw [List.take_left]
theorem only_len (l more : List OpV) (n : Nat) : (onlyE l more n).length = (entA l [] 2).length + ((more.take n).filter writesM).length := by
  unfold onlyE
  rw [entA_nil, entA_len, ents_len]
theorem only_start (l : List OpV) : stM l [] 0 0 1 = full 1 (entA l [] 2) ((entA l [] 2).length - 6) := by
  unfold stM
  rw [Nat.zero_mod]
  rfl
end Go.Proofs.Ytphlfepgaghhhab
