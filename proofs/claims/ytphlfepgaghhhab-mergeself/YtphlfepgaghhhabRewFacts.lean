/- Two lists of entries that part somewhere: what they share, what is made of them. -/
import Derived.Test.YtphlfepgaghhhabStateMath
import Derived.Test.YtphlfepgaghhhabMergeFace
namespace Go.Proofs.Ytphlfepgaghhhab
set_option linter.unusedSimpArgs false
set_option linter.unusedVariables false
open Go.RowKit

/-- Two lists that have their first n entries in common, and not the next ones. -/
structure Part (E F : List EntV) (n : Nat) : Prop where
  e : Row E
  f : Row F
  le : n ≤ E.length
  lf : n ≤ F.length
  same : E.take n = F.take n
  ne : ∀ x y, E[n]? = some x → F[n]? = some y → x ≠ y
theorem part_shared {E F : List EntV} {n j k p q : Nat} (h : Part E F n) (hp : p < 60) (hq : q < 60) (hj6 : E.length - j ≤ 6) (hk6 : F.length - k ≤ 6) (hjk : j ≤ k) (hk : k ≤ n) : sharedN (full p E j) (full q F k).log = n - k := by
  have hi := full_is h.e hp hj6
  have hje : j ≤ E.length := by have := h.le; omega
  have hkf : k ≤ F.length := by have := h.lf; omega
  have htn : (full q F k).tail.n = (full p E j).tail.n + (k - j) := by rw [full_tail_n h.f hkf, full_tail_n h.e hje]; omega
  have hch : chainM (full q F k).tail (full q F k).log = true := ((is_is _).1 (full_is h.f hq hk6)).2.2.2.2
  have hl : (full p E j).log.length = E.length - j := full_len
  have hl' : (full q F k).log.length = F.length - k := full_len
  have he := h.le
  have hf := h.lf
  have hlow := shared_ge (a := full p E j) hi (full q F k).log (k - j) (n - k) (full q F k).tail htn hch (by omega) (by omega) (by
    show ((E.drop j).drop (k - j)).take (n - k) = (F.drop k).take (n - k)
    rw [List.drop_drop, show j + (k - j) = k by omega, ← List.drop_take, ← List.drop_take, h.same])
  obtain ⟨h1, h2⟩ := shared_is (a := full p E j) hi (full q F k).log (k - j) (full q F k).tail htn hch (by omega)
  have hle := shared_le (full p E j) (full q F k).log
  generalize sharedN (full p E j) (full q F k).log = sh at *
  by_cases hc : sh = n - k
  · exact hc
  · exfalso
    have hgt : n - k < sh := by omega
    have g1 : ((full p E j).log.take (k - j + sh))[k - j + (n - k)]? = E[n]? := by
      rw [List.getElem?_take_of_lt (by omega)]
      show (E.drop j)[k - j + (n - k)]? = _
      rw [List.getElem?_drop]
      congr 1
      omega
    have g2 : ((full p E j).log.take (k - j) ++ (full q F k).log.take sh)[k - j + (n - k)]? = F[n]? := by
      have hlen : ((full p E j).log.take (k - j)).length = k - j := by rw [List.length_take]; omega
      rw [List.getElem?_append_right (by omega), hlen, show k - j + (n - k) - (k - j) = n - k by omega, List.getElem?_take_of_lt hgt]
      show (F.drop k)[n - k]? = _
      rw [List.getElem?_drop]
      congr 1
      omega
    rw [h2, g2] at g1
    have hnE : n < E.length := by omega
    have hnF : n < F.length := by omega
    exact h.ne E[n] F[n] (List.getElem?_eq_getElem hnE) (List.getElem?_eq_getElem hnF) (by
      have := g1
      rw [List.getElem?_eq_getElem hnE, List.getElem?_eq_getElem hnF] at this
      exact (Option.some.inj this).symm)
theorem full_tail_le {E : List EntV} {st k : Nat} (hE : Row E) (hk : k ≤ E.length) : (full st E k).tail.n = k := full_tail_n hE hk

theorem ents_at_since (q k : Nat) (l : List OpV) (x : EntV) (h : (entsOf q k l)[0]? = some x) : x.since = q := by
  cases l with
  | nil => cases h
  | cons o l =>
    have h : (⟨q, k + 1, o⟩ : EntV) = x := Option.some.inj h
    rw [← h]
/-- What the law's two states have in common. -/
theorem entA_part {l a b : List OpV} {p q : Nat} (hp : 2 ≤ p) (hq : 2 ≤ q) (hp60 : p ≤ 60) (hq60 : q ≤ 60) (hpq : p ≠ q) (hl : ∀ o ∈ l, OpOk o) (ha : ∀ o ∈ a, OpOk o) (hb : ∀ o ∈ b, OpOk o) (h1 : l.length ≤ 100) (h2 : a.length ≤ 100) (h3 : b.length ≤ 100) : Part (entA l a p) (entA l b q) (l.filter writesM).length := by
  have hlen : (entsOf 1 0 (l.filter writesM)).length = (l.filter writesM).length := ents_len _ _ _
  refine ⟨entA_row hp hp60 hl ha h1 h2, entA_row hq hq60 hl hb h1 h3, by rw [entA_len]; omega, by rw [entA_len]; omega, ?_, ?_⟩
  · unfold entA
    rw [← hlen, List.take_left, List.take_left]
  · intro x y hx hy he
    unfold entA at hx hy
    rw [List.getElem?_append_right (by omega), hlen, Nat.sub_self] at hx hy
    have e1 := ents_at_since _ _ _ _ hx
    have e2 := ents_at_since _ _ _ _ hy
    rw [he] at e1
    omega
theorem entA_nil (l : List OpV) (q : Nat) : entA l [] q = entsOf 1 0 (l.filter writesM) := by
  unfold entA
  show _ ++ [] = _
  rw [List.append_nil]

/-- What MergeRewinds asks of its states. -/
structure Rewound (S T : StV) (n : Nat) : Prop where
  okS : StOk S
  okT : StOk T
  app : applyM S (makeM S T) = (T, 0)
  fr : (makeM S T).kind = 1 → (makeM S T).fr = n
  ext : (makeM S T).kind = 1 → extendsM S T = decide ((headM S).2 = n)
theorem rewound {l a b : List OpV} (hl : ∀ o ∈ l, OpOk o) (ha : ∀ o ∈ a, OpOk o) (hb : ∀ o ∈ b, OpOk o) (h1 : l.length ≤ 100) (h2 : a.length ≤ 3) (h3 : b.length ≤ 3) : Rewound (stM l a 5 0 1) (stM l b 6 0 9) (l.filter writesM).length := by
  have hSi : isM (stM l a 5 0 1) = true := stM_is hl ha h1 (by omega)
  have hTi : isM (stM l b 6 0 9) = true := stM_is hl hb h1 (by omega)
  have hP := entA_part (l := l) (a := a) (b := b) (p := 7) (q := 8) (by decide) (by decide) (by decide) (by decide) (by decide) hl ha hb h1 (by omega) (by omega)
  have eS : stM l a 5 0 1 = full 1 (entA l a 7) ((entA l a 7).length - 6) := by
    unfold stM
    rw [Nat.zero_mod]
    rfl
  have eT : stM l b 6 0 9 = full 9 (entA l b 8) ((entA l b 8).length - 6) := by
    unfold stM
    rw [Nat.zero_mod]
    rfl
  have hlenT : (entA l b 8).length ≤ (l.filter writesM).length + 3 := by
    rw [entA_len]
    have := filter_len b
    omega
  have hfr : (makeM (stM l a 5 0 1) (stM l b 6 0 9)).kind = 1 → (makeM (stM l a 5 0 1) (stM l b 6 0 9)).fr = (l.filter writesM).length := by
    intro hk
    have hk0 := hk
    unfold makeM at hk ⊢
    split at hk
    · cases hk
    · rename_i c1
      rw [if_neg c1]
      split at hk
      · cases hk
      · rename_i c2
        rw [if_neg c2]
        split at hk
        · rename_i c3
          rw [if_pos c3]
          obtain ⟨_, m, hm, hn, _, _⟩ := through_is hTi c3
          show (stM l b 6 0 9).tail.n + sharedN (stM l a 5 0 1) (stM l b 6 0 9).log = _
          rw [eS, eT] at hn
          rw [full_tail_n hP.f (by omega), full_tail_n hP.e (by omega)] at hn
          rw [eS, eT, part_shared hP (by decide) (by decide) (by omega) (by omega) (by omega) (by have := hP.lf; omega), full_tail_n hP.f (by omega)]
          have := hP.lf
          omega
        · cases hk
  refine ⟨stM_ok hl ha h1 (by omega), stM_ok hl hb h1 (by omega), apply_make hSi hTi, hfr, ?_⟩
  intro hk
  have hf := hfr hk
  rw [extends_yes hSi hTi, hk, hf, head_yes hSi]
  have nS : (headE (stM l a 5 0 1)).n = (entA l a 7).length := by rw [eS, full_head hP.e, row_n hP.e]
  have nT : (headE (stM l b 6 0 9)).n = (entA l b 8).length := by rw [eT, full_head hP.f, row_n hP.f]
  show (decide ((headE _).n ≤ (headE _).n) && (decide ((1 : Int) = 0) || (decide ((1 : Int) = 1) && decide (_ = (headE _).n)))) = decide ((headE _).n = _)
  rw [nS, nT]
  have := hP.le
  have := hP.lf
  by_cases hc : (entA l a 7).length = (l.filter writesM).length
  · rw [decide_eq_true hc, decide_eq_true hc.symm, decide_eq_true (by omega)]
    rfl
  · rw [decide_eq_false hc, decide_eq_false (show ¬ (l.filter writesM).length = (entA l a 7).length from fun e => hc e.symm)]
    simp
end Go.Proofs.Ytphlfepgaghhhab
