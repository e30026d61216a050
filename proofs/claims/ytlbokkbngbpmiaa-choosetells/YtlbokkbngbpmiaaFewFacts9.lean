/- Daemons that go down and come up again, by a row of bools. -/
import Derived.Test.YtlbokkbngbpmiaaChooseFacts
import Derived.Test.YtlbokkbngbpmiaaBools
import Derived.KernelRfl
namespace Go.Proofs.Ytlbokkbngbpmiaa
set_option linter.unusedSimpArgs false
set_option linter.unusedVariables false

/-- A history behind which daemons are up as told, else as at first. -/
structure Ups (xs : List IncV) (u : Nat → Bool) : Prop where
  good : Good xs
  osd : ∀ j : Fin 5, (mapH xs xs.length).osd j = ⟨u j.val, 8, j.val % 4⟩
theorem Ups.nil : Ups [] (fun _ => true) := ⟨Good.nil, fun j => rfl⟩
theorem Ups.congr {xs : List IncV} {u v : Nat → Bool} (h : Ups xs u) (e : ∀ j, j < 5 → u j = v j) : Ups xs v := ⟨h.good, fun j => by rw [h.osd j, e j.val j.isLt]⟩
theorem ups_ok {k i : Nat} (hk : k = 1 ∨ k = 2) (hi : i < 5) : IncOk ⟨k, i, 0⟩ := ⟨by show k < 256; omega, by show i < 256; omega, by show (-9223372036854775808 : Int) ≤ 0; decide, by show (0 : Int) ≤ 9223372036854775807; decide⟩
theorem Ups.step {xs : List IncV} {u : Nat → Bool} (h : Ups xs u) {k i : Nat} (hk : k = 1 ∨ k = 2) (hi : i < 5) (hl : xs.length < 59) :
    addH xs (xs.length + 2) ⟨k, i, 0⟩ = (0, xs ++ [⟨k, i, 0⟩]) ∧ Ups (xs ++ [⟨k, i, 0⟩]) (fun j => if j = i then decide (k = 1) else u j) := by
  have hok : okA (mapH xs xs.length) ⟨k, i, 0⟩ = true := by
    rw [okA_is]
    refine ⟨isH h.good _ (Nat.le_refl _), ?_, ?_⟩
    · rw [isInc_of]
      exact decide_eq_true (.inl ⟨hk, hi, rfl⟩)
    · rw [epochH xs xs.length (Nat.le_refl _)]; omega
  refine ⟨addH_yes rfl hok, h.good.snoc hok (ups_ok hk hi), fun j => ?_⟩
  rw [List.length_append, List.length_singleton, mapH_snoc]
  show (if j.val = i then turn ⟨k, i, 0⟩ ((mapH xs xs.length).osd j) else (mapH xs xs.length).osd j) = _
  rw [h.osd j]
  by_cases e : j.val = i
  · rw [if_pos e, if_pos e]
    rcases hk with rfl | rfl <;> rfl
  · rw [if_neg e, if_neg e]
theorem pick_f0 : (pickM firstM 0).length = 3 := by kernel_rfl
theorem pick_f1 : (pickM firstM 1).length = 3 := by kernel_rfl
theorem pick_f2 : (pickM firstM 2).length = 3 := by kernel_rfl
theorem pick_f3 : (pickM firstM 3).length = 3 := by kernel_rfl
theorem pick_first (g : Nat) (hg : g < 4) : (pickM firstM g).length = 3 := by
  match g, hg with
  | 0, _ => exact pick_f0
  | 1, _ => exact pick_f1
  | 2, _ => exact pick_f2
  | 3, _ => exact pick_f3
theorem first_isM : isM firstM = true := by decide
theorem Ups.now {xs : List IncV} (h : Ups xs (fun _ => true)) {g : Nat} (hg : g < 4) : (nowH xs g).length = 3 := by
  rw [now_is]
  unfold actH actM
  have hp : pickM (mapH xs xs.length) g = pickM firstM g :=
    pickM_congr (wtI_congr (fun i => by rw [h.osd i]; rfl)) (hostI_congr (fun i => by rw [h.osd i]; rfl)) (by rw [isH h.good _ (Nat.le_refl _), first_isM]) g
  rw [hp, List.filter_eq_self.2, pick_first g hg]
  intro x hx
  obtain ⟨h0, h5⟩ := (pickM_mem firstM g).1 x hx
  unfold upI
  rw [dif_pos (by omega), h.osd]
theorem Ups.serves {xs : List IncV} (h : Ups xs (fun _ => true)) {g : Nat} (hg : g < 4) : servesM (ivals xs g) = true := by
  unfold servesM
  rw [ivals_now, h.now hg]
  rfl
theorem serves_now (xs : List IncV) (g : Nat) : servesM (ivals xs g) = decide (2 ≤ (nowH xs g).length) := by
  unfold servesM
  rw [ivals_now]
theorem lacks_two {V : List (Nat × List Int)} {hs : List Int} {s : Nat} {v : Nat × List Int} (h : v ∈ lacksM V hs s) : 2 ≤ v.2.length ∧ s ≤ v.1 := by
  unfold lacksM at h
  exact ((lackB_is hs s v).1 (List.mem_filter.1 h).2).1
/-- Up but for those of the first n that are told off; up, and those of the first n again. -/
def offU (f : Fin 5 → Bool) (n j : Nat) : Bool := if h : j < 5 then (if j < n then !(f ⟨j, h⟩) else true) else true
def onU (f : Fin 5 → Bool) (n j : Nat) : Bool := if h : j < 5 then (if j < n then true else !(f ⟨j, h⟩)) else true
theorem off_0 (f : Fin 5 → Bool) : ∀ j, j < 5 → true = offU f 0 j := fun j hj => by unfold offU; rw [dif_pos hj, if_neg (by omega)]
theorem off_yes (f : Fin 5 → Bool) {n : Nat} (hn : n < 5) (h : f ⟨n, hn⟩ = true) : ∀ j, j < 5 → (if j = n then decide (2 = 1) else offU f n j) = offU f (n + 1) j := fun j hj => by
  unfold offU
  rw [dif_pos hj, dif_pos hj]
  by_cases e : j = n
  · subst e
    rw [if_pos rfl, if_pos (by omega), h]
    rfl
  · rw [if_neg e]
    by_cases e2 : j < n
    · rw [if_pos e2, if_pos (by omega)]
    · rw [if_neg e2, if_neg (by omega)]
theorem off_no (f : Fin 5 → Bool) {n : Nat} (hn : n < 5) (h : f ⟨n, hn⟩ = false) : ∀ j, j < 5 → offU f n j = offU f (n + 1) j := fun j hj => by
  unfold offU
  rw [dif_pos hj, dif_pos hj]
  by_cases e : j = n
  · subst e
    rw [if_neg (by omega), if_pos (by omega), h]
    rfl
  · by_cases e2 : j < n
    · rw [if_pos e2, if_pos (by omega)]
    · rw [if_neg e2, if_neg (by omega)]
theorem off_5 (f : Fin 5 → Bool) : ∀ j, j < 5 → offU f 5 j = onU f 0 j := fun j hj => by
  unfold offU onU
  rw [dif_pos hj, dif_pos hj, if_pos hj, if_neg (by omega)]
theorem on_yes (f : Fin 5 → Bool) {n : Nat} (hn : n < 5) : ∀ j, j < 5 → (if j = n then decide (1 = 1) else onU f n j) = onU f (n + 1) j := fun j hj => by
  unfold onU
  rw [dif_pos hj, dif_pos hj]
  by_cases e : j = n
  · subst e
    rw [if_pos rfl, if_pos (by omega)]
    rfl
  · rw [if_neg e]
    by_cases e2 : j < n
    · rw [if_pos e2, if_pos (by omega)]
    · rw [if_neg e2, if_neg (by omega)]
theorem on_no (f : Fin 5 → Bool) {n : Nat} (hn : n < 5) (h : f ⟨n, hn⟩ = false) : ∀ j, j < 5 → onU f n j = onU f (n + 1) j := fun j hj => by
  unfold onU
  rw [dif_pos hj, dif_pos hj]
  by_cases e : j = n
  · subst e
    rw [if_neg (by omega), if_pos (by omega), h]
    rfl
  · by_cases e2 : j < n
    · rw [if_pos e2, if_pos (by omega)]
    · rw [if_neg e2, if_neg (by omega)]
theorem on_5 (f : Fin 5 → Bool) : ∀ j, j < 5 → onU f 5 j = true := fun j hj => by
  unfold onU
  rw [dif_pos hj, if_pos hj]
end Go.Proofs.Ytlbokkbngbpmiaa
