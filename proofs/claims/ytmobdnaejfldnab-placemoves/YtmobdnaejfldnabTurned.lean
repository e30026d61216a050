/- Maps whose first daemons are turned, one by one; who is picked of one daemon, of one host, of none. -/
import Derived.Test.YtmobdnaejfldnabPlaceWays
namespace Go.Proofs.Ytmobdnaejfldnab
set_option linter.unusedSimpArgs false
set_option linter.unusedVariables false

/-- The map whose first n daemons are as told. -/
def turnM (m : MapV) (t : Fin 5 → OsdV) (n : Nat) : MapV := ⟨m.epoch, fun j => if j.val < n then t j else m.osd j⟩

theorem turnM_0 (m : MapV) (t : Fin 5 → OsdV) : turnM m t 0 = m := by
  unfold turnM
  simp

theorem turnM_at (m : MapV) (t : Fin 5 → OsdV) (n : Nat) (h : n < 5) : (turnM m t n).osd ⟨n, h⟩ = m.osd ⟨n, h⟩ := by
  show (if n < n then t ⟨n, h⟩ else m.osd ⟨n, h⟩) = _
  rw [if_neg (by omega)]

theorem turnM_5 (m : MapV) (t : Fin 5 → OsdV) (i : Fin 5) : (turnM m t 5).osd i = t i := by
  show (if i.val < 5 then t i else m.osd i) = _
  rw [if_pos i.isLt]

theorem turnM_step (m : MapV) (t : Fin 5 → OsdV) (n : Nat) (h : n < 5) : (turnM m t n).put ⟨n, h⟩ (t ⟨n, h⟩) = turnM m t (n + 1) := by
  unfold MapV.put turnM
  simp only
  congr 1
  funext j
  by_cases e : j = ⟨n, h⟩
  · subst e
    simp
  · have hne : j.val ≠ n := fun h' => e (Fin.ext h')
    rw [if_neg e]
    by_cases hj : j.val < n
    · rw [if_pos hj, if_pos (by omega)]
    · rw [if_neg hj, if_neg (by omega)]

theorem turnM_same (m : MapV) (t : Fin 5 → OsdV) (n : Nat) (h : n < 5) (ht : t ⟨n, h⟩ = m.osd ⟨n, h⟩) : turnM m t (n + 1) = turnM m t n := by
  rw [← turnM_step m t n h, ht, ← turnM_at m t n h]
  unfold MapV.put
  congr 1
  funext j
  by_cases e : j = ⟨n, h⟩
  · subst e
    rw [if_pos rfl]
    rfl
  · rw [if_neg e]
    rfl

theorem turnM_is {m : MapV} {t : Fin 5 → OsdV} (h : 1 ≤ m.epoch ∧ m.epoch ≤ 60) (ht : ∀ i, osdOk (t i) = true) : isM (turnM m t 5) = true := by
  rw [isM_is]
  exact ⟨h, fun i => by rw [turnM_5]; exact ht i⟩

theorem turnM_ok {m : MapV} {t : Fin 5 → OsdV} (h : MapOk m) (ht : ∀ i, osdOk (t i) = true) : MapOk (turnM m t 5) := by
  refine ⟨h.epoch, fun i => ?_, fun i => ?_⟩
  · rw [turnM_5]; have := (osdOk_is _).1 (ht i); omega
  · rw [turnM_5]; have := (osdOk_is _).1 (ht i); omega

theorem turnM_wt (m : MapV) (t : Fin 5 → OsdV) (j : Nat) (hj : j < 5) : wtI (turnM m t 5) j = (t ⟨j, hj⟩).wt := by
  rw [wtI_at _ j hj, turnM_5]

theorem turnM_host (m : MapV) (t : Fin 5 → OsdV) (j : Nat) (hj : j < 5) : hostI (turnM m t 5) j = (t ⟨j, hj⟩).host := by
  rw [hostI_at _ j hj, turnM_5]

/-- Daemons on one host: one is picked. -/
theorem pick_one_host {m : MapV} {g : Nat} (hi : isM m = true) (hg : g < 4) (hw : 1 ≤ wtI m 0) (h : ∀ j : Nat, j < 5 → hostI m j = 5) : pickM m g = [bestM m g 0] := by
  refine pick_one hi hg (best_some (i := 0) (by decide) hw) fun q hq => ?_
  have hh : ∀ q, 0 ≤ bestM m g q → hostI m (bestM m g q) = 5 := by
    intro q hq
    obtain ⟨j, hj⟩ := Int.eq_ofNat_of_zero_le hq
    have := (bestTo_bd m g q 5).2
    have hb : bestM m g q = (bestTo m g q 5).1 := rfl
    rw [hj]
    exact h j (by omega)
  unfold freeB
  rw [List.all_cons, apartB_host, hh 0 (best_some (i := 0) (by decide) hw), hh q hq]
  rfl

/-- One daemon that weighs anything: it is picked alone. -/
theorem pick_one_wt {m : MapV} {g k : Nat} (hi : isM m = true) (hg : g < 4) (hk : k < 5) (hw : 1 ≤ wtI m k) (h : ∀ j : Nat, j < 5 → j ≠ k → wtI m j < 1) : pickM m g = [(k : Int)] := by
  have hb : ∀ q, bestM m g q = k := by
    intro q
    refine top_one (bestM_top m g q) (.inr ⟨k, hk, rfl, hw, fun j hj hj1 => ?_⟩)
    by_cases e : j = k
    · subst e; exact ⟨Int.le_refl _, fun h => absurd h (by omega)⟩
    · have := h j hj e; omega
  have := pick_one hi hg (by rw [hb]; omega) (fun q hq => by
    rw [hb, hb]
    unfold freeB
    rw [List.all_cons, apartB_host]
    simp)
  rw [this, hb]

theorem pick_no_wt {m : MapV} {g : Nat} (h : ∀ j : Nat, j < 5 → wtI m j < 1) : pickM m g = [] := by
  refine pick_none ?_
  rw [top_one (bestM_top m g 0) (.inl ⟨h, rfl⟩)]
  omega
end Go.Proofs.Ytmobdnaejfldnab
