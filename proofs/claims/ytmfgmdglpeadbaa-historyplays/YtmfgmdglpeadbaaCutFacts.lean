/- Intervals part the epochs. -/
import Derived.Test.YtmfgmdglpeadbaaIncRows
namespace Go.Proofs.Ytmfgmdglpeadbaa
set_option linter.unusedSimpArgs false
set_option linter.unusedVariables false

theorem ivTo_more (xs : List IncV) (g : Nat) {j N : Nat} (h : j ≤ N) : ∃ t, ivTo xs g N = ivTo xs g j ++ t ∧ ∀ p ∈ t, j + 1 < p.1 := by
  induction N with
  | zero =>
    have : j = 0 := by omega
    subst this
    exact ⟨[], by simp, fun p hp => by cases hp⟩
  | succ N ih =>
    by_cases e : j = N + 1
    · subst e; exact ⟨[], by simp, fun p hp => by cases hp⟩
    · obtain ⟨t, ht, hp⟩ := ih (by omega)
      by_cases he : actH xs N g = actH xs (N + 1) g
      · rw [ivTo_same he]; exact ⟨t, ht, hp⟩
      · rw [ivTo_new he, ht, List.append_assoc]
        refine ⟨t ++ [(N + 2, actH xs (N + 1) g)], rfl, fun p hp' => ?_⟩
        rcases List.mem_append.1 hp' with h1 | h1
        · exact hp p h1
        · rw [List.mem_singleton.1 h1]
          show j + 1 < N + 2
          omega

theorem ivTo_pos (xs : List IncV) (g j : Nat) : 0 < (ivTo xs g j).length := by
  obtain ⟨l, s, h, _⟩ := ivTo_last xs g j
  rw [h, List.length_append]
  simp

/-- The place of the interval that the epoch j + 1 is in. -/
def kk (xs : List IncV) (g j : Nat) : Nat := (ivTo xs g j).length - 1

theorem kk_lt (xs : List IncV) (g : Nat) {j N : Nat} (h : j ≤ N) : kk xs g j < (ivTo xs g N).length := by
  obtain ⟨t, ht, _⟩ := ivTo_more xs g h
  have := ivTo_pos xs g j
  unfold kk
  rw [ht, List.length_append]
  omega

theorem kk_at (xs : List IncV) (g : Nat) {j N : Nat} (h : j ≤ N) : ((ivTo xs g N)[kk xs g j]'(kk_lt xs g h)).2 = actH xs j g := by
  obtain ⟨t, ht, _⟩ := ivTo_more xs g h
  obtain ⟨l, s, hl, _⟩ := ivTo_last xs g j
  have hk : kk xs g j = l.length := by unfold kk; rw [hl]; simp
  have : (ivTo xs g N)[kk xs g j]? = some (s, actH xs j g) := by
    rw [ht, hl, hk, List.append_assoc, List.getElem?_append_right (Nat.le_refl _)]
    simp
  rw [List.getElem?_eq_getElem (kk_lt xs g h)] at this
  rw [Option.some.inj this]

theorem kk_next (xs : List IncV) (g : Nat) {j N : Nat} (h : j ≤ N) (hk : kk xs g j + 1 < (ivTo xs g N).length) : j + 1 < ((ivTo xs g N)[kk xs g j + 1]).1 := by
  obtain ⟨t, ht, hp⟩ := ivTo_more xs g h
  have hpos := ivTo_pos xs g j
  have e : kk xs g j + 1 = (ivTo xs g j).length := by unfold kk; omega
  have hlen : (ivTo xs g j).length < (ivTo xs g N).length := by omega
  rw [ht, List.length_append] at hlen
  have : (ivTo xs g N)[kk xs g j + 1]? = t[0]? := by
    rw [ht, e, List.getElem?_append_right (Nat.le_refl _), Nat.sub_self]
  rw [List.getElem?_eq_getElem hk] at this
  cases t with
  | nil => simp at hlen
  | cons p t =>
    rw [Option.some.inj this]
    exact hp p (List.mem_cons_self ..)

theorem kk_same {xs : List IncV} {g j : Nat} (h : actH xs j g = actH xs (j + 1) g) : kk xs g (j + 1) = kk xs g j := by
  unfold kk
  rw [ivTo_same h]

theorem kk_new {xs : List IncV} {g j : Nat} (h : ¬ actH xs j g = actH xs (j + 1) g) : kk xs g (j + 1) = kk xs g j + 1 := by
  have := ivTo_pos xs g j
  unfold kk
  rw [ivTo_new h, List.length_append]
  simp
  omega

theorem kk_since {xs : List IncV} {g j N : Nat} (h : j + 1 ≤ N) (hn : ¬ actH xs j g = actH xs (j + 1) g) : ((ivTo xs g N)[kk xs g (j + 1)]'(kk_lt xs g h)).1 = j + 2 := by
  obtain ⟨t, ht, _⟩ := ivTo_more xs g h
  have hpos := ivTo_pos xs g j
  have hk : kk xs g (j + 1) = (ivTo xs g j).length := by rw [kk_new hn]; unfold kk; omega
  have : (ivTo xs g N)[kk xs g (j + 1)]? = some (j + 2, actH xs (j + 1) g) := by
    rw [ht, ivTo_new hn, hk, List.append_assoc, List.getElem?_append_right (Nat.le_refl _)]
    simp
  rw [List.getElem?_eq_getElem (kk_lt xs g h)] at this
  rw [Option.some.inj this]

theorem iv_first (xs : List IncV) (g N : Nat) : ((ivTo xs g N)[0]'(ivTo_pos xs g N)).1 = 1 := by
  obtain ⟨t, ht, _⟩ := ivTo_more xs g (Nat.zero_le N)
  have : (ivTo xs g N)[0]? = some (1, actH xs 0 g) := by rw [ht]; rfl
  rw [List.getElem?_eq_getElem (ivTo_pos xs g N)] at this
  rw [Option.some.inj this]

theorem since_is {xs : List IncV} {g : Nat} (hg : g < 4) : sinceH xs g = ((ivTo xs g xs.length)[kk xs g xs.length]'(kk_lt xs g (Nat.le_refl _))).1 := by
  obtain ⟨l, s, hl, _⟩ := ivTo_last xs g xs.length
  have hk : kk xs g xs.length = l.length := by unfold kk; rw [hl]; simp
  have h1 : (ivTo xs g xs.length)[kk xs g xs.length]? = some (s, actH xs xs.length g) := by
    rw [hl, hk, List.getElem?_append_right (Nat.le_refl _)]
    simp
  rw [List.getElem?_eq_getElem (kk_lt xs g (Nat.le_refl _))] at h1
  rw [Option.some.inj h1]
  unfold sinceH ivals
  rw [if_pos hg, hl]
  simp

theorem ivals_is {xs : List IncV} {g : Nat} (hg : g < 4) : ivals xs g = ivTo xs g xs.length := if_pos hg

/-- What the walk over the epochs meets at the epoch j + 1, k being the place that it has come to. -/
theorem cut_step (xs : List IncV) (g : Nat) {j N : Nat} (h : j ≤ N) :
    (kk xs g j = kk xs g (j - 1) ∧ (kk xs g (j - 1) + 1 < (ivTo xs g N).length → ∃ hk : kk xs g (j - 1) + 1 < (ivTo xs g N).length, ((ivTo xs g N)[kk xs g (j - 1) + 1]).1 ≠ j + 1)) ∨
    (1 ≤ j ∧ kk xs g j = kk xs g (j - 1) + 1 ∧ ((ivTo xs g N)[kk xs g j]'(kk_lt xs g h)).1 = j + 1 ∧ ¬ actH xs j g = actH xs (j - 1) g) := by
  match j with
  | 0 =>
    refine .inl ⟨rfl, fun hk => ⟨hk, ?_⟩⟩
    have := kk_next xs g (Nat.zero_le N) hk
    exact Nat.ne_of_gt this
  | j + 1 =>
    by_cases he : actH xs j g = actH xs (j + 1) g
    · refine .inl ⟨kk_same he, fun hk => ⟨hk, ?_⟩⟩
      have hk' : kk xs g (j + 1) + 1 < (ivTo xs g N).length := by rw [kk_same he]; exact hk
      have := kk_next xs g h hk'
      simp only [kk_same he] at this
      exact Nat.ne_of_gt this
    · exact .inr ⟨by omega, kk_new he, kk_since h he, fun e => he e.symm⟩

/-- The same, told by what lies where. -/
theorem cut_at (xs : List IncV) (g : Nat) {j N : Nat} (h : j ≤ N) : ∃ kp kc sK, kp = kk xs g (j - 1) ∧ kc = kk xs g j ∧ (ivTo xs g N)[kc]? = some (sK, actH xs j g) ∧
    ((kc = kp ∧ ((ivTo xs g N).length ≤ kp + 1 ∨ ∃ s1 a1, (ivTo xs g N)[kp + 1]? = some (s1, a1) ∧ s1 ≠ j + 1)) ∨ (kc = kp + 1 ∧ sK = j + 1 ∧ ∃ s0 a0, (ivTo xs g N)[kp]? = some (s0, a0) ∧ a0 ≠ actH xs j g)) := by
  refine ⟨_, _, ((ivTo xs g N)[kk xs g j]'(kk_lt xs g h)).1, rfl, rfl, ?_, ?_⟩
  · rw [List.getElem?_eq_getElem (kk_lt xs g h)]
    congr 1
    exact Prod.ext rfl (kk_at xs g h)
  · rcases cut_step xs g h with ⟨h1, h2⟩ | ⟨h0, h1, h2, h3⟩
    · refine .inl ⟨h1, ?_⟩
      by_cases hk : kk xs g (j - 1) + 1 < (ivTo xs g N).length
      · obtain ⟨hk', hn⟩ := h2 hk
        exact .inr ⟨_, _, by rw [List.getElem?_eq_getElem hk], hn⟩
      · exact .inl (by omega)
    · refine .inr ⟨h1, h2, ((ivTo xs g N)[kk xs g (j - 1)]'(kk_lt xs g (by omega))).1, actH xs (j - 1) g, ?_, fun e => h3 e.symm⟩
      rw [List.getElem?_eq_getElem (kk_lt xs g (by omega))]
      congr 1
      exact Prod.ext rfl (kk_at xs g (by omega))

theorem cut_end (xs : List IncV) {g : Nat} (hg : g < 4) : ∃ V, V = ivTo xs g xs.length ∧ (∃ a0, V[0]? = some (1, a0)) ∧ kk xs g xs.length + 1 = V.length ∧ ∃ aN, V[kk xs g xs.length]? = some (sinceH xs g, aN) := by
  refine ⟨_, rfl, ⟨((ivTo xs g xs.length)[0]'(ivTo_pos xs g _)).2, ?_⟩, ?_, ⟨actH xs xs.length g, ?_⟩⟩
  · rw [List.getElem?_eq_getElem (ivTo_pos xs g _)]
    congr 1
    exact Prod.ext (iv_first xs g _) rfl
  · have := ivTo_pos xs g xs.length
    unfold kk
    omega
  · rw [List.getElem?_eq_getElem (kk_lt xs g (Nat.le_refl _))]
    congr 1
    exact Prod.ext (since_is hg).symm (kk_at xs g (Nat.le_refl _))

theorem add_fld (ad : Addr) (n : Nat) : ad.add (n + 1) = ⟨(ad.add n).block, (ad.add n).off + 1, none⟩ := by
  unfold Addr.add
  by_cases h : n = 0
  · subst h; simp
  · simp [h, Nat.add_assoc]

theorem iv_get {w : World} {ad : Addr} {c i s : Nat} {a : List Int} {l : List (Nat × List Int)} (h : Iv w (some ad) c l) (hi : l[i]? = some (s, a)) :
    i < l.length ∧ w.cell? (ad.add (i * 2)) = some (.int .u32 (s : Nat)) ∧ ∃ bo d, w.cell? ⟨(ad.add (i * 2)).block, (ad.add (i * 2)).off + 1, none⟩ = some (.slice bo a.length d) ∧ Ix w bo d a := by
  obtain ⟨hl, he⟩ := List.getElem?_eq_some_iff.1 hi
  have h1 := h.at' ad rfl i hl
  rw [he, add_fld] at h1
  exact ⟨hl, h1.1, h1.2⟩
end Go.Proofs.Ytmfgmdglpeadbaa
