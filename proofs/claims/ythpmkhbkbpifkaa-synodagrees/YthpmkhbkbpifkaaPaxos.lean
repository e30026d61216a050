/- Three proposers and three acceptors, in whatever turns: whatever is decided is one and the same, and somebody's wish. -/
import Derived.Test.YthpmkhbkbpifkaaProMath
import Derived.Test.YthpmkhbkbpifkaaBalFacts
namespace Go.Proofs.Ythpmkhbkbpifkaa
set_option linter.unusedSimpArgs false
set_option linter.unusedVariables false
open Go.RowKit

structure Sys where
  pr : Nat → ProV
  ac : Nat → AccV

def Sys.putP (s : Sys) (k : Nat) (p : ProV) : Sys := ⟨fun i => if i = k then p else s.pr i, s.ac⟩
def Sys.putA (s : Sys) (j : Nat) (a : AccV) : Sys := ⟨s.pr, fun i => if i = j then a else s.ac i⟩
theorem Sys.putP_at (s : Sys) (k : Nat) (p : ProV) : (s.putP k p).pr k = p := if_pos rfl
theorem Sys.putP_ne (s : Sys) {i k : Nat} (h : i ≠ k) (p : ProV) : (s.putP k p).pr i = s.pr i := if_neg h
theorem Sys.putA_at (s : Sys) (k : Nat) (a : AccV) : (s.putA k a).ac k = a := if_pos rfl
theorem Sys.putA_ne (s : Sys) {i k : Nat} (h : i ≠ k) (a : AccV) : (s.putA k a).ac i = s.ac i := if_neg h

/-- The order of ballots, as propositions. -/
def ltB (a b : BalV) : Prop := a.n < b.n ∨ (a.n = b.n ∧ a.who < b.who)
def leB (a b : BalV) : Prop := a.n < b.n ∨ (a.n = b.n ∧ a.who ≤ b.who)
theorem bal_ext {a b : BalV} (h1 : a.n = b.n) (h2 : a.who = b.who) : a = b := by
  obtain ⟨n, k⟩ := a
  obtain ⟨m, l⟩ := b
  simp only at h1 h2
  rw [h1, h2]
theorem less_lt {a b : BalV} : lessB a b = true ↔ ltB a b := lessB_is a b
theorem less_le {a b : BalV} : lessB a b = false ↔ leB b a := by
  rw [← Bool.not_eq_true, lessB_is]
  unfold leB
  omega
theorem leB.trans {a b c : BalV} (h : leB a b) (k : leB b c) : leB a c := by unfold leB at *; omega
theorem leB.refl (a : BalV) : leB a a := .inr ⟨rfl, Nat.le_refl _⟩
theorem leB.or {a b : BalV} (h : leB a b) : a = b ∨ ltB a b := by
  unfold leB ltB at *
  by_cases e : a.n = b.n ∧ a.who = b.who
  · exact .inl (bal_ext e.1 e.2)
  · exact .inr (by omega)
theorem lt_not_le {a b : BalV} (h : ltB a b) (k : leB b a) : False := by unfold ltB leB at *; omega
theorem lt_total (a b : BalV) : a = b ∨ ltB a b ∨ ltB b a := by
  unfold ltB
  by_cases e : a.n = b.n ∧ a.who = b.who
  · exact .inl (bal_ext e.1 e.2)
  · exact .inr (by omega)

/-- Two of the three acceptors can stand for a ballot: each voted for it, or may still. -/
def Choos (s : Sys) (voted : Nat → BalV → Prop) (c : BalV) : Prop := ∃ i j, i < 3 ∧ j < 3 ∧ i ≠ j ∧ (voted i c ∨ leB (s.ac i).pro c) ∧ (voted j c ∨ leB (s.ac j).pro c)

/-- What holds all through: val: which ballots have which value; voted: which acceptor ever accepted which ballot. -/
structure Inv (T : Nat) (x : Nat → IncV) (s : Sys) (val : BalV → Option IncV) (voted : Nat → BalV → Prop) : Prop where
  who : ∀ k, k < 3 → (s.pr k).who = k ∧ (s.pr k).want = x k ∧ ((s.pr k).b = bal0 ∨ ((s.pr k).b.who = k ∧ 0 < (s.pr k).b.n))
  few : ∀ k, k < 3 → (s.pr k).b.n ≤ T ∧ (s.ac k).pro.n ≤ T
  vote : ∀ j, j < 3 → ∀ c, voted j c → leB c (s.ac j).acc ∧ ∃ v, val c = some v
  acc : ∀ j, j < 3 → (s.ac j).acc = bal0 ∨ (isB (s.ac j).acc = true ∧ val (s.ac j).acc = some (s.ac j).inc)
  le : ∀ j, j < 3 → leB (s.ac j).acc (s.ac j).pro
  own : ∀ b v, val b = some v → b.who < 3 ∧ 0 < b.n ∧ b.n ≤ (s.pr b.who).b.n ∧ ∃ i, i < 3 ∧ v = x i
  hasV : ∀ k, k < 3 → (s.pr k).hasV = true → val (s.pr k).b = some (s.pr k).value
  hasN : ∀ k, k < 3 → (s.pr k).hasV = false → val (s.pr k).b = none
  safe : ∀ b v, val b = some v → ∀ c, ltB c b → Choos s voted c → val c = some v
  hear : ∀ k, k < 3 → (s.pr k).hasV = false → ∀ j, j < 3 → (s.pr k).heard j = true → leB (s.pr k).b (s.ac j).pro ∧ ∀ c, ltB c (s.pr k).b → voted j c → (s.pr k).has = true ∧ leB c (s.pr k).best
  best : ∀ k, k < 3 → (s.pr k).hasV = false → (s.pr k).has = true → val (s.pr k).best = some (s.pr k).bestX
  accd : ∀ k, k < 3 → ∀ j, j < 3 → (s.pr k).accd j = true → voted j (s.pr k).b ∧ (s.pr k).hasV = true
  dec : ∀ k, k < 3 → (s.pr k).hasD = true → ∃ b, val b = some (s.pr k).dec ∧ ∃ i j, i < 3 ∧ j < 3 ∧ i ≠ j ∧ voted i b ∧ voted j b

/-- Whatever two decided is the same; it is somebody's wish. -/
theorem Inv.agree {T : Nat} {x : Nat → IncV} {s : Sys} {val : BalV → Option IncV} {voted : Nat → BalV → Prop} (h : Inv T x s val voted) {k l : Nat} (hk : k < 3) (hl : l < 3) (h1 : (s.pr k).hasD = true) (h2 : (s.pr l).hasD = true) : (s.pr k).dec = (s.pr l).dec := by
  obtain ⟨b, vb, i, j, hi, hj, hij, v1, v2⟩ := h.dec k hk h1
  obtain ⟨c, vc, i', j', hi', hj', hij', v1', v2'⟩ := h.dec l hl h2
  rcases lt_total b c with rfl | e | e
  · rw [vb] at vc
    exact Option.some.inj vc
  · have := h.safe c _ vc b e ⟨i, j, hi, hj, hij, .inl v1, .inl v2⟩
    rw [vb] at this
    exact Option.some.inj this
  · have := h.safe b _ vb c e ⟨i', j', hi', hj', hij', .inl v1', .inl v2'⟩
    rw [vc] at this
    exact (Option.some.inj this).symm
theorem Inv.wish {T : Nat} {x : Nat → IncV} {s : Sys} {val : BalV → Option IncV} {voted : Nat → BalV → Prop} (h : Inv T x s val voted) {k : Nat} (hk : k < 3) (h1 : (s.pr k).hasD = true) : ∃ i, i < 3 ∧ (s.pr k).dec = x i := by
  obtain ⟨b, vb, _⟩ := h.dec k hk h1
  obtain ⟨_, _, _, i, hi, e⟩ := h.own b _ vb
  exact ⟨i, hi, e⟩

/-- At first. -/
theorem inv_first (x : Nat → IncV) : Inv 0 x ⟨fun k => newM k (x k), fun _ => acc0⟩ (fun _ => none) (fun _ _ => False) where
  who k _ := ⟨rfl, rfl, .inl rfl⟩
  few k _ := ⟨Nat.le_refl 0, Nat.le_refl 0⟩
  vote j _ c h := h.elim
  acc j _ := .inl rfl
  le j _ := leB.refl _
  own b v h := by cases h
  hasV k _ h := by cases h
  hasN k _ _ := rfl
  safe b v h := by cases h
  hear k _ _ j _ h := by cases h
  best k _ _ h := by cases h
  accd k _ j _ h := by cases h
  dec k _ h := by cases h

section
variable {T : Nat} {x : Nat → IncV} {s : Sys} {val : BalV → Option IncV} {voted : Nat → BalV → Prop}

theorem Inv.more (h : Inv T x s val voted) : Inv (T + 1) x s val voted := { h with few := fun k hk => ⟨Nat.le_succ_of_le (h.few k hk).1, Nat.le_succ_of_le (h.few k hk).2⟩ }

/-- A proposer starts anew. -/
theorem Inv.start (h : Inv T x s val voted) (hT : T < 4294967295) {k j : Nat} (hk : k < 3) (hj : j < 3) : Inv (T + 1) x (s.putP k (startM (s.pr k) (s.ac j).pro)) val voted := by
  have hn : nextN (max (s.pr k).b.n (s.ac j).pro.n) = max (s.pr k).b.n (s.ac j).pro.n + 1 := by
    have h1 := (h.few k hk).1
    have h2 := (h.few j hj).2
    unfold nextN
    rw [if_pos (by omega)]
  have hwho := (h.who k hk).1
  have hb : (startM (s.pr k) (s.ac j).pro).b = ⟨max (s.pr k).b.n (s.ac j).pro.n + 1, k⟩ := by
    show BalV.mk (nextN _) _ = _
    rw [hn, hwho]
  have hnone : val ⟨max (s.pr k).b.n (s.ac j).pro.n + 1, k⟩ = none := by
    cases e : val ⟨max (s.pr k).b.n (s.ac j).pro.n + 1, k⟩ with
    | none => rfl
    | some v =>
      have := (h.own _ v e).2.2.1
      simp only at this
      omega
  have hpr : ∀ i, i ≠ k → (s.putP k (startM (s.pr k) (s.ac j).pro)).pr i = s.pr i := fun i e => s.putP_ne e _
  have hpk : (s.putP k (startM (s.pr k) (s.ac j).pro)).pr k = startM (s.pr k) (s.ac j).pro := s.putP_at k _
  refine ⟨fun i hi => ?_, fun i hi => ?_, h.vote, h.acc, h.le, fun b v e => ?_, fun i hi e => ?_, fun i hi e => ?_, h.safe, fun i hi e l hl g => ?_, fun i hi e g => ?_, fun i hi l hl g => ?_, fun i hi g => ?_⟩
  · by_cases e : i = k
    · subst e
      rw [hpk, hb]
      exact ⟨hwho, (h.who i hi).2.1, .inr ⟨rfl, by show 0 < _ + 1; omega⟩⟩
    · rw [hpr i e]
      exact h.who i hi
  · have h2 := (h.few j hj).2
    have h3 := (h.few i hi)
    refine ⟨?_, Nat.le_succ_of_le h3.2⟩
    by_cases e : i = k
    · subst e
      rw [hpk, hb]
      show max _ _ + 1 ≤ T + 1
      omega
    · rw [hpr i e]
      exact Nat.le_succ_of_le h3.1
  · obtain ⟨h1, h2, h3, h4⟩ := h.own b v e
    refine ⟨h1, h2, ?_, h4⟩
    by_cases e' : b.who = k
    · rw [e', hpk, hb]
      rw [e'] at h3
      show _ ≤ max _ _ + 1
      omega
    · rw [hpr _ e']
      exact h3
  · by_cases e' : i = k
    · subst e'
      rw [hpk] at e
      cases e
    · rw [hpr i e'] at e ⊢
      exact h.hasV i hi e
  · by_cases e' : i = k
    · subst e'
      rw [hpk, hb]
      exact hnone
    · rw [hpr i e'] at e ⊢
      exact h.hasN i hi e
  · by_cases e' : i = k
    · subst e'
      rw [hpk] at g
      cases g
    · rw [hpr i e'] at e g ⊢
      exact h.hear i hi e l hl g
  · by_cases e' : i = k
    · subst e'
      rw [hpk] at g
      cases g
    · rw [hpr i e'] at e g ⊢
      exact h.best i hi e g
  · by_cases e' : i = k
    · subst e'
      rw [hpk] at g
      cases g
    · rw [hpr i e'] at g ⊢
      exact h.accd i hi l hl g
  · by_cases e' : i = k
    · subst e'
      rw [hpk] at g ⊢
      exact h.dec i hi g
    · rw [hpr i e'] at g ⊢
      exact h.dec i hi g

/-- An acceptor promises a proposer's ballot. -/
theorem Inv.prep (h : Inv T x s val voted) {k j : Nat} (hk : k < 3) (hj : j < 3) : Inv T x (s.putA j (prepM (s.ac j) (s.pr k).b)) val voted := by
  rcases errP_cases (s.ac j).pro (s.pr k).b with ⟨e, _⟩ | ⟨e, _⟩ | ⟨e, hB, hL⟩
  · have : prepM (s.ac j) (s.pr k).b = s.ac j := by unfold prepM; rw [e]; rfl
    rw [this]
    have : s.putA j (s.ac j) = s := by
      obtain ⟨p, a⟩ := s
      unfold Sys.putA
      congr 1
      funext i
      by_cases e : i = j
      · rw [if_pos e, e]
      · rw [if_neg e]
    rw [this]
    exact h
  · have : prepM (s.ac j) (s.pr k).b = s.ac j := by unfold prepM; rw [e]; rfl
    rw [this]
    have : s.putA j (s.ac j) = s := by
      obtain ⟨p, a⟩ := s
      unfold Sys.putA
      congr 1
      funext i
      by_cases e : i = j
      · rw [if_pos e, e]
      · rw [if_neg e]
    rw [this]
    exact h
  · have hP : prepM (s.ac j) (s.pr k).b = ⟨(s.pr k).b, (s.ac j).acc, (s.ac j).inc⟩ := by unfold prepM; rw [e]; rfl
    have hle : leB (s.ac j).pro (s.pr k).b := less_le.1 hL
    rw [hP]
    have hat : (s.putA j ⟨(s.pr k).b, (s.ac j).acc, (s.ac j).inc⟩).ac j = ⟨(s.pr k).b, (s.ac j).acc, (s.ac j).inc⟩ := s.putA_at j _
    have hne : ∀ i, i ≠ j → (s.putA j ⟨(s.pr k).b, (s.ac j).acc, (s.ac j).inc⟩).ac i = s.ac i := fun i e => s.putA_ne e _
    have hup : ∀ i, leB (s.ac i).pro ((s.putA j ⟨(s.pr k).b, (s.ac j).acc, (s.ac j).inc⟩).ac i).pro := fun i => by
      by_cases e : i = j
      · subst e
        rw [hat]
        exact hle
      · rw [hne i e]
        exact leB.refl _
    have hacc : ∀ i, ((s.putA j ⟨(s.pr k).b, (s.ac j).acc, (s.ac j).inc⟩).ac i).acc = (s.ac i).acc ∧ ((s.putA j ⟨(s.pr k).b, (s.ac j).acc, (s.ac j).inc⟩).ac i).inc = (s.ac i).inc := fun i => by
      by_cases e : i = j
      · subst e
        rw [hat]
        exact ⟨rfl, rfl⟩
      · rw [hne i e]
        exact ⟨rfl, rfl⟩
    refine ⟨h.who, fun i hi => ⟨(h.few i hi).1, ?_⟩, fun i hi c v => ?_, fun i hi => ?_, fun i hi => ?_, h.own, h.hasV, h.hasN, fun b v e c hc hch => h.safe b v e c hc ?_, fun i hi e l hl g => ?_, h.best, h.accd, h.dec⟩
    · by_cases e : i = j
      · subst e
        rw [hat]
        exact (h.few k hk).1
      · rw [hne i e]
        exact (h.few i hi).2
    · rw [(hacc i).1]
      exact h.vote i hi c v
    · rw [(hacc i).1, (hacc i).2]
      exact h.acc i hi
    · rw [(hacc i).1]
      exact (h.le i hi).trans (hup i)
    · obtain ⟨i, i', h1, h2, h3, h4, h5⟩ := hch
      exact ⟨i, i', h1, h2, h3, h4.imp id (fun q => (hup i).trans q), h5.imp id (fun q => (hup i').trans q)⟩
    · have := h.hear i hi e l hl g
      exact ⟨this.1.trans (hup l), this.2⟩

/-- A proposer hears a promise of its ballot. -/
theorem Inv.hears (h : Inv T x s val voted) {k j : Nat} (hk : k < 3) (hj : j < 3) (hV : (s.pr k).hasV = false) (hp : leB (s.pr k).b (s.ac j).pro) (acc : BalV) (y : IncV) (g : Bool)
    (hacc : ∀ c, ltB c (s.pr k).b → voted j c → g = true ∧ leB c acc) (hval : g = true → val acc = some y) : Inv T x (s.putP k (hearM (s.pr k) j acc y g)) val voted := by
  have hpr : ∀ i, i ≠ k → (s.putP k (hearM (s.pr k) j acc y g)).pr i = s.pr i := fun i e => s.putP_ne e _
  have hpk : (s.putP k (hearM (s.pr k) j acc y g)).pr k = hearM (s.pr k) j acc y g := s.putP_at k _
  have hob : ∀ i, ((s.putP k (hearM (s.pr k) j acc y g)).pr i).b = (s.pr i).b := fun i => by
    by_cases e : i = k
    · subst e; rw [hpk]; rfl
    · rw [hpr i e]
  refine ⟨fun i hi => ?_, fun i hi => ?_, h.vote, h.acc, h.le, fun b v e => ?_, fun i hi e => ?_, fun i hi e => ?_, h.safe, fun i hi e l hl q => ?_, fun i hi e q => ?_, fun i hi l hl q => ?_, fun i hi q => ?_⟩
  · by_cases e : i = k
    · subst e; rw [hpk]; exact h.who i hi
    · rw [hpr i e]; exact h.who i hi
  · rw [hob i]; exact h.few i hi
  · obtain ⟨h1, h2, h3, h4⟩ := h.own b v e
    exact ⟨h1, h2, by rw [hob]; exact h3, h4⟩
  · by_cases e' : i = k
    · subst e'; rw [hpk] at e ⊢; exact h.hasV i hi e
    · rw [hpr i e'] at e ⊢; exact h.hasV i hi e
  · by_cases e' : i = k
    · subst e'; rw [hpk] at e ⊢; exact h.hasN i hi e
    · rw [hpr i e'] at e ⊢; exact h.hasN i hi e
  · by_cases e' : i = k
    · subst e'
      rw [hpk] at q ⊢
      have hbest : ∀ c, ((s.pr i).has = true ∧ leB c (s.pr i).best) ∨ (g = true ∧ leB c acc) → (hearM (s.pr i) j acc y g).has = true ∧ leB c (hearM (s.pr i) j acc y g).best := by
        intro c hc
        show ((s.pr i).has || g) = true ∧ leB c (if takes (s.pr i) acc g = true then acc else (s.pr i).best)
        unfold takes
        cases hh : (s.pr i).has <;> cases hg : g
        · rw [hh, hg] at hc
          rcases hc with ⟨a, _⟩ | ⟨a, _⟩ <;> cases a
        · rw [hh] at hc
          rcases hc with ⟨a, _⟩ | ⟨_, a⟩
          · cases a
          · exact ⟨rfl, by rw [if_pos (by simp)]; exact a⟩
        · rw [hg] at hc
          rcases hc with ⟨_, a⟩ | ⟨a, _⟩
          · exact ⟨rfl, by rw [if_neg (by simp)]; exact a⟩
          · cases a
        · refine ⟨rfl, ?_⟩
          cases hl : lessB (s.pr i).best acc
          · rw [if_neg (by simp)]
            rcases hc with ⟨_, a⟩ | ⟨_, a⟩
            · exact a
            · exact a.trans (less_le.1 hl)
          · rw [if_pos (by simp)]
            rcases hc with ⟨_, a⟩ | ⟨_, a⟩
            · have := less_lt.1 hl
              unfold leB ltB at *
              omega
            · exact a
      show leB (s.pr i).b _ ∧ _
      rcases setB_true (f := (s.pr i).heard) (j := j) (i := l) q with e2 | e2
      · subst e2
        exact ⟨hp, fun c hc hv => hbest c (.inr (hacc c hc hv))⟩
      · have := h.hear i hi hV l hl e2
        exact ⟨this.1, fun c hc hv => hbest c (.inl (this.2 c hc hv))⟩
    · rw [hpr i e'] at e q ⊢
      exact h.hear i hi e l hl q
  · by_cases e' : i = k
    · subst e'
      rw [hpk] at q ⊢
      have q' : ((s.pr i).has || g) = true := q
      show val (if takes (s.pr i) acc g = true then acc else (s.pr i).best) = some (if takes (s.pr i) acc g = true then y else (s.pr i).bestX)
      by_cases ht : takes (s.pr i) acc g = true
      · rw [if_pos ht, if_pos ht]
        unfold takes at ht
        exact hval (Bool.and_eq_true_iff.1 ht).1
      · rw [if_neg ht, if_neg ht]
        refine h.best i hi hV ?_
        cases hh : (s.pr i).has with
        | true => rfl
        | false =>
          rw [hh] at q'
          have hg : g = true := q'
          unfold takes at ht
          rw [hh, hg] at ht
          exact absurd rfl ht
    · rw [hpr i e'] at e q ⊢
      exact h.best i hi e q
  · by_cases e' : i = k
    · subst e'; rw [hpk] at q ⊢; exact h.accd i hi l hl q
    · rw [hpr i e'] at q ⊢; exact h.accd i hi l hl q
  · by_cases e' : i = k
    · subst e'; rw [hpk] at q ⊢; exact h.dec i hi q
    · rw [hpr i e'] at q ⊢; exact h.dec i hi q

/-- A proposer that heard two takes its value. -/
theorem Inv.takes (h : Inv T x s val voted) {k : Nat} (hk : k < 3) (hV : (s.pr k).hasV = false) (hb : 0 < (s.pr k).b.n) (h2 : 2 ≤ cnt (s.pr k).heard) :
    Inv T x (s.putP k { s.pr k with value := chosenX (s.pr k), hasV := true }) (fun c => if sameBal c (s.pr k).b = true then some (chosenX (s.pr k)) else val c) voted := by
  have hpr : ∀ i, i ≠ k → (s.putP k { s.pr k with value := chosenX (s.pr k), hasV := true }).pr i = s.pr i := fun i e => s.putP_ne e _
  have hpk : (s.putP k { s.pr k with value := chosenX (s.pr k), hasV := true }).pr k = { s.pr k with value := chosenX (s.pr k), hasV := true } := s.putP_at k _
  have hob : ∀ i, ((s.putP k { s.pr k with value := chosenX (s.pr k), hasV := true }).pr i).b = (s.pr i).b := fun i => by
    by_cases e : i = k
    · subst e; rw [hpk]
    · rw [hpr i e]
  have hold := h.hasN k hk hV
  have hnew : ∀ c v, val c = some v → (if sameBal c (s.pr k).b = true then some (chosenX (s.pr k)) else val c) = some v := fun c v e => by
    rw [if_neg ?_]
    · exact e
    · intro hs
      rw [sameBal_is] at hs
      rw [hs, hold] at e
      cases e
  have hkb : (s.pr k).b.who = k := by
    rcases (h.who k hk).2.2 with e | e
    · rw [e] at hb
      exact absurd hb (by decide)
    · exact e.1
  have hoth : ∀ i, i < 3 → i ≠ k → sameBal (s.pr i).b (s.pr k).b = true → False := fun i hi e hs => by
    rw [sameBal_is] at hs
    rcases (h.who i hi).2.2 with q | q
    · rw [← hs, q] at hb
      exact absurd hb (by decide)
    · rw [hs] at q
      omega
  have hwish : ∃ i, i < 3 ∧ chosenX (s.pr k) = x i := by
    unfold chosenX
    by_cases q : (s.pr k).has = true
    · rw [if_pos q]
      obtain ⟨_, _, _, i, hi, e⟩ := h.own _ _ (h.best k hk hV q)
      exact ⟨i, hi, e⟩
    · rw [if_neg q]
      exact ⟨k, hk, (h.who k hk).2.1⟩
  refine ⟨fun i hi => ?_, fun i hi => ?_, fun i hi c v => ?_, fun i hi => ?_, h.le, fun b v e => ?_, fun i hi e => ?_, fun i hi e => ?_, fun b v e c hc hch => ?_, fun i hi e l hl q => ?_, fun i hi e q => ?_, fun i hi l hl q => ?_, fun i hi q => ?_⟩
  · by_cases e : i = k
    · subst e; rw [hpk]; exact h.who i hi
    · rw [hpr i e]; exact h.who i hi
  · rw [hob i]; exact h.few i hi
  · obtain ⟨h1, v', h2⟩ := h.vote i hi c v
    exact ⟨h1, v', hnew c v' h2⟩
  · rcases h.acc i hi with e | ⟨e, e'⟩
    · exact .inl e
    · exact .inr ⟨e, hnew _ _ e'⟩
  · by_cases hs : sameBal b (s.pr k).b = true
    · rw [if_pos hs] at e
      have e' := (sameBal_is _ _).1 hs
      rw [e', hkb, hob]
      exact ⟨hk, hb, Nat.le_refl _, by obtain ⟨i, hi, q⟩ := hwish; exact ⟨i, hi, by rw [← Option.some.inj e]; exact q⟩⟩
    · rw [if_neg hs] at e
      obtain ⟨h1, h2, h3, h4⟩ := h.own b v e
      exact ⟨h1, h2, by rw [hob]; exact h3, h4⟩
  · by_cases e' : i = k
    · subst e'
      rw [hpk]
      show (if sameBal (s.pr i).b (s.pr i).b = true then _ else _) = _
      rw [if_pos (same_self _)]
    · rw [hpr i e'] at e ⊢
      exact hnew _ _ (h.hasV i hi e)
  · by_cases e' : i = k
    · subst e'
      rw [hpk] at e
      cases e
    · rw [hpr i e'] at e ⊢
      rw [if_neg (fun hs => hoth i hi e' hs)]
      exact h.hasN i hi e
  · have hch' : Choos s voted c := hch
    by_cases hs : sameBal b (s.pr k).b = true
    · rw [if_pos hs] at e
      have e' := (sameBal_is _ _).1 hs
      subst e'
      obtain ⟨j1, j2, hj1, hj2, hj12, g1, g2⟩ := cnt_two h2
      have hvj : ∃ j, j < 3 ∧ (s.pr k).heard j = true ∧ voted j c := by
        obtain ⟨i1, i2, hi1, hi2, hi12, q1, q2⟩ := hch'
        have key : ∀ j, j < 3 → (s.pr k).heard j = true → voted j c ∨ leB (s.ac j).pro c → voted j c := fun j hj hh q => by
          rcases q with q | q
          · exact q
          · exact (lt_not_le hc ((h.hear k hk hV j hj hh).1.trans q)).elim
        rcases two_meet hi1 hi2 hj1 hj2 hi12 hj12 with rfl | rfl | rfl | rfl
        · exact ⟨i1, hi1, g1, key i1 hi1 g1 q1⟩
        · exact ⟨i1, hi1, g2, key i1 hi1 g2 q1⟩
        · exact ⟨i2, hi2, g1, key i2 hi2 g1 q2⟩
        · exact ⟨i2, hi2, g2, key i2 hi2 g2 q2⟩
      obtain ⟨j, hj, hh, hvo⟩ := hvj
      obtain ⟨hhas, hle⟩ := (h.hear k hk hV j hj hh).2 c hc hvo
      have hbv := h.best k hk hV hhas
      have hv : v = (s.pr k).bestX := by
        rw [← Option.some.inj e]
        unfold chosenX
        rw [if_pos hhas]
      rw [hv]
      refine hnew c _ ?_
      rcases hle.or with rfl | hlt
      · exact hbv
      · exact h.safe _ _ hbv c hlt hch'
    · rw [if_neg hs] at e
      exact hnew c v (h.safe b v e c hc hch')
  · by_cases e' : i = k
    · subst e'
      rw [hpk] at e
      cases e
    · rw [hpr i e'] at e q ⊢
      exact h.hear i hi e l hl q
  · by_cases e' : i = k
    · subst e'
      rw [hpk] at e
      cases e
    · rw [hpr i e'] at e q ⊢
      exact hnew _ _ (h.best i hi e q)
  · by_cases e' : i = k
    · subst e'
      rw [hpk] at q ⊢
      exact ⟨(h.accd i hi l hl q).1, rfl⟩
    · rw [hpr i e'] at q ⊢
      exact h.accd i hi l hl q
  · by_cases e' : i = k
    · subst e'
      rw [hpk] at q ⊢
      obtain ⟨b, h1, h2⟩ := h.dec i hi q
      exact ⟨b, hnew _ _ h1, h2⟩
    · rw [hpr i e'] at q ⊢
      obtain ⟨b, h1, h2⟩ := h.dec i hi q
      exact ⟨b, hnew _ _ h1, h2⟩

/-- An acceptor accepts a proposer's value. -/
theorem Inv.votes (h : Inv T x s val voted) {k j : Nat} (hk : k < 3) (hj : j < 3) (hV : (s.pr k).hasV = true) (hB : isB (s.pr k).b = true) (hL : lessB (s.pr k).b (s.ac j).pro = false) :
    Inv T x (s.putA j ⟨(s.pr k).b, (s.pr k).b, (s.pr k).value⟩) val (fun i c => voted i c ∨ (i = j ∧ c = (s.pr k).b)) := by
  have hle : leB (s.ac j).pro (s.pr k).b := less_le.1 hL
  have hat : (s.putA j ⟨(s.pr k).b, (s.pr k).b, (s.pr k).value⟩).ac j = ⟨(s.pr k).b, (s.pr k).b, (s.pr k).value⟩ := s.putA_at j _
  have hne : ∀ i, i ≠ j → (s.putA j ⟨(s.pr k).b, (s.pr k).b, (s.pr k).value⟩).ac i = s.ac i := fun i e => s.putA_ne e _
  have hval := h.hasV k hk hV
  have hup : ∀ i, leB (s.ac i).pro ((s.putA j ⟨(s.pr k).b, (s.pr k).b, (s.pr k).value⟩).ac i).pro := fun i => by
    by_cases e : i = j
    · subst e
      rw [hat]
      exact hle
    · rw [hne i e]
      exact leB.refl _
  refine ⟨h.who, fun i hi => ⟨(h.few i hi).1, ?_⟩, fun i hi c v => ?_, fun i hi => ?_, fun i hi => ?_, h.own, h.hasV, h.hasN, fun b v e c hc hch => h.safe b v e c hc ?_, fun i hi e l hl g => ?_, h.best, fun i hi l hl q => ?_, fun i hi q => ?_⟩
  · by_cases e : i = j
    · subst e
      rw [hat]
      exact (h.few k hk).1
    · rw [hne i e]
      exact (h.few i hi).2
  · by_cases e : i = j
    · subst e
      rw [hat]
      rcases v with v | ⟨_, rfl⟩
      · obtain ⟨h1, h2⟩ := h.vote i hi c v
        exact ⟨(h1.trans (h.le i hi)).trans hle, h2⟩
      · exact ⟨leB.refl _, _, hval⟩
    · rw [hne i e]
      rcases v with v | ⟨e', _⟩
      · exact h.vote i hi c v
      · exact absurd e' e
  · by_cases e : i = j
    · subst e
      rw [hat]
      exact .inr ⟨hB, hval⟩
    · rw [hne i e]
      exact h.acc i hi
  · by_cases e : i = j
    · subst e
      rw [hat]
      exact leB.refl _
    · rw [hne i e]
      exact h.le i hi
  · have key : ∀ i, i < 3 → ((voted i c ∨ (i = j ∧ c = (s.pr k).b)) ∨ leB ((s.putA j ⟨(s.pr k).b, (s.pr k).b, (s.pr k).value⟩).ac i).pro c) → voted i c ∨ leB (s.ac i).pro c := fun i hi q => by
      rcases q with (q | ⟨rfl, rfl⟩) | q
      · exact .inl q
      · exact .inr hle
      · exact .inr ((hup i).trans q)
    obtain ⟨i, i', h1, h2, h3, h4, h5⟩ := hch
    exact ⟨i, i', h1, h2, h3, key i h1 h4, key i' h2 h5⟩
  · have := h.hear i hi e l hl g
    refine ⟨this.1.trans (hup l), fun c hc hv => ?_⟩
    rcases hv with hv | ⟨rfl, rfl⟩
    · exact this.2 c hc hv
    · exact (lt_not_le hc (this.1.trans hle)).elim
  · have := h.accd i hi l hl q
    exact ⟨.inl this.1, this.2⟩
  · obtain ⟨b, h1, i', j', a1, a2, a3, a4, a5⟩ := h.dec i hi q
    exact ⟨b, h1, i', j', a1, a2, a3, .inl a4, .inl a5⟩

/-- A proposer is told that its value was accepted. -/
theorem Inv.told (h : Inv T x s val voted) {k j : Nat} (hk : k < 3) (hj : j < 3) (hv : voted j (s.pr k).b) : Inv T x (s.putP k (accdM (s.pr k) j (s.pr k).b).1) val voted := by
  obtain ⟨q, hq⟩ : ∃ q, (accdM (s.pr k) j (s.pr k).b).1 = q := ⟨_, rfl⟩
  rw [hq]
  have hpr : ∀ i, i ≠ k → (s.putP k q).pr i = s.pr i := fun i e => s.putP_ne e _
  have hpk : (s.putP k q).pr k = q := s.putP_at k _
  have hall : q.who = (s.pr k).who ∧ q.want = (s.pr k).want ∧ q.b = (s.pr k).b ∧ q.heard = (s.pr k).heard ∧ q.best = (s.pr k).best ∧ q.bestX = (s.pr k).bestX ∧ q.has = (s.pr k).has ∧ q.value = (s.pr k).value ∧ q.hasV = (s.pr k).hasV := by
    rw [← hq]
    unfold accdM
    split
    · exact ⟨rfl, rfl, rfl, rfl, rfl, rfl, rfl, rfl, rfl⟩
    · split <;> exact ⟨rfl, rfl, rfl, rfl, rfl, rfl, rfl, rfl, rfl⟩
  obtain ⟨e1, e2, e3, e4, e5, e6, e7, e8, e9⟩ := hall
  have hacc : ∀ l, l < 3 → q.accd l = true → voted l (s.pr k).b ∧ (s.pr k).hasV = true := by
    intro l hl g
    rw [← hq] at g
    unfold accdM at g
    cases hd : deafA (s.pr k) j (s.pr k).b with
    | true =>
      rw [if_pos hd] at g
      exact h.accd k hk l hl g
    | false =>
      rw [if_neg (by rw [hd]; decide)] at g
      have hVt : (s.pr k).hasV = true := by
        unfold deafA at hd
        simp only [Bool.or_eq_false_iff, Bool.not_eq_false'] at hd
        exact hd.2.2.2.2
      have g' : setB (s.pr k).accd j l = true := by
        split at g <;> exact g
      rcases setB_true g' with rfl | g''
      · exact ⟨hv, hVt⟩
      · exact h.accd k hk l hl g''
  have hdec : q.hasD = true → ∃ b, val b = some q.dec ∧ ∃ i j, i < 3 ∧ j < 3 ∧ i ≠ j ∧ voted i b ∧ voted j b := by
    intro g
    rw [← hq] at g ⊢
    unfold accdM at g ⊢
    by_cases hd' : deafA (s.pr k) j (s.pr k).b = true
    · rw [if_pos hd'] at g ⊢
      exact h.dec k hk g
    · have hd : deafA (s.pr k) j (s.pr k).b = false := by rw [← Bool.not_eq_true]; exact hd'
      rw [if_neg hd'] at g ⊢
      by_cases hc : cnt (setB (s.pr k).accd j) < 2 ∨ (s.pr k).told = true
      · rw [if_pos hc] at g ⊢
        exact h.dec k hk g
      · rw [if_neg hc] at g ⊢
        have hVt : (s.pr k).hasV = true := by
          unfold deafA at hd
          simp only [Bool.or_eq_false_iff, Bool.not_eq_false'] at hd
          exact hd.2.2.2.2
        obtain ⟨i, i', hi, hi', hne, g1, g2⟩ := cnt_two (f := setB (s.pr k).accd j) (by omega)
        have key : ∀ l, l < 3 → setB (s.pr k).accd j l = true → voted l (s.pr k).b := fun l hl g => by
          rcases setB_true g with rfl | g''
          · exact hv
          · exact (h.accd k hk l hl g'').1
        exact ⟨(s.pr k).b, h.hasV k hk hVt, i, i', hi, hi', hne, key i hi g1, key i' hi' g2⟩
  refine ⟨fun i hi => ?_, fun i hi => ?_, h.vote, h.acc, h.le, fun b v e => ?_, fun i hi e => ?_, fun i hi e => ?_, h.safe, fun i hi e l hl g => ?_, fun i hi e g => ?_, fun i hi l hl g => ?_, fun i hi g => ?_⟩
  · by_cases e : i = k
    · subst e; rw [hpk, e1, e2, e3]; exact h.who i hi
    · rw [hpr i e]; exact h.who i hi
  · by_cases e : i = k
    · subst e; rw [hpk, e3]; exact h.few i hi
    · rw [hpr i e]; exact h.few i hi
  · obtain ⟨h1, h2, h3, h4⟩ := h.own b v e
    refine ⟨h1, h2, ?_, h4⟩
    by_cases e' : b.who = k
    · rw [e', hpk, e3, ← e']; exact h3
    · rw [hpr _ e']; exact h3
  · by_cases e' : i = k
    · subst e'; rw [hpk, e9] at e; rw [hpk, e3, e8]; exact h.hasV i hi e
    · rw [hpr i e'] at e ⊢; exact h.hasV i hi e
  · by_cases e' : i = k
    · subst e'; rw [hpk, e9] at e; rw [hpk, e3]; exact h.hasN i hi e
    · rw [hpr i e'] at e ⊢; exact h.hasN i hi e
  · by_cases e' : i = k
    · subst e'; rw [hpk] at e g ⊢; rw [e9] at e; rw [e4] at g; rw [e3, e5, e7]; exact h.hear i hi e l hl g
    · rw [hpr i e'] at e g ⊢; exact h.hear i hi e l hl g
  · by_cases e' : i = k
    · subst e'; rw [hpk] at e g ⊢; rw [e9] at e; rw [e7] at g; rw [e5, e6]; exact h.best i hi e g
    · rw [hpr i e'] at e g ⊢; exact h.best i hi e g
  · by_cases e' : i = k
    · subst e'; rw [hpk] at g ⊢; rw [e3, e9]; exact hacc l hl g
    · rw [hpr i e'] at g ⊢; exact h.accd i hi l hl g
  · by_cases e' : i = k
    · subst e'; rw [hpk] at g ⊢; exact hdec g
    · rw [hpr i e'] at g ⊢; exact h.dec i hi g
end

/-- What holds, whatever stands behind it. -/
def Good11 (T : Nat) (x : Nat → IncV) (s : Sys) : Prop := ∃ val voted, Inv T x s val voted

theorem Good11.first (x : Nat → IncV) : Good11 0 x ⟨fun k => newM k (x k), fun _ => acc0⟩ := ⟨_, _, inv_first x⟩
theorem Good11.more {T : Nat} {x : Nat → IncV} {s : Sys} (h : Good11 T x s) : Good11 (T + 1) x s := by
  obtain ⟨val, voted, h⟩ := h
  exact ⟨val, voted, h.more⟩
theorem Good11.start {T : Nat} {x : Nat → IncV} {s : Sys} (h : Good11 T x s) (hT : T < 4294967295) {k j : Nat} (hk : k < 3) (hj : j < 3) : Good11 (T + 1) x (s.putP k (startM (s.pr k) (s.ac j).pro)) := by
  obtain ⟨val, voted, h⟩ := h
  exact ⟨val, voted, h.start hT hk hj⟩
theorem Good11.prep {T : Nat} {x : Nat → IncV} {s : Sys} (h : Good11 T x s) {k j : Nat} (hk : k < 3) (hj : j < 3) : Good11 T x (s.putA j (prepM (s.ac j) (s.pr k).b)) := by
  obtain ⟨val, voted, h⟩ := h
  exact ⟨val, voted, h.prep hk hj⟩
theorem put_same (s : Sys) (k : Nat) : s.putP k (s.pr k) = s := by
  obtain ⟨p, a⟩ := s
  unfold Sys.putP
  congr 1
  funext i
  by_cases e : i = k
  · rw [if_pos e, e]
  · rw [if_neg e]
theorem put_sameA (s : Sys) (k : Nat) : s.putA k (s.ac k) = s := by
  obtain ⟨p, a⟩ := s
  unfold Sys.putA
  congr 1
  funext i
  by_cases e : i = k
  · rw [if_pos e, e]
  · rw [if_neg e]
theorem put_put (s : Sys) (k : Nat) (p q : ProV) : (s.putP k p).putP k q = s.putP k q := by
  unfold Sys.putP
  congr 1
  funext i
  by_cases e : i = k
  · simp [e]
  · simp [e]

/-- A promise that is heard: prepared, and told what was accepted. -/
theorem Good11.prom {T : Nat} {x : Nat → IncV} {s : Sys} (h : Good11 T x s) {k j : Nat} (hk : k < 3) (hj : j < 3) (he : errP (s.ac j).pro (s.pr k).b = 0) :
    Good11 T x ((s.putA j (prepM (s.ac j) (s.pr k).b)).putP k (promM (s.pr k) j (s.pr k).b (tellB (s.ac j) (s.pr k).b) (tellX (s.ac j) (s.pr k).b) (tellH (s.ac j) (s.pr k).b)).1) := by
  obtain ⟨val, voted, h0⟩ := h
  have h1 := h0.prep hk hj
  obtain ⟨hB, hL⟩ : isB (s.pr k).b = true ∧ lessB (s.pr k).b (s.ac j).pro = false := by
    rcases errP_cases (s.ac j).pro (s.pr k).b with ⟨e, _⟩ | ⟨e, _⟩ | ⟨_, e1, e2⟩
    · omega
    · omega
    · exact ⟨e1, e2⟩
  have hT : tellB (s.ac j) (s.pr k).b = (s.ac j).acc ∧ tellX (s.ac j) (s.pr k).b = (s.ac j).inc ∧ tellH (s.ac j) (s.pr k).b = hasA (s.ac j) := by
    unfold tellB tellX tellH
    rw [he]
    exact ⟨rfl, rfl, rfl⟩
  rw [hT.1, hT.2.1, hT.2.2]
  have hP : prepM (s.ac j) (s.pr k).b = ⟨(s.pr k).b, (s.ac j).acc, (s.ac j).inc⟩ := by unfold prepM; rw [he]; rfl
  rw [hP] at h1 ⊢
  have hprk : (s.putA j ⟨(s.pr k).b, (s.ac j).acc, (s.ac j).inc⟩).pr k = s.pr k := rfl
  have hacj : (s.putA j ⟨(s.pr k).b, (s.ac j).acc, (s.ac j).inc⟩).ac j = ⟨(s.pr k).b, (s.ac j).acc, (s.ac j).inc⟩ := s.putA_at j _
  have hva := h0.acc j hj
  have hvo := h0.vote j hj
  generalize s.putA j ⟨(s.pr k).b, (s.ac j).acc, (s.ac j).inc⟩ = s1 at *
  unfold promM
  cases hd : deaf (s.pr k) j (s.pr k).b with
  | true =>
    rw [if_pos rfl, ← hprk, put_same]
    exact ⟨val, voted, h1⟩
  | false =>
    have hV : (s1.pr k).hasV = false := by
      rw [hprk]
      unfold deaf at hd
      simp only [Bool.or_eq_false_iff] at hd
      exact hd.2.2.2.2
    have h2 := h1.hears hk hj hV (by rw [hprk, hacj]; exact leB.refl _) (s.ac j).acc (s.ac j).inc (hasA (s.ac j)) (fun c hc hv => by
        have h4 := (hvo c hv).1
        refine ⟨?_, h4⟩
        unfold hasA
        cases hs : sameBal (s.ac j).acc bal0 with
        | false => rfl
        | true =>
          rw [sameBal_is] at hs
          rw [hs] at h4
          obtain ⟨v, hv'⟩ := (hvo c hv).2
          have := (h0.own c v hv').2.1
          unfold leB bal0 at h4
          simp only at h4
          omega) (fun g => by
        rcases hva with e | ⟨_, e⟩
        · unfold hasA at g
          rw [e, same_self] at g
          cases g
        · exact e)
    rw [if_neg (by decide)]
    rw [hprk] at h2
    by_cases hc : cnt (setB (s.pr k).heard j) < 2
    · rw [if_pos hc]
      exact ⟨val, voted, h2⟩
    · rw [if_neg hc]
      have h3 := h2.takes hk (by rw [Sys.putP_at]; rw [hprk] at hV; exact hV) (by rw [Sys.putP_at]; show 0 < (s.pr k).b.n; exact ((isB_is _).1 hB).1) (by rw [Sys.putP_at]; show 2 ≤ cnt (setB (s.pr k).heard j); omega)
      rw [Sys.putP_at, put_put] at h3
      exact ⟨_, _, h3⟩

/-- A value that is accepted, and told or not. -/
theorem Good11.acc {T : Nat} {x : Nat → IncV} {s : Sys} (h : Good11 T x s) {k j : Nat} (hk : k < 3) (hj : j < 3) (hV : (s.pr k).hasV = true) :
    Good11 T x (s.putA j (accM (s.ac j) (s.pr k).b (s.pr k).value)) ∧
    (errA (s.ac j).pro (s.pr k).b (s.pr k).value = 0 → Good11 T x ((s.putA j (accM (s.ac j) (s.pr k).b (s.pr k).value)).putP k (accdM (s.pr k) j (s.pr k).b).1)) := by
  obtain ⟨val, voted, h0⟩ := h
  rcases errA_cases (s.ac j).pro (s.pr k).b (s.pr k).value with ⟨e, _⟩ | ⟨e, _⟩ | ⟨e, _, hB, hL⟩
  · have : accM (s.ac j) (s.pr k).b (s.pr k).value = s.ac j := by unfold accM; rw [e]; rfl
    rw [this, put_sameA]
    exact ⟨⟨val, voted, h0⟩, fun e' => by omega⟩
  · have : accM (s.ac j) (s.pr k).b (s.pr k).value = s.ac j := by unfold accM; rw [e]; rfl
    rw [this, put_sameA]
    exact ⟨⟨val, voted, h0⟩, fun e' => by omega⟩
  · have : accM (s.ac j) (s.pr k).b (s.pr k).value = ⟨(s.pr k).b, (s.pr k).b, (s.pr k).value⟩ := by unfold accM; rw [e]; rfl
    rw [this]
    have h1 := h0.votes hk hj hV hB hL
    exact ⟨⟨_, _, h1⟩, fun _ => ⟨_, _, h1.told hk hj (.inr ⟨rfl, rfl⟩)⟩⟩
theorem Good11.agree {T : Nat} {x : Nat → IncV} {s : Sys} (h : Good11 T x s) {k l : Nat} (hk : k < 3) (hl : l < 3) (h1 : (s.pr k).hasD = true) (h2 : (s.pr l).hasD = true) : (s.pr k).dec = (s.pr l).dec := by
  obtain ⟨val, voted, h⟩ := h
  exact h.agree hk hl h1 h2
theorem Good11.wish {T : Nat} {x : Nat → IncV} {s : Sys} (h : Good11 T x s) {k : Nat} (hk : k < 3) (h1 : (s.pr k).hasD = true) : ∃ i, i < 3 ∧ (s.pr k).dec = x i := by
  obtain ⟨val, voted, h⟩ := h
  exact h.wish hk h1
end Go.Proofs.Ythpmkhbkbpifkaa
