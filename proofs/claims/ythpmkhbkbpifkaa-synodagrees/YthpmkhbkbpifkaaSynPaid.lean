/- Package synod answers as it has to: ProSpec paid. -/
import Derived.Test.YthpmkhbkbpifkaaSynFace
namespace Go.Proofs.Ythpmkhbkbpifkaa
set_option linter.unusedSimpArgs false
set_option linter.unusedVariables false
set_option maxRecDepth 100000
open Go.RowKit

/-- What the landed proposer's cells tell of the document's. -/
structure Rel (c : LanV) (v : ProV) : Prop where
  who : c.who = v.who
  want : c.want = v.want
  b : c.b = v.b
  dec : c.dec = v.dec
  isD : c.isD = v.hasD
  isV : c.isV = v.hasV
  accOk : BalOk c.acc
  bndOk : IncOk c.bound
  valOk : IncOk c.value
  val : v.hasV = true → c.value = v.value
  ph : (c.phase = 0 ∧ v.b = bal0 ∧ v.hasV = false) ∨
    (c.phase = 1 ∧ v.b ≠ bal0 ∧ v.hasV = false ∧ (∀ j, j < 3 → c.heard j = v.heard j) ∧ c.isB = v.has ∧ (v.has = true → c.acc = v.best ∧ c.bound = v.bestX) ∧ (∀ j, j < 3 → v.accd j = false) ∧ v.told = false) ∨
    (c.phase = 2 ∧ v.b ≠ bal0 ∧ v.hasV = true ∧ (∀ j, j < 3 → c.heard j = v.accd j) ∧ v.told = false) ∨
    (c.phase = 3 ∧ v.hasV = true ∧ v.told = true)

theorem Rel.phase {c : LanV} {v : ProV} (h : Rel c v) : c.phase < 256 := by
  rcases h.ph with h | h | h | h <;> omega

theorem cnt_same {f g : Nat → Bool} (h : ∀ j, j < 3 → f j = g j) : cnt f = cnt g := by
  unfold cnt
  rw [h 0 (by decide), h 1 (by decide), h 2 (by decide)]
theorem setB_same {f g : Nat → Bool} (h : ∀ j, j < 3 → f j = g j) (k j : Nat) (hj : j < 3) : setB f k j = setB g k j := by
  unfold setB
  split
  · rfl
  · exact h j hj
theorem sameBal_comm (a b : BalV) : sameBal a b = sameBal b a := by
  rw [Bool.eq_iff_iff, sameBal_is, sameBal_is]
  exact ⟨Eq.symm, Eq.symm⟩
theorem sameBal_no {a b : BalV} (h : a ≠ b) : sameBal a b = false := by
  rw [← Bool.not_eq_true, sameBal_is]
  exact h

theorem rel_new (k : Nat) (x : IncV) (hx : IncOk x) : Rel (fresh k x bal0 0 inc0 false) (newM k x) :=
  ⟨rfl, rfl, rfl, rfl, rfl, rfl, bal0_ok, inc0_ok, inc0_ok, (fun h => by cases h), .inl ⟨rfl, rfl, rfl⟩⟩

theorem next_pos (n : Nat) : 0 < nextN n := by
  unfold nextN
  split <;> omega
theorem rel_start {c : LanV} {v : ProV} (o : BalV) (h : Rel c v) : Rel (startL c o) (startM v o) := by
  refine ⟨h.who, h.want, ?_, h.dec, h.isD, rfl, bal0_ok, inc0_ok, inc0_ok, (fun h => by cases h), .inr (.inl ⟨rfl, ?_, rfl, fun _ _ => rfl, rfl, (fun h => by cases h), fun _ _ => rfl, rfl⟩)⟩
  · show (⟨nextN (max c.b.n o.n), c.who⟩ : BalV) = ⟨nextN (max v.b.n o.n), v.who⟩
    rw [h.b, h.who]
  · intro e
    have : nextN (max v.b.n o.n) = 0 := congrArg BalV.n e
    have := next_pos (max v.b.n o.n)
    omega

theorem deaf_same {c : LanV} {v : ProV} (h : Rel c v) (j : Nat) (b : BalV) : deafL c 1 j b = deaf v j b := by
  unfold deafL deaf
  rw [h.b]
  rcases h.ph with ⟨h1, h2, h3⟩ | ⟨h1, h2, h3, h4, _⟩ | ⟨h1, h2, h3, _⟩ | ⟨h1, h3, _⟩
  · rw [h1, h2]
    rfl
  · rw [h1, h3, sameBal_no h2, sameBal_comm b v.b]
    by_cases hj : j < 3
    · rw [h4 j hj]
      simp
    · simp [show 3 ≤ j by omega]
  · rw [h1, h3]
    simp
  · rw [h1, h3]
    simp
theorem deafA_same {c : LanV} {v : ProV} (h : Rel c v) (hp : c.phase ≠ 3) (j : Nat) (b : BalV) : deafL c 2 j b = deafA v j b := by
  unfold deafL deafA
  rw [h.b]
  rcases h.ph with ⟨h1, h2, h3⟩ | ⟨h1, h2, h3, h4, _⟩ | ⟨h1, h2, h3, h4, _⟩ | ⟨h1, h3, _⟩
  · rw [h1, h2]
    rfl
  · rw [h1, h3]
    simp
  · rw [h1, h3, sameBal_no h2, sameBal_comm b v.b]
    by_cases hj : j < 3
    · rw [h4 j hj]
      simp
    · simp [show 3 ≤ j by omega]
  · exact absurd h1 hp

theorem more_same {c : LanV} {v : ProV} (h : Rel c v) (hp : c.phase = 1) (j : Nat) (acc : BalV) (x : IncV) (g : Bool) (ha : BalOk acc) (hx : IncOk x) : Rel (moreL c j acc x g) (hearM v j acc x g) ∧ (moreL c j acc x g).phase = 1 ∧ (moreL c j acc x g).isB = (hearM v j acc x g).has ∧ ((hearM v j acc x g).has = true → (moreL c j acc x g).bound = (hearM v j acc x g).bestX) := by
  rcases h.ph with ⟨h1, h2, h3⟩ | ⟨h1, h2, h3, h4, h5, h6, h7, h8⟩ | ⟨h1, h2, h3, h4, _⟩ | ⟨h1, h3, _⟩
  · omega
  · have hs := setB_same h4 j
    cases g with
    | false =>
      have e1 : takes v acc false = false := rfl
      have e2 : hearM v j acc x false = { v with heard := setB v.heard j } := by
        unfold hearM
        rw [e1]
        simp
      have e3 : moreL c j acc x false = { c with heard := setB c.heard j } := rfl
      rw [e2, e3]
      refine ⟨⟨h.who, h.want, h.b, h.dec, h.isD, h.isV, h.accOk, h.bndOk, h.valOk, h.val, .inr (.inl ⟨h1, h2, h3, hs, h5, h6, h7, h8⟩)⟩, h1, h5, fun hh => (h6 hh).2⟩
    | true =>
      cases ht : takes v acc true with
      | true =>
        have e1 : takesL { c with heard := setB c.heard j } acc = true := by
          unfold takes at ht
          unfold takesL
          show (!c.isB || lessB c.acc acc) = true
          rw [h5]
          cases hv : v.has with
          | false => rfl
          | true =>
            rw [hv] at ht
            rw [(h6 hv).1]
            exact ht
        have e2 : hearM v j acc x true = { v with heard := setB v.heard j, best := acc, bestX := x, has := true } := by
          unfold hearM
          rw [ht]
          simp
        have e3 : moreL c j acc x true = { c with heard := setB c.heard j, acc := acc, bound := x, isB := true } := by
          show weighL _ _ _ = _
          unfold weighL
          rw [if_pos e1]
        rw [e2, e3]
        exact ⟨⟨h.who, h.want, h.b, h.dec, h.isD, h.isV, ha, hx, h.valOk, h.val, .inr (.inl ⟨h1, h2, h3, hs, rfl, fun _ => ⟨rfl, rfl⟩, h7, h8⟩)⟩, h1, rfl, fun _ => rfl⟩
      | false =>
        have hv : v.has = true := by
          cases hv : v.has with
          | false => unfold takes at ht; rw [hv] at ht; cases ht
          | true => rfl
        have e1 : takesL { c with heard := setB c.heard j } acc = false := by
          unfold takes at ht
          unfold takesL
          show (!c.isB || lessB c.acc acc) = false
          rw [h5, hv, (h6 hv).1]
          rw [hv] at ht
          exact ht
        have e2 : hearM v j acc x true = { v with heard := setB v.heard j } := by
          unfold hearM
          rw [ht, hv]
          simp [hv]
        have e3 : moreL c j acc x true = { c with heard := setB c.heard j } := by
          show weighL _ _ _ = _
          unfold weighL
          rw [if_neg (by rw [e1]; decide)]
        rw [e2, e3]
        exact ⟨⟨h.who, h.want, h.b, h.dec, h.isD, h.isV, h.accOk, h.bndOk, h.valOk, h.val, .inr (.inl ⟨h1, h2, h3, hs, h5, h6, h7, h8⟩)⟩, h1, h5, fun hh => (h6 hh).2⟩
  · omega
  · omega

theorem rel_prom {c : LanV} {v : ProV} (h : Rel c v) (hv : ProOk v) (j : Nat) (b acc : BalV) (x : IncV) (g : Bool) (ha : BalOk acc) (hx : IncOk x) : Rel (promL c j b acc x g).1 (promM v j b acc x g).1 ∧ (promL c j b acc x g).2 = (promM v j b acc x g).2 := by
  unfold promL promM
  rw [deaf_same h]
  by_cases hd : deaf v j b = true
  · rw [if_pos hd, if_pos hd]
    exact ⟨h, rfl⟩
  · rw [if_neg hd, if_neg hd]
    have hp1 : c.phase = 1 := by
      rw [← deaf_same h] at hd
      unfold deafL at hd
      simp at hd
      exact hd.1
    rcases h.ph with ⟨h1, _⟩ | ⟨h1, h2, h3, h4, h5, h6, h7, h8⟩ | ⟨h1, _⟩ | ⟨h1, _⟩
    · omega
    · rw [cnt_same (setB_same h4 j)]
      obtain ⟨hr, hr1, hr2, hr3⟩ := more_same h hp1 j acc x g ha hx
      by_cases hc : cnt (setB v.heard j) < 2
      · rw [if_pos hc, if_pos hc]
        exact ⟨hr, rfl⟩
      · rw [if_neg hc, if_neg hc]
        refine ⟨?_, rfl⟩
        have hch : (if (moreL c j acc x g).isB = true then (moreL c j acc x g).bound else (moreL c j acc x g).want) = chosenX (hearM v j acc x g) := by
          unfold chosenX
          rw [hr2]
          by_cases hh : (hearM v j acc x g).has = true
          · rw [if_pos hh, if_pos hh, hr3 hh]
          · rw [if_neg hh, if_neg hh, hr.want]
        have hok : IncOk (chosenX (hearM v j acc x g)) := by
          have hh := hear_ok (j := j) (g := g) hv ha hx
          unfold chosenX
          split
          · exact hh.bestX
          · exact hh.want
        have ha0 : ∀ k, k < 3 → none3 k = (hearM v j acc x g).accd k := fun k hk => (h7 k hk).symm
        refine ⟨hr.who, hr.want, hr.b, hr.dec, hr.isD, rfl, hr.accOk, hr.bndOk, ?_, fun _ => hch, .inr (.inr (.inl ⟨rfl, h2, rfl, ha0, h8⟩))⟩
        show IncOk (if _ then _ else _)
        rw [hch]
        exact hok
    · omega
    · omega

theorem rel_accd {c : LanV} {v : ProV} (h : Rel c v) (j : Nat) (b : BalV) : Rel (accL c j b).1 (accdM v j b).1 ∧ (accL c j b).2 = (accdM v j b).2 := by
  by_cases h3 : c.phase = 3
  · have hd : deafL c 2 j b = true := by
      unfold deafL
      rw [h3]
      rfl
    have e : accL c j b = (c, false) := by
      unfold accL
      rw [if_pos hd]
    rw [e]
    rcases h.ph with ⟨h1, _⟩ | ⟨h1, _⟩ | ⟨h1, _⟩ | ⟨h1, h2, h4⟩
    · omega
    · omega
    · omega
    · unfold accdM
      split
      · exact ⟨h, rfl⟩
      · rw [if_pos (.inr h4)]
        exact ⟨⟨h.who, h.want, h.b, h.dec, h.isD, h.isV, h.accOk, h.bndOk, h.valOk, h.val, .inr (.inr (.inr ⟨h1, h2, h4⟩))⟩, rfl⟩
  · unfold accL accdM
    rw [deafA_same h h3]
    by_cases hd : deafA v j b = true
    · rw [if_pos hd, if_pos hd]
      exact ⟨h, rfl⟩
    · rw [if_neg hd, if_neg hd]
      have hp2 : c.phase = 2 := by
        rw [← deafA_same h h3] at hd
        unfold deafL at hd
        simp at hd
        exact hd.1
      rcases h.ph with ⟨h1, _⟩ | ⟨h1, _⟩ | ⟨h1, h2, h4, h5, h6⟩ | ⟨h1, _⟩
      · omega
      · omega
      · rw [cnt_same (setB_same h5 j)]
        by_cases hc : cnt (setB v.accd j) < 2
        · rw [if_pos hc, if_pos (.inl hc)]
          exact ⟨⟨h.who, h.want, h.b, h.dec, h.isD, h.isV, h.accOk, h.bndOk, h.valOk, h.val, .inr (.inr (.inl ⟨h1, h2, h4, setB_same h5 j, h6⟩))⟩, rfl⟩
        · rw [if_neg hc, if_neg (by rw [h6]; rintro (q | q); exact hc q; cases q)]
          exact ⟨⟨h.who, h.want, h.b, h.val h4, h.isV.trans h4, h.isV, h.accOk, h.bndOk, h.valOk, h.val, .inr (.inr (.inr ⟨rfl, h4, rfl⟩))⟩, rfl⟩
      · omega

def IsPro (w : World) (p : Nat) (v : ProV) (F : Nat → Prop) : Prop := (∃ c, Has w p 70 (lanC c) ∧ Rel c v) ∧ ProOk v ∧ F = fun k => k = p

theorem pro_paid : ProSpec IsPro where
  kept := by
    rintro w w' p v F ⟨⟨c, hc, hr⟩, ho, rfl⟩ hk
    exact ⟨⟨c, (hk p rfl).trans hc, hr⟩, ho, rfl⟩
  lt := by
    rintro w p v F ⟨⟨c, hc, hr⟩, ho, rfl⟩ b rfl
    exact hc.lt
  ok := fun h => h.2.1
  new := by
    intro who x w hw hx
    refine (snew_any who x w).mono ?_
    rintro e w' ⟨p, rfl, hp, hA, hb⟩
    exact ⟨p, _, rfl, ⟨⟨_, hA, rel_new who x hx⟩, new_ok hw hx, rfl⟩, fun b hb => by rw [hb]; exact hp, hb⟩
  start := by
    rintro w p v F o ⟨⟨c, hc, hr⟩, ho, rfl⟩ hok
    refine (sstart_any p c o w hc (by rw [hr.b]; exact ho.b) hok).mono ?_
    rintro e w' ⟨rfl, hA, hb⟩
    have hr2 := rel_start o hr
    exact ⟨by rw [hr2.b], ⟨_, ⟨⟨_, hA, hr2⟩, start_ok ho hok, rfl⟩, fun b h => .inl h⟩, OffF.but hb⟩
  promise := by
    rintro w p v F j b acc x g ⟨⟨c, hc, hr⟩, ho, rfl⟩ hj hb ha hx
    refine (spromise_any p c j b acc x g w hc hr.phase (by rw [hr.b]; exact ho.b) hr.accOk hj hb ha).mono ?_
    rintro e w' ⟨rfl, hA, hbt⟩
    obtain ⟨r1, r2⟩ := rel_prom hr ho j b acc x g ha hx
    exact ⟨by rw [r2], ⟨_, ⟨⟨_, hA, r1⟩, prom_ok ho ha hx, rfl⟩, fun b h => .inl h⟩, OffF.but hbt⟩
  value := by
    rintro w p v F ⟨⟨c, hc, hr⟩, ho, rfl⟩
    refine (svalue_any p c w hc).mono ?_
    rintro e w' ⟨rfl, hb⟩
    exact ⟨c.value, by rw [hr.isV], hr.valOk, hr.val, hb⟩
  accepted := by
    rintro w p v F j b ⟨⟨c, hc, hr⟩, ho, rfl⟩ hj hb
    refine (saccepted_any p c j b w hc hr.phase (by rw [hr.b]; exact ho.b) hj hb).mono ?_
    rintro e w' ⟨rfl, hA, hbt⟩
    obtain ⟨r1, r2⟩ := rel_accd hr j b
    exact ⟨by rw [r2], ⟨_, ⟨⟨_, hA, r1⟩, accd_ok ho, rfl⟩, fun b h => .inl h⟩, OffF.but hbt⟩
  ballot := by
    rintro w p v F ⟨⟨c, hc, hr⟩, ho, rfl⟩
    refine (sballot_any p c w hc).mono ?_
    rintro e w' ⟨rfl, hb⟩
    exact ⟨by rw [hr.b], hb⟩
  decided := by
    rintro w p v F ⟨⟨c, hc, hr⟩, ho, rfl⟩
    refine (sdecided_any p c w hc).mono ?_
    rintro e w' ⟨rfl, hb⟩
    exact ⟨c.dec, by rw [hr.isD], by rw [hr.dec]; exact ho.dec, fun _ => hr.dec, hb⟩
  quorum := fun w => squorum_any w
end Go.Proofs.Ythpmkhbkbpifkaa
