/- The contract of paddocklaw9.both: two histories of what comes of a row of increments, side by side. -/
import Derived.Test.YtlbokkbngbpmiaaChooseFacts
import Derived.Test.YtlbokkbngbpmiaaHistSpec
import Derived.Test.YtlbokkbngbpmiaaRefAdd
namespace Go.Proofs.Ytlbokkbngbpmiaa
set_option linter.unusedSimpArgs false
set_option linter.unusedVariables false
set_option maxRecDepth 100000
open Go.RowKit

/-- Two histories of the same increments, in blocks of their own. -/
structure Two9 (Is : World → Nat → List IncV → (Nat → Prop) → Prop) (B : Nat) (w : World) (p r : Nat) (xs : List IncV) (F G : Nat → Prop) : Prop where
  h : Is w p xs F
  r : IsR w r xs G
  hF : ∀ b, F b → B ≤ b
  hG : ∀ b, G b → B ≤ b
  apart : ∀ b, F b → ¬ G b
theorem Two9.later {Is : World → Nat → List IncV → (Nat → Prop) → Prop} (S : HistSpec Is) {B : Nat} {w w' : World} {p r : Nat} {xs : List IncV} {F G : Nat → Prop} (t : Two9 Is B w p r xs F G) (hb : Below w.heap.size w w') : Two9 Is B w' p r xs F G :=
  ⟨S.later t.h hb, isR_later t.r hb, t.hF, t.hG, t.apart⟩
theorem Two9.left {Is : World → Nat → List IncV → (Nat → Prop) → Prop} (S : HistSpec Is) {B : Nat} {w w' : World} {p r : Nat} {xs ys : List IncV} {F G F' : Nat → Prop} (t : Two9 Is B w p r xs F G) (hB : B ≤ w.heap.size) (ho : Off F w w') (h : Is w' p ys F') (hF' : ∀ b, F' b → F b ∨ w.heap.size ≤ b) :
    IsR w' r xs G ∧ (∀ b, F' b → B ≤ b) ∧ ∀ b, F' b → ¬ G b := by
  refine ⟨isR_off t.r ho (fun b hG hF => t.apart b hF hG), fun b hb => ?_, fun b hb hG => ?_⟩
  · rcases hF' b hb with h | h
    · exact t.hF b h
    · omega
  · rcases hF' b hb with h | h
    · exact t.apart b h hG
    · have := isR_lt t.r b hG; omega
theorem Two9.right {Is : World → Nat → List IncV → (Nat → Prop) → Prop} (S : HistSpec Is) {B : Nat} {w w' : World} {p r : Nat} {ys : List IncV} {F G G' : Nat → Prop} (hh : Is w p ys F) (hF : ∀ b, F b → B ≤ b) (hG : ∀ b, G b → B ≤ b) (hd : ∀ b, F b → ¬ G b) (hB : B ≤ w.heap.size) (ho : Off G w w') (h : IsR w' r ys G') (hG' : ∀ b, G' b → G b ∨ w.heap.size ≤ b) :
    Two9 Is B w' p r ys F G' := by
  refine ⟨S.off hh ho hd, h, hF, fun b hb => ?_, fun b hb hg => ?_⟩
  · rcases hG' b hb with h | h
    · exact hG b h
    · omega
  · rcases hG' b hg with h | h
    · exact hd b hb h
    · have := S.lt hh b hb; omega

set_option maxHeartbeats 8000000 in
theorem both_any {Is : World → Nat → List IncV → (Nat → Prop) → Prop} (S : HistSpec Is) (ao : Option Addr) (c : Nat) (l : List IncV) (w : World) (hS : Sl w ao c 3 (incR l)) (hl : ∀ x ∈ l, IncOk x) (h25 : l.length ≤ 25) :
    Calls Try.prog 11 #[.slice ao l.length c] w fun e w' => ∃ p r F G, e = .returned (.tuple #[ptr p, ptr r]) ∧ Two9 Is w.heap.size w' p r (takeH l l.length) F G ∧ Below w.heap.size w w' := by
  have hcap := hS.cap
  have hle := hS.le
  rw [incR_len] at hle
  have h25' : (l.length : Int) ≤ 25 := by omega
  go_enter Try.func11, Try.ntmps11
  go_wp2_with fail
  refine (S.new _).mono ?_
  rintro e w2 ⟨p, F, rfl, hH, hF, hb⟩
  have hT0 : Two9 Is w.heap.size (w2.alloc (.cells #[.slice none 0 0] 81)) p w2.heap.size [] F (fun k => k = w2.heap.size) :=
    ⟨S.later hH ((Below.refl _ _).alloc (Nat.le_refl _) _), isR_new w2, hF, fun b hb' => by have h0 : b = w2.heap.size := hb'; have := hb.size; omega, fun b hb' hg => by have h0 : b = w2.heap.size := hg; have := S.lt hH b hb'; omega⟩
  have hb0 := hb.alloc hb.size (.cells #[.slice none 0 0] 81)
  have hpt : ptr p = .pointer (some ⟨p, 0, none⟩) := rfl
  rw [hpt]
  obtain ⟨w3, hw3⟩ : ∃ W, w2.alloc (.cells #[.slice none 0 0] 81) = W := ⟨_, rfl⟩
  rw [hw3] at hT0 hb0
  obtain ⟨r, hr⟩ : ∃ r, r = w2.heap.size := ⟨_, rfl⟩
  have hrt : ptr r = .pointer (some ⟨r, 0, none⟩) := rfl
  go_wp2
  rw [← hr] at hT0 ⊢
  clear hr hH hb
  go_loopw [6] (fun i wr => ∃ (n : Nat) (F G : Nat → Prop), n ≤ l.length ∧ i = .int .i64 n ∧ Two9 Is w.heap.size wr p r (takeH l n) F G ∧ Below w.heap.size w wr) (fun i _ => l.length - (intOf i).toNat)
  case atStart => exact ⟨0, F, _, Nat.zero_le _, rfl, hT0, hb0⟩
  case round =>
    clear hT0 hb0 hF
    obtain ⟨n, F1, G1, hn, rfl, hT, hb⟩ := hrel
    by_cases hlt : n < l.length
    · have hnI : (n : Int) < (l.length : Int) := by omega
      have hxn := hl l[n] (List.getElem_mem hlt)
      have hts : Hid _ := takeH_succ hlt
      have hln := takeH_le9 l n
      cases ao with
      | none => have h1 := hS.nil rfl; omega
      | some ad =>
        have hci : ∀ W, Below w.heap.size w W → ∀ j v, (incC l[n]).toList[j]? = some v → W.cell? ((ad.add (n * 3)).add j) = some v := fun W hW => incR_at (hS.later hW) n hlt
        generalize l[n] = x at *
        generalize takeH l n = xs at *
        obtain ⟨m, hm⟩ : ∃ m, m = xs.length + 1 := ⟨_, rfl⟩
        have hm' : Hid (m = xs.length + 1) := hm
        have hmb : m < 1000 := by omega
        have hraw : Hid _ := u32_next hmb
        have hlast := fun {w} (h : Is w p xs F1) => S.last h
        rw [← hm] at hlast
        have hadd := fun {w} (h : Is w p xs F1) => S.add (m + 1) x h (by omega) hxn
        have hradd := fun {w} (h : IsR w r xs G1) => radd_any (m + 1) x w h (by omega) hxn
        rw [show m + 1 = xs.length + 2 by omega] at hadd hradd
        have hmi : ((xs.length + 2 : Nat) : Int) = ((m + 1 : Nat) : Int) := by omega
        rw [hmi] at hadd hradd
        have hl59 := lenH (S.good hT.h)
        clear hm hmi
        rw [hpt] at hlast hadd
        rw [hrt] at hradd
        go_wp2
        refine wp_region_plan (fun W => Below w.heap.size w W) (Plan.of [(0, true), (1, true), (4, true), (5, true), (6, true), (7, true), (2, false), (3, true), (8, false)] .done) (by kernel_rfl) (by kernel_rfl) (by kernel_rfl) (by kernel_rfl) hb.drew ?_
        iterate 5
          first
            | (refine plan_pass _ rfl (by rfl) ?_)
            | (refine plan_take _ _ rfl (.inl ⟨by rfl, fun W hS => by clear hS; go_simp; try with_reducible rfl⟩) ?_)
          try simp only [Act.put, List.setIfInBounds_toArray, List.set_cons_zero, List.set_cons_succ]
        refine plan_take _ _ rfl (yields_inc_at x (by rfl) _ rfl (ad.add (n * 3)) rfl hci) ?_
        try simp only [Act.put, List.setIfInBounds_toArray, List.set_cons_zero, List.set_cons_succ]
        refine plan_run _ rfl (fun K hK => ?_)
        go_simp
        have hT2 := hT.later S (Below.refl _ wr).drew
        refine (hlast hT2.h).mono ?_
        rintro e w4 ⟨rfl, hq⟩
        replace hT2 := hT2.later S hq
        have hb2 := hb.drew.trans (hq.mono hb.size)
        refine hK.out _ _ hb2 ?_
        clear hK K hq hT hb
        first
          | (refine plan_pass _ rfl (by rfl) ?_)
          | (refine plan_take _ _ rfl (.inl ⟨by rfl, fun W hS => by clear hS; go_simp; try with_reducible rfl⟩) ?_)
        try simp only [Act.put, List.setIfInBounds_toArray, List.set_cons_zero, List.set_cons_succ]
        refine plan_run _ rfl (fun K hK => ?_)
        go_simp
        rw [hraw.out]
        refine (hadd hT2.h).mono ?_
        rintro e w5 ⟨rfl, ⟨F2, hH3, hF2⟩, hoff⟩
        obtain ⟨hR3, hF3, hd3⟩ := hT2.left S hb2.size hoff hH3 hF2
        have hG3 := hT2.hG
        have hb3 : Below w.heap.size w w5 := hb2.trans (hoff.below hT2.hF hb2.size)
        refine hK.out _ _ hb3 ?_
        clear hK K hoff hT2 hF2 hb2 hlast hadd
        refine plan_done ?_
        rw [← hts.out] at hH3
        go_wp2
        refine wp_region_plan (fun W => Below w.heap.size w W) (Plan.of [(0, true), (1, true), (4, true), (5, true), (6, true), (7, true), (2, false), (3, true), (8, false)] .done) (by kernel_rfl) (by kernel_rfl) (by kernel_rfl) (by kernel_rfl) hb3.drew ?_
        iterate 5
          first
            | (refine plan_pass _ rfl (by rfl) ?_)
            | (refine plan_take _ _ rfl (.inl ⟨by rfl, fun W hS => by clear hS; go_simp; try with_reducible rfl⟩) ?_)
          try simp only [Act.put, List.setIfInBounds_toArray, List.set_cons_zero, List.set_cons_succ]
        refine plan_take _ _ rfl (yields_inc_at x (by rfl) _ rfl (ad.add (n * 3)) rfl hci) ?_
        try simp only [Act.put, List.setIfInBounds_toArray, List.set_cons_zero, List.set_cons_succ]
        have hR4 := isR_later hR3 (Below.refl _ w5).drew
        obtain ⟨_, lo, lc, hP4, _⟩ := isR_get hR4
        have hrl := rlast_any r lo lc xs _ hP4 (by omega)
        rw [← hm'.out, hrt] at hrl
        refine plan_run _ rfl (fun K hK => ?_)
        go_simp
        refine hrl.mono ?_
        rintro e w6 ⟨rfl, rfl⟩
        refine hK.out _ _ hb3.drew ?_
        clear hK K hrl hP4 hR3
        first
          | (refine plan_pass _ rfl (by rfl) ?_)
          | (refine plan_take _ _ rfl (.inl ⟨by rfl, fun W hS => by clear hS; go_simp; try with_reducible rfl⟩) ?_)
        try simp only [Act.put, List.setIfInBounds_toArray, List.set_cons_zero, List.set_cons_succ]
        refine plan_run _ rfl (fun K hK => ?_)
        go_simp
        rw [hraw.out]
        refine (hradd hR4).mono ?_
        rintro e w7 ⟨rfl, ⟨G2, hR5, hG2⟩, hoff⟩
        rw [← hts.out] at hR5
        have hH5 := S.later hH3 (Below.refl _ w5).drew
        have hT7 := Two9.right S hH5 hF3 hG3 hd3 hb3.size hoff hR5 hG2
        have hb7 : Below w.heap.size w w7 := hb3.drew.trans (hoff.below hG3 hb3.size)
        refine hK.out _ _ hb7 ?_
        clear hK K hoff hR4 hR5 hH3 hH5 hG2 hb3 hradd
        refine plan_done ?_
        go_wp2
        go_roundw
        case rel => exact ⟨n + 1, F2, G2, by omega, by go_num, hT7, hb7⟩
        case measure => simp [intOf]; omega
    · have e5 : n = l.length := by omega
      subst e5
      go_wp2
      go_ret2
      exact ⟨p, r, F1, G1, rfl, hT, hb⟩
end Go.Proofs.Ytlbokkbngbpmiaa
