/- The contracts of Acting, Intervals and Since, at the landed code. -/
import Derived.Test.YtlbokkbngbpmiaaHistIs
import Derived.Test.YtlbokkbngbpmiaaIvRow
import Derived.Test.YtlbokkbngbpmiaaPackPlace
import Derived.Test.YtlbokkbngbpmiaaSlicesEq
namespace Go.Proofs.Ytlbokkbngbpmiaa
set_option linter.unusedSimpArgs false
set_option linter.unusedVariables false
set_option maxRecDepth 100000
open Go.RowKit

theorem look_at {xs : List IncV} {q : Nat} (h1 : 1 ≤ q) (h2 : q ≤ xs.length + 1) : lookN 1 (xs.length + 1) (epF xs) (.agg (mapC zeroM)) q = .agg (mapC (mapH xs (q - 1))) := by
  rw [look_ep, mapE_yes ⟨h1, h2⟩]

set_option maxHeartbeats 1000000 in
theorem acting_at (p b c g : Nat) (xs : List IncV) (w : World) (h : IsAt w p b c xs) (hg : g < 256) : Calls Try.prog 26 #[ptr p, .int .u8 g] w fun en w' => ∃ ao d, en = .returned (.slice ao (nowH xs g).length d) ∧ Ix w' ao d (nowH xs g) ∧ Below w.heap.size w w' ∧ ∀ ad, ao = some ad → w.heap.size ≤ ad.block := by
  have hpt : ptr p = .pointer (some ⟨p, 0, none⟩) := rfl
  have hok := okH h.good xs.length (Nat.le_refl _)
  have hS0 : ∀ W, Below w.heap.size w W → IsAt W p b c xs := fun W hW => h.later hW
  have hnow : nowH xs g = actM (mapH xs xs.length) g := now_is xs g
  rw [hnow, hpt]
  obtain ⟨m, hm⟩ : ∃ m, m = xs.length + 1 := ⟨_, rfl⟩
  have hlast := last_at p b c xs w.drew h.drew
  rw [← hm, hpt] at hlast
  have hlook := look_at (xs := xs) (q := m) (by omega) (by omega)
  rw [show m - 1 = xs.length by omega] at hlook
  clear hm
  go_enter Try.func26, Try.ntmps26
  go_wp2
  refine wp_region_plan (fun W => Below w.heap.size w W) (Plan.of [(0, true), (1, true), (2, true), (3, true), (4, true), (7, true), (5, false), (6, true), (8, false), (9, true)] .done) (by kernel_rfl) (by kernel_rfl) (by kernel_rfl) (by kernel_rfl) (Below.refl _ w).drew ?_
  iterate 3
    first
      | (refine plan_pass _ rfl (by rfl) ?_)
      | (refine plan_take _ _ rfl (.inl ⟨by rfl, fun W hS => by clear hS; go_simp; try with_reducible rfl⟩) ?_)
    try simp only [Act.put, List.setIfInBounds_toArray, List.set_cons_zero, List.set_cons_succ]
  iterate 1
    first
      | (refine plan_pass _ rfl (by rfl) ?_)
      | (refine plan_take _ _ rfl (.inl ⟨by rfl, fun W hS => by have z1 := (hS0 W hS).c0; go_simp; try with_reducible rfl⟩) ?_)
    try simp only [Act.put, List.setIfInBounds_toArray, List.set_cons_zero, List.set_cons_succ]
  iterate 2
    first
      | (refine plan_pass _ rfl (by rfl) ?_)
      | (refine plan_take _ _ rfl (.inl ⟨by rfl, fun W hS => by clear hS; go_simp; try with_reducible rfl⟩) ?_)
    try simp only [Act.put, List.setIfInBounds_toArray, List.set_cons_zero, List.set_cons_succ]
  refine plan_run _ rfl (fun K hK => ?_)
  go_simp
  refine hlast.mono ?_
  rintro e w1 ⟨rfl, rfl⟩
  refine hK.out _ _ (Below.refl _ w).drew ?_
  clear hK K hlast
  refine plan_take _ _ rfl (yields_look (by rfl) 108 _ _ rfl rfl m rfl (fun W hS => (hS0 W hS).eps) _ _ under_mm Try.underlying25 _ zero_map _ hlook) ?_
  try simp only [Act.put, List.setIfInBounds_toArray, List.set_cons_zero, List.set_cons_succ]
  refine plan_run _ rfl (fun K hK => ?_)
  go_simp
  refine (acting_fresh (mapH xs xs.length) g _ hok hg).mono ?_
  rintro e w2 ⟨ao, d, rfl, hI, hq, hf⟩
  have hb2 : Below w.heap.size w w2 := (Below.refl _ w).drew.trans (hq.mono (Nat.le_refl _))
  refine hK.out _ _ hb2 ?_
  clear hK K hq
  iterate 1
    first
      | (refine plan_pass _ rfl (by rfl) ?_)
      | (refine plan_take _ _ rfl (.inl ⟨by rfl, fun W hS => by clear hS; go_simp; try with_reducible rfl⟩) ?_)
    try simp only [Act.put, List.setIfInBounds_toArray, List.set_cons_zero, List.set_cons_succ]
  refine plan_done ?_
  go_wp2
  go_ret
  exact ⟨ao, d, rfl, hI, hb2, hf⟩

set_option maxHeartbeats 4000000 in
theorem intervals_at (p b c g : Nat) (xs : List IncV) (w : World) (h : IsAt w p b c xs) (hg : g < 256) : Calls Try.prog 37 #[ptr p, .int .u8 g] w fun en w' => ∃ ao d, en = .returned (.slice ao (ivals xs g).length d) ∧ Iv w' ao d (ivals xs g) ∧ Below w.heap.size w w' := by
  obtain ⟨i0, hi, hz0, hz1, hz2⟩ := info_parts Try.infoIv
  have hpt : ptr p = .pointer (some ⟨p, 0, none⟩) := rfl
  rw [hpt]
  have hl := lenH h.good
  by_cases hg4 : (4 : Int) ≤ (g : Int)
  · have hno : ivals xs g = [] := if_neg (by omega)
    go_enter Try.func37, Try.ntmps37
    go_wp2
    go_ret
    exact ⟨none, 0, by rw [hno]; rfl, by rw [hno]; exact Iv.nothing _, Below.refl _ _⟩
  · have hyes : Hid (ivals xs g = ivPre xs g (xs.length + 1)) := if_pos (by omega)
    have hg4' : (g : Int) < 4 := by omega
    clear hg4
    obtain ⟨m, hm⟩ : ∃ m, m = xs.length + 1 := ⟨_, rfl⟩
    have hlast := fun W (hW : IsAt W p b c xs) => last_at p b c xs W hW
    rw [← hm, hpt] at hlast
    have hm' : Hid (m = xs.length + 1) := hm
    have hmI : (m : Int) ≤ 60 := by omega
    have hm60 : m ≤ 60 := by omega
    clear hm
    go_enter Try.func37, Try.ntmps37
    go_wp2
    go_loopw [5, 6] (fun v i wr => ∃ (q : Nat) (vs : List IvE), 1 ≤ q ∧ q ≤ m + 1 ∧ i = .int .u32 q ∧ ivOf vs = ivPre xs g (q - 1) ∧ IvOwn wr w.heap.size v vs ∧ Below w.heap.size w wr) (fun _ i _ => m + 1 - (intOf i).toNat)
    case atStart => exact ⟨1, [], by omega, by omega, rfl, rfl, IvOwn.nil _ _, Below.refl _ _⟩
    case round =>
      obtain ⟨q, vs, hq1, hq2, rfl, hvs, hO, hb⟩ := hrel
      have hI := h.later hb
      have hlen := ivPre_len xs g (q - 1)
      rw [← hvs, ivOf_len] at hlen
      go_wp2_with fail
      refine (hlast _ hI).mono ?_
      rintro e w1 ⟨rfl, rfl⟩
      by_cases hqm : q ≤ m
      · have hqmI : (q : Int) ≤ (m : Int) := by omega
        have hlook := look_at (xs := xs) (q := q) hq1 (by have := hm'.out; omega)
        have hok := okH h.good (q - 1) (by have := hm'.out; omega)
        have c0 := hI.c0
        have heps := hI.eps
        have hqI : (1 : Int) ≤ (q : Int) := by omega
        have hlq : vs.length ≤ 60 := by omega
        have hbs := hb.size
        clear hlast
        go_wp2_with (first
          | (refine wpList_look (by rfl) 108 _ _ rfl rfl q rfl heps _ _ under_mm Try.underlying25 _ zero_map _ hlook ?_))
        refine (acting_fresh (mapH xs (q - 1)) g _ hok hg).mono ?_
        rintro e w2 ⟨ao, d, rfl, hAW, hq, hf⟩
        have hap : 0 < (actM (mapH xs (q - 1)) g).length → ∀ ad, ao = some ad → u5.ownBlock ≠ some ad.block := fun _ ad had e2 => by
          have h1 := (hO.own.lt _ e2).2
          have h2 := hf ad had
          omega
        have hOW := hO.later hq
        have hbW := hb.trans (hq.mono hb.size)
        clear hq hf hO heps c0 hlook hI hb
        have hact : Hid (actH xs (q - 1) g = actM (mapH xs (q - 1)) g) := rfl
        generalize actM (mapH xs (q - 1)) g = A at *
        by_cases hq0 : q = 1
        · have hv0 : vs = [] := by
            have e1 := hvs
            rw [hq0] at e1
            have := congrArg List.length e1
            rw [ivOf_len] at this
            exact List.eq_nil_of_length_eq_zero this
          subst hv0
          have hnew : Hid (ivPre xs g q = ivPre xs g (q - 1) ++ [(q, A)]) := by
            have e2 := hact.out
            rw [hq0] at e2
            show ivPre xs g q = _
            rw [hq0, ivPre_1, e2]
            rfl
          obtain ⟨vo, vc, hv, _⟩ := hOW.iv
          have hv : u5 = .slice vo 0 vc := hv
          subst hv
          clear hq0
          go_wp2_with (at_builtin; refine wpList_append_own_at _ rfl _ _ 34 rfl w.heap.size 38 i0 (.agg #[.int .u32 0, .slice none 0 0]) 2 32 Try.underlying34 hi hz0 hz1 hz2 rfl (by decide) _ ([] : List IvE).length _ rfl (hOW.own.alloc _) ⟨(w2).heap.size, 0, none⟩ 1 1 (cellsI ⟨q, ao, d, A⟩) rfl rfl (newI _ _ ⟨q, ao, d, A⟩) (oneI _) (by unfold maxLen; omega) (by omega) (by have := hbW.size; simp; omega) ?_)
          intro v' w5 hown5 hgrow _ hat
          have hbs5 := hbW.size
          have hb5 : Below w.heap.size w w5 := (hbW.alloc hbW.size _).grown hgrow (by simp; omega) (fun k hk => (hOW.own.lt k hk).1)
          have hO5 := hOW.snoc (x := ⟨q, ao, d, A⟩) hAW hap hown5 rfl rfl hgrow hat
          have hvs5 : ivOf (([] : List IvE) ++ [⟨q, ao, d, A⟩]) = ivPre xs g q := by rw [ivOf_snoc, hnew.out, hvs]
          clear hown5 hgrow hat hOW hAW
          go_wp2
          go_roundw
          case rel => exact ⟨q + 1, _, by omega, by omega, by go_num, hvs5, hO5, hb5⟩
          case measure => simp [intOf]; omega
        · obtain ⟨j, hj⟩ : ∃ j, Hid (q = j + 2) := ⟨q - 2, by show q = q - 2 + 2; omega⟩
          have hj1 : q - 1 = j + 1 := by have := hj.out; omega
          obtain ⟨l, s, hls⟩ := ivPre_last xs g j
          rw [hj1] at hvs hact
          clear hj1
          have hA1 := hact.out
          obtain ⟨vo, vc, hv, hV⟩ := hOW.iv
          have hvl : vs.length = l.length + 1 := by rw [← ivOf_len, hvs, hls]; simp
          rw [hvs, hls] at hV
          obtain ⟨ad, rfl, cs, bo, dd, cl, hL⟩ := iv_end hV
          have hcap := hV.cap
          have hle := hV.le
          rw [List.length_append, List.length_singleton] at hle
          have hl60 : l.length ≤ 60 := by omega
          have hlI : (l.length : Int) ≤ 60 := by omega
          rw [hvl] at hv
          subst hv
          have hvl' : Hid (vs.length = l.length + 1) := hvl
          clear hvl hV cs hq0
          have hB : Hid (actH xs j g = actH xs j g) := rfl
          generalize hBe : actH xs j g = B at hL cl
          replace hBe : Hid (actH xs j g = B) := hBe
          clear hB hA1 hls
          generalize l.length = n0 at *
          go_wp2_with fail
          refine (equal_any ao bo d dd A B w2 hAW hL).mono ?_
          rintro e w3 ⟨rfl, nn, hw3⟩
          replace hAW : Ix w3 ao d A := hw3 ▸ hAW.drewN nn
          replace hOW : IvOwn w3 w.heap.size (.slice (some ad) (n0 + 1) vc) vs := hw3 ▸ hOW.drewN nn
          replace hbW : Below w.heap.size w w3 := hw3 ▸ ⟨hbW.os, hbW.tape, hbW.output, hbW.size, hbW.block⟩
          clear hL cl hw3
          by_cases hAB : A = B
          · have hd : decide (A = B) = true := decide_eq_true hAB
            have hsame : Hid (ivPre xs g q = ivPre xs g (j + 1)) := by
              show _ = _
              rw [hj.out, ivPre_same (by rw [hBe.out, hact.out, hAB])]
            rw [hd]
            clear hAB hd hj
            go_wp2
            go_roundw
            case rel => exact ⟨q + 1, vs, by omega, by omega, by go_num, by rw [show q + 1 - 1 = q from rfl, hsame.out, hvs], hOW, hbW⟩
            case measure => simp [intOf]; omega
          · have hd : decide (A = B) = false := decide_eq_false hAB
            have hnew : Hid (ivPre xs g q = ivPre xs g (j + 1) ++ [(q, A)]) := by
              show _ = _
              rw [hj.out, ivPre_new (by rw [hBe.out, hact.out]; exact fun e => hAB e.symm), hact.out]
            rw [hd]
            clear hAB hd hj
            go_wp2_with (at_builtin; refine wpList_append_own_at _ rfl _ _ 34 rfl w.heap.size 38 i0 (.agg #[.int .u32 0, .slice none 0 0]) 2 32 Try.underlying34 hi hz0 hz1 hz2 rfl (by decide) _ (vs).length _ rfl (hOW.own.alloc _) ⟨(w3).heap.size, 0, none⟩ 1 1 (cellsI ⟨q, ao, d, A⟩) rfl rfl (newI _ _ ⟨q, ao, d, A⟩) (oneI _) (by unfold maxLen; omega) (by omega) (by have := hbW.size; simp; omega) ?_)
            intro v' w5 hown5 hgrow _ hat
            have hbs5 := hbW.size
            have hb5 : Below w.heap.size w w5 := (hbW.alloc hbW.size _).grown hgrow (by simp; omega) (fun k hk => (hOW.own.lt k hk).1)
            have hO5 := hOW.snoc (x := ⟨q, ao, d, A⟩) hAW hap hown5 rfl rfl hgrow hat
            have hvs5 : ivOf ((vs) ++ [⟨q, ao, d, A⟩]) = ivPre xs g q := by rw [ivOf_snoc, hnew.out, hvs]
            clear hown5 hgrow hat hOW hAW
            go_wp2
            go_roundw
            case rel => exact ⟨q + 1, _, by omega, by omega, by go_num, hvs5, hO5, hb5⟩
            case measure => simp [intOf]; omega
      · have hqmI : (m : Int) < (q : Int) := by omega
        have e1 : q - 1 = xs.length + 1 := by have := hm'.out; omega
        obtain ⟨vo, vc, rfl, hV⟩ := hO.iv
        rw [hvs, e1, ← hyes.out] at hV
        have hln : Hid (vs.length = (ivals xs g).length) := by show _ = _; rw [← ivOf_len, hvs, e1, ← hyes.out]
        clear hlast e1
        go_wp2
        go_ret
        exact ⟨vo, vc, by rw [← hln.out]; rfl, hV, hb⟩

theorem since_iv {xs : List IncV} {g : Nat} (h : g < 4) : ∃ l s a, ivals xs g = l ++ [(s, a)] ∧ sinceH xs g = s := by
  obtain ⟨l, s, hl, _, _⟩ := ivTo_last xs g xs.length
  have hi : ivals xs g = l ++ [(s, actH xs xs.length g)] := by unfold ivals; rw [if_pos h, hl]
  refine ⟨l, s, _, hi, ?_⟩
  unfold sinceH
  rw [hi]
  simp

set_option maxHeartbeats 1000000 in
theorem since_at (p b c g : Nat) (xs : List IncV) (w : World) (h : IsAt w p b c xs) (hg : g < 256) : Calls Try.prog 29 #[ptr p, .int .u8 g] w fun en w' => en = .returned (.int .u32 (sinceH xs g : Nat)) ∧ Below w.heap.size w w' := by
  have hpt : ptr p = .pointer (some ⟨p, 0, none⟩) := rfl
  have hl := lenH h.good
  have hiv := intervals_at p b c g xs w h hg
  rw [hpt] at hiv
  rw [hpt]
  go_enter Try.func29, Try.ntmps29
  go_wp2_with fail
  refine hiv.mono ?_
  rintro e w1 ⟨ao, d, rfl, hV, hb⟩
  clear hiv
  by_cases hg4 : g < 4
  · obtain ⟨l, s, a, hi, hs⟩ := since_iv (xs := xs) hg4
    have hs' : Hid (sinceH xs g = s) := hs
    have hln : l.length ≤ 60 := by
      have h1 : (ivals xs g).length ≤ xs.length + 1 := by unfold ivals; rw [if_pos hg4]; exact ivTo_len xs g _
      rw [hi] at h1
      simp at h1
      omega
    rw [hi] at hV
    rw [hi, List.length_append, List.length_singleton]
    obtain ⟨ad, rfl, cs, _⟩ := iv_end hV
    have hcap := hV.cap
    have hle := hV.le
    rw [List.length_append, List.length_singleton] at hle
    have hlI : (l.length : Int) ≤ 60 := by omega
    clear hs hi hV hg4
    generalize l.length = n0 at *
    go_wp2
    go_ret
    exact ⟨by rw [hs'.out]; rfl, hb⟩
  · have hno : ivals xs g = [] := if_neg hg4
    have hs : Hid (sinceH xs g = 0) := by show _ = _; unfold sinceH; rw [hno]; rfl
    rw [hno]
    have hle := hV.cap
    clear hno hV hg4
    go_wp2
    go_ret
    exact ⟨by rw [hs.out]; rfl, hb⟩
end Go.Proofs.Ytlbokkbngbpmiaa
