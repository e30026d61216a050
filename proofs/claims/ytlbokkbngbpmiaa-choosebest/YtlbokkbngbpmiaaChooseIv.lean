/- The contracts of choose's walked, Lacks, Enough, Serves. -/
import Derived.Test.YtlbokkbngbpmiaaParted
import Derived.Test.YtlbokkbngbpmiaaHistSpec
namespace Go.Proofs.Ytlbokkbngbpmiaa
set_option linter.unusedSimpArgs false
set_option linter.unusedVariables false
set_option maxRecDepth 100000
open Go.RowKit

theorem newA (w : World) (t : TypeId) (x : IvE) : ∀ j u, (cellsI x)[j]? = some u → (w.alloc (.cells (ivA x) t)).cell? ((⟨w.heap.size, 0, none⟩ : Addr).add j) = some u := newI w t x
theorem filter_take_succ {α : Type} (p : α → Bool) (xs : List α) (n : Nat) (h : n < xs.length) : (xs.take (n + 1)).filter p = (xs.take n).filter p ++ (if p xs[n] = true then [xs[n]] else []) := by
  rw [List.take_succ_eq_append_getElem h, List.filter_append, List.filter_cons, List.filter_nil]

set_option maxHeartbeats 4000000 in
theorem walked_any (hs : List Int) (s : Nat) (hs4 : s < 4294967296) (ao : Option Addr) (c : Nat) (vs : List IvE) (w : World) (h : IvS w ao c vs) (hok : ∀ v ∈ vs, IvOk v) (hl : vs.length ≤ 1000000) :
    Calls Try.prog 38 #[.slice ao vs.length c, .func (.func 40) #[.agg (earsC hs s)] #[]] w fun en w' => ∃ ro rc, en = .returned (.slice ro ((ivOf vs).filter (lackB hs s)).length rc) ∧ Iv w' ro rc ((ivOf vs).filter (lackB hs s)) ∧ Below w.heap.size w w' := by
  obtain ⟨i0, hi, hz0, hz1, hz2⟩ := info_parts Try.infoIv
  have hcap := h.sl.cap
  have hle := h.len
  go_enter Try.func38, Try.ntmps38
  go_wp2
  go_loopw [5, 10] (fun v i wr => ∃ (n : Nat) (us : List IvE), n ≤ vs.length ∧ i = .int .i64 n ∧ ivOf us = ((ivOf vs).take n).filter (lackB hs s) ∧ IvOwn wr w.heap.size v us ∧ Below w.heap.size w wr) (fun _ i _ => vs.length - (intOf i).toNat)
  case atStart => exact ⟨0, [], Nat.zero_le _, rfl, rfl, IvOwn.nil _ _, Below.refl _ _⟩
  case round =>
    obtain ⟨n, us, hn, rfl, hus, hO, hb⟩ := hrel
    by_cases hlt : n < vs.length
    · have hnI : (n : Int) < (vs.length : Int) := by omega
      cases ao with
      | none => have h1 := h.sl.nil rfl; omega
      | some ad =>
        have hlt' : n < (ivOf vs).length := by rw [ivOf_len]; exact hlt
        have hul : us.length ≤ n := by
          have := congrArg List.length hus
          rw [ivOf_len] at this
          have h2 := List.length_filter_le (lackB hs s) ((ivOf vs).take n)
          rw [List.length_take] at h2
          omega
        have cx := (h.later hb).row n hlt
        have hxn := hok vs[n] (List.getElem_mem hlt)
        have hix0 := h.ix vs[n] (List.getElem_mem hlt)
        have hf := filter_take_succ (lackB hs s) (ivOf vs) n hlt'
        rw [show (ivOf vs)[n] = (vs[n].s, vs[n].l) by simp [ivOf]] at hf
        have hf' : Hid _ := hf
        clear hf hlt'
        generalize vs[n] = x at *
        have hX1 := (Has.new wr 38 (ivA ⟨0, none, 0, []⟩)).row (ivA x)
        have hbb := below_setRow ((Below.refl wr.heap.size wr).alloc (Nat.le_refl _) (.cells (ivA ⟨0, none, 0, []⟩) 38)) (Nat.le_refl _) (ivA x)
        go_wp2_with (first
          | (refine wpList_load_any (by rfl) 38 _ rfl (ad.add (n * 2)) rfl (cellsI x) _ ?hg Try.underlying38 rfl (ivA_size x) ?_; (case hg => exact cx))
          | (refine wpList_alloc_has (by rfl) 38 rfl (ivA ⟨0, none, 0, []⟩) ivA_zero ?_)
          | (refine wpList_store_has (by rfl) 38 _ _ rfl wr.heap.size rfl (ivA x) rfl 38 (ivA ⟨0, none, 0, []⟩) (ivA_size _) rfl (ivA_one _) ?hg ?_; (case hg => exact Has.new _ _ _); generalize (wr.alloc (.cells (ivA ⟨0, none, 0, []⟩) 38)).setRow wr.heap.size (ivA x) = w3 at *)
          | (refine wpList_load_has (by rfl) 38 _ rfl wr.heap.size rfl 38 (ivA x) _ Try.underlying38 rfl (ivA_size _) ?hg ?_; (case hg => exact hX1)))
        have hb3 := hb.trans (hbb.mono hb.size)
        refine (lacks_any hs s x _ (hix0.later hb3) hxn.inn hxn.len hxn.s hs4).mono ?_
        rintro e w4 ⟨rfl, hq⟩
        replace hX1 := hX1.later hq
        replace hbb := hbb.trans (hq.mono hbb.size)
        replace hb3 := hb3.trans (hq.mono hb3.size)
        replace hO := hO.later hbb
        clear hq cx hb
        cases hpn : lackB hs s (x.s, x.l) with
        | false =>
          have hno : Hid (ivOf us = ((ivOf vs).take (n + 1)).filter (lackB hs s)) := by show _ = _; rw [hf'.out, hpn, hus]; simp
          clear hf' hus
          go_wp2
          go_roundw
          case rel => exact ⟨n + 1, us, by omega, by go_num, hno.out, hO, hb3⟩
          case measure => simp [intOf]; omega
        | true =>
          have hyes : Hid (ivOf (us ++ [x]) = ((ivOf vs).take (n + 1)).filter (lackB hs s)) := by show _ = _; rw [hf'.out, hpn, ivOf_snoc, hus]; simp
          have hsz : (ivA x).size = 2 := rfl
          have hap : 0 < x.l.length → ∀ ad, x.ao = some ad → u5.ownBlock ≠ some ad.block := fun h0 ad had e2 => by
            have h1 := (hO.own.lt _ e2).1
            rw [had] at hix0
            have h2 := hix0.lt h0
            omega
          have hIx4 := hix0.later hb3
          clear hf' hus
          go_wp2_with (first
            | (refine wpList_load_has (by rfl) 38 _ rfl wr.heap.size rfl 38 (ivA x) _ Try.underlying38 rfl (ivA_size _) ?hg ?_; (case hg => exact hX1))
            | (at_builtin; refine wpList_append_own_at _ rfl _ _ 34 rfl w.heap.size 38 i0 (.agg #[.int .u32 0, .slice none 0 0]) 2 32 Try.underlying34 hi hz0 hz1 hz2 rfl (by decide) _ us.length _ rfl (hO.own.alloc _) ⟨w4.heap.size, 0, none⟩ 1 1 (cellsI x) rfl rfl (newA _ _ x) (oneI _) (by unfold maxLen; omega) (by omega) (by have := hb3.size; simp; omega) ?_))
          intro v' w5 hown5 hgrow _ hat
          have hbs5 := hb3.size
          have hb5 : Below w.heap.size w w5 := (hb3.alloc hb3.size _).grown hgrow (by simp; omega) (fun k hk => (hO.own.lt k hk).1)
          have hO5 := hO.snoc (x := x) hIx4 hap hown5 rfl rfl hgrow hat
          clear hown5 hgrow hat hO hX1 hbb
          go_wp2
          go_roundw
          case rel => exact ⟨n + 1, us ++ [x], by omega, by go_num, hyes.out, hO5, hb5⟩
          case measure => simp [intOf]; omega
    · have e : n = vs.length := by omega
      subst e
      rw [← ivOf_len vs, List.take_length] at hus
      obtain ⟨ro, rc, rfl, hV⟩ := hO.iv
      have hul : Hid (us.length = ((ivOf vs).filter (lackB hs s)).length) := by show _ = _; rw [← hus, ivOf_len]
      rw [hus] at hV
      clear hus
      go_wp2
      go_ret
      exact ⟨ro, rc, by rw [← hul.out]; rfl, hV, hb⟩

theorem ivE_ok {xs : List IncV} {g : Nat} {vs : List IvE} (h : ivOf vs = ivals xs g) (hl : xs.length ≤ 59) : ∀ v ∈ vs, IvOk v := by
  intro v hv
  have hm : (v.s, v.l) ∈ ivals xs g := by rw [← h]; exact List.mem_map.2 ⟨v, hv, rfl⟩
  obtain ⟨h1, h2, h3⟩ := ivals_ok xs g _ hm
  have h1 : 1 ≤ v.s ∧ v.s ≤ xs.length + 1 := h1
  have h2 : v.l.length ≤ 3 := h2
  exact ⟨by omega, by omega, h3⟩

/-- The intervals of a group, parted. -/
theorem part_ivals {w : World} {ao : Option Addr} {c : Nat} {xs : List IncV} {g : Nat} (hl : xs.length ≤ 59) (h : Iv w ao c (ivals xs g)) :
    (ivals xs g = [] ∧ c ≤ 9223372036854775807) ∨ ∃ vs v, IvS w ao c (vs ++ [v]) ∧ (ivals xs g).length = vs.length + 1 ∧ (ivals xs g).dropLast = ivOf vs ∧ nowI (ivals xs g) = (v.s, v.l) ∧ (∀ x ∈ vs, IvOk x) ∧ IvOk v ∧ vs.length ≤ 60 := by
  obtain ⟨us, hus, hS⟩ := h.rows
  have hok := ivE_ok hus hl
  rcases List.eq_nil_or_concat us with rfl | ⟨vs, v, rfl⟩
  · exact .inl ⟨hus.symm, h.cap⟩
  · right
    rw [List.concat_eq_append] at *
    have hlen : (ivals xs g).length = vs.length + 1 := by rw [← hus, ivOf_len]; simp
    refine ⟨vs, v, hS, hlen, ?_, ?_, fun x hx => hok x (List.mem_append_left _ hx), hok v (by simp), ?_⟩
    · rw [← hus, ivOf_snoc, over_snoc]
    · rw [← hus, ivOf_snoc, nowI_snoc]
    · have := ivals_len xs g
      omega

set_option maxHeartbeats 4000000 in
theorem Serves_any {Is : World → Nat → List IncV → (Nat → Prop) → Prop} (S : HistSpec Is) {w : World} {p : Nat} {xs : List IncV} {F : Nat → Prop} (g : Nat) (hI : Is w p xs F) (hg : g < 256) :
    Calls Try.prog 21 #[ptr p, .int .u8 g] w fun en w' => en = .returned (.bool (servesM (ivals xs g))) ∧ Below w.heap.size w w' := by
  have hl := lenH (S.good hI)
  have hint := S.intervals g hI hg
  have hpt : ptr p = .pointer (some ⟨p, 0, none⟩) := rfl
  rw [hpt] at hint
  rw [hpt]
  go_enter Try.func21, Try.ntmps21
  go_wp2_with fail
  refine hint.mono ?_
  rintro e w1 ⟨ao, c, rfl, hV, hb⟩
  clear hint
  have hsv : Hid (servesM (ivals xs g) = decide (2 ≤ (nowI (ivals xs g)).2.length)) := rfl
  rcases part_ivals hl hV with ⟨h0, hcap⟩ | ⟨vs, v, hS, hlen, hover, hnow, hvs, hv, h60⟩
  · rw [h0, nowI_nil] at hsv
    have hP := parted_nil c ao w1 hcap
    rw [show (ivals xs g).length = 0 by rw [h0]; rfl]
    have hF : Hid (servesM (ivals xs g) = false) := by show _ = _; rw [h0]; rfl
    clear hsv h0 hV
    go_wp2_with fail
    refine hP.mono ?_
    rintro e w2 ⟨rfl, hq⟩
    replace hb := hb.trans (hq.mono hb.size)
    clear hq hP
    obtain ⟨w4, hw4⟩ : ∃ W, ((w2).alloc (.cells (ivA ⟨0, none, 0, []⟩) 38)).setRow (w2).heap.size (ivA ⟨0, none, 0, []⟩) = W := ⟨_, rfl⟩
    have hN4 : Has w4 (w2).heap.size 38 (ivA ⟨0, none, 0, []⟩) := by rw [← hw4]; exact (Has.new _ _ _).row _
    have hbN : Below (w2).heap.size w2 w4 := by rw [← hw4]; exact below_setRow ((Below.refl _ _).alloc (Nat.le_refl _) _) (Nat.le_refl _) _
    have hbs4 := hb.size
    replace hb := hb.trans (hbN.mono hb.size)
    go_wp2_with (first
      | (refine wpList_alloc_has (by rfl) 38 rfl (ivA ⟨0, none, 0, []⟩) ivA_zero ?_)
      | (refine wpList_store_has (by rfl) 38 _ _ rfl (w2).heap.size rfl (ivA ⟨0, none, 0, []⟩) rfl 38 (ivA ⟨0, none, 0, []⟩) (ivA_size _) rfl (ivA_one _) ?hg ?_; (case hg => exact Has.new _ _ _); rw [hw4])
      | (refine wpList_load_has (by rfl) 38 _ rfl (w2).heap.size rfl 38 (ivA ⟨0, none, 0, []⟩) _ Try.underlying38 rfl (ivA_size _) ?hg ?_; (case hg => exact hN4)))
    clear hw4
    have hsr := serves_any ⟨0, none, 0, []⟩ w4 (Nat.zero_le _)
    refine hsr.mono ?_
    rintro e w5 ⟨rfl, hq⟩
    replace hb := hb.trans (hq.mono hb.size)
    go_wp2
    go_ret
    exact ⟨by rw [hF.out]; rfl, hb⟩
  · rw [hlen]
    have hF : Hid (servesM (ivals xs g) = decide (2 ≤ v.l.length)) := by show _ = _; rw [hsv.out, hnow]
    have hP := parted_any ao c vs v w1 hS (by omega)
    clear hsv hnow hover hlen hV
    go_wp2_with fail
    refine hP.mono ?_
    rintro e w2 ⟨rfl, hq⟩
    replace hb := hb.trans (hq.mono hb.size)
    clear hq hP
    obtain ⟨w4, hw4⟩ : ∃ W, ((w2).alloc (.cells (ivA ⟨0, none, 0, []⟩) 38)).setRow (w2).heap.size (ivA v) = W := ⟨_, rfl⟩
    have hN4 : Has w4 (w2).heap.size 38 (ivA v) := by rw [← hw4]; exact (Has.new _ _ _).row _
    have hbN : Below (w2).heap.size w2 w4 := by rw [← hw4]; exact below_setRow ((Below.refl _ _).alloc (Nat.le_refl _) _) (Nat.le_refl _) _
    have hbs4 := hb.size
    replace hb := hb.trans (hbN.mono hb.size)
    go_wp2_with (first
      | (refine wpList_alloc_has (by rfl) 38 rfl (ivA ⟨0, none, 0, []⟩) ivA_zero ?_)
      | (refine wpList_store_has (by rfl) 38 _ _ rfl (w2).heap.size rfl (ivA v) rfl 38 (ivA ⟨0, none, 0, []⟩) (ivA_size _) rfl (ivA_one _) ?hg ?_; (case hg => exact Has.new _ _ _); rw [hw4])
      | (refine wpList_load_has (by rfl) 38 _ rfl (w2).heap.size rfl 38 (ivA v) _ Try.underlying38 rfl (ivA_size _) ?hg ?_; (case hg => exact hN4)))
    clear hw4
    refine (serves_any v w4 hv.len).mono ?_
    rintro e w5 ⟨rfl, hq⟩
    replace hb := hb.trans (hq.mono hb.size)
    clear hq
    generalize decide (2 ≤ v.l.length) = b at *
    go_wp2
    go_ret
    exact ⟨by rw [hF.out]; rfl, hb⟩

set_option maxHeartbeats 4000000 in
theorem Lacks_any {Is : World → Nat → List IncV → (Nat → Prop) → Prop} (S : HistSpec Is) {w : World} {p : Nat} {xs : List IncV} {F : Nat → Prop} (g : Nat) (ho : Option Addr) (hc : Nat) (hs : List Int) (s : Nat) (hI : Is w p xs F) (hg : g < 256) (hx : Ix w ho hc hs) (hh : hs.length ≤ 1000000) (hs4 : s < 4294967296) :
    Calls Try.prog 16 #[ptr p, .int .u8 g, .slice ho hs.length hc, .int .u32 (s : Int)] w fun en w' => ∃ ro rc, en = .returned (.slice ro (lacksM (ivals xs g) hs s).length rc) ∧ Iv w' ro rc (lacksM (ivals xs g) hs s) ∧ Below w.heap.size w w' := by
  have hmf : ∀ (fn : Fn) (first cap : Array Value) (w : World), (Instr.makeFunc fn first cap).run Try.prog w = .ok (.func fn first cap) w := fun _ _ _ _ => rfl
  have hl := lenH (S.good hI)
  have hint := S.intervals g hI hg
  have hpt : ptr p = .pointer (some ⟨p, 0, none⟩) := rfl
  rw [hpt] at hint
  rw [hpt]
  go_enter Try.func16, Try.ntmps16
  go_wp2_with fail
  refine hint.mono ?_
  rintro e w1 ⟨ao, c, rfl, hV, hb⟩
  clear hint
  have hsv : Hid (lacksM (ivals xs g) hs s = ((ivals xs g).dropLast).filter (lackB hs s)) := rfl
  rcases part_ivals hl hV with ⟨h0, hcap⟩ | ⟨vs, v, hS, hlen, hover, hnow, hvs, hv, h60⟩
  · have hP := parted_nil c ao w1 hcap
    rw [show (ivals xs g).length = 0 by rw [h0]; rfl]
    have hF : Hid (lacksM (ivals xs g) hs s = (ivOf []).filter (lackB hs s)) := by show _ = _; rw [hsv.out, h0]; rfl
    clear hsv h0 hV
    go_wp2_with fail
    refine hP.mono ?_
    rintro e w2 ⟨rfl, hq⟩
    replace hb := hb.trans (hq.mono hb.size)
    clear hq hP
    obtain ⟨w4, hw4⟩ : ∃ W, ((w2).alloc (.cells (ivA ⟨0, none, 0, []⟩) 38)).setRow (w2).heap.size (ivA ⟨0, none, 0, []⟩) = W := ⟨_, rfl⟩
    have hN4 : Has w4 (w2).heap.size 38 (ivA ⟨0, none, 0, []⟩) := by rw [← hw4]; exact (Has.new _ _ _).row _
    have hbN : Below (w2).heap.size w2 w4 := by rw [← hw4]; exact below_setRow ((Below.refl _ _).alloc (Nat.le_refl _) _) (Nat.le_refl _) _
    have hbs4 := hb.size
    replace hb := hb.trans (hbN.mono hb.size)
    go_wp2_with (first
      | (refine wpList_alloc_has (by rfl) 38 rfl (ivA ⟨0, none, 0, []⟩) ivA_zero ?_)
      | (refine wpList_store_has (by rfl) 38 _ _ rfl (w2).heap.size rfl (ivA ⟨0, none, 0, []⟩) rfl 38 (ivA ⟨0, none, 0, []⟩) (ivA_size _) rfl (ivA_one _) ?hg ?_; (case hg => exact Has.new _ _ _); rw [hw4])
      | (refine wpList_load_has (by rfl) 38 _ rfl (w2).heap.size rfl 38 (ivA ⟨0, none, 0, []⟩) _ Try.underlying38 rfl (ivA_size _) ?hg ?_; (case hg => exact hN4)))
    clear hw4
    refine (listened_any ho hc hs s w4 (hx.later hb) hh).mono ?_
    rintro e w5 ⟨rfl, hq⟩
    replace hb := hb.trans (hq.mono hb.size)
    clear hq
    go_wp2_with fail
    refine (walked_any hs s hs4 none 0 [] w5 (IvS.nothing _) (fun _ h => by cases h) (Nat.zero_le _)).mono ?_
    rintro e w6 ⟨ro, rc, rfl, hR, hq⟩
    replace hb := hb.trans (hq.mono hb.size)
    clear hq
    go_wp2
    go_ret
    exact ⟨ro, rc, by rw [hF.out]; rfl, by rw [hF.out]; exact hR, hb⟩
  · rw [hlen]
    have hF : Hid (lacksM (ivals xs g) hs s = (ivOf vs).filter (lackB hs s)) := by show _ = _; rw [hsv.out, hover]
    have hP := parted_any ao c vs v w1 hS (by omega)
    have hSf := hS.front
    clear hsv hnow hover hlen hV hS
    go_wp2_with fail
    refine hP.mono ?_
    rintro e w2 ⟨rfl, hq⟩
    replace hb := hb.trans (hq.mono hb.size)
    replace hSf := hSf.later hq
    clear hq hP
    obtain ⟨w4, hw4⟩ : ∃ W, ((w2).alloc (.cells (ivA ⟨0, none, 0, []⟩) 38)).setRow (w2).heap.size (ivA v) = W := ⟨_, rfl⟩
    have hN4 : Has w4 (w2).heap.size 38 (ivA v) := by rw [← hw4]; exact (Has.new _ _ _).row _
    have hbN : Below (w2).heap.size w2 w4 := by rw [← hw4]; exact below_setRow ((Below.refl _ _).alloc (Nat.le_refl _) _) (Nat.le_refl _) _
    have hbs4 := hb.size
    replace hb := hb.trans (hbN.mono hb.size)
    go_wp2_with (first
      | (refine wpList_alloc_has (by rfl) 38 rfl (ivA ⟨0, none, 0, []⟩) ivA_zero ?_)
      | (refine wpList_store_has (by rfl) 38 _ _ rfl (w2).heap.size rfl (ivA v) rfl 38 (ivA ⟨0, none, 0, []⟩) (ivA_size _) rfl (ivA_one _) ?hg ?_; (case hg => exact Has.new _ _ _); rw [hw4])
      | (refine wpList_load_has (by rfl) 38 _ rfl (w2).heap.size rfl 38 (ivA v) _ Try.underlying38 rfl (ivA_size _) ?hg ?_; (case hg => exact hN4)))
    clear hw4
    replace hSf := hSf.later hbN
    refine (listened_any ho hc hs s w4 (hx.later hb) hh).mono ?_
    rintro e w5 ⟨rfl, hq⟩
    replace hb := hb.trans (hq.mono hb.size)
    replace hSf := hSf.later hq
    clear hq
    go_wp2_with fail
    refine (walked_any hs s hs4 ao c vs w5 hSf hvs (by omega)).mono ?_
    rintro e w6 ⟨ro, rc, rfl, hR, hq⟩
    replace hb := hb.trans (hq.mono hb.size)
    clear hq
    go_wp2
    go_ret
    exact ⟨ro, rc, by rw [hF.out]; rfl, by rw [hF.out]; exact hR, hb⟩

set_option maxHeartbeats 4000000 in
theorem Enough_any {Is : World → Nat → List IncV → (Nat → Prop) → Prop} (S : HistSpec Is) {w : World} {p : Nat} {xs : List IncV} {F : Nat → Prop} (g : Nat) (ho : Option Addr) (hc : Nat) (hs : List Int) (s : Nat) (hI : Is w p xs F) (hg : g < 256) (hx : Ix w ho hc hs) (hh : hs.length ≤ 1000000) (hs4 : s < 4294967296) :
    Calls Try.prog 19 #[ptr p, .int .u8 g, .slice ho hs.length hc, .int .u32 (s : Int)] w fun en w' => en = .returned (.bool (enoughM (ivals xs g) hs s)) ∧ Below w.heap.size w w' := by
  have hmf : ∀ (fn : Fn) (first cap : Array Value) (w : World), (Instr.makeFunc fn first cap).run Try.prog w = .ok (.func fn first cap) w := fun _ _ _ _ => rfl
  have hl := lenH (S.good hI)
  have hint := S.intervals g hI hg
  have hpt : ptr p = .pointer (some ⟨p, 0, none⟩) := rfl
  rw [hpt] at hint
  rw [hpt]
  go_enter Try.func19, Try.ntmps19
  go_wp2_with fail
  refine hint.mono ?_
  rintro e w1 ⟨ao, c, rfl, hV, hb⟩
  clear hint
  have hen : Hid (enoughM (ivals xs g) hs s = (!((ivals xs g).dropLast.any (lackB hs s)) && !((nowI (ivals xs g)).2.any fun x => !hrd hs x))) := rfl
  have main : ∀ (ao' : Option Addr) (c' : Nat) (vs : List IvE) (v : IvE), (∀ W, Below w1.heap.size w1 W → IvS W ao' c' vs) → Hid (enoughM (ivals xs g) hs s = (!((ivOf vs).any (lackB hs s)) && !(v.l.any fun x => !hrd hs x))) → (∀ x ∈ vs, IvOk x) → IvOk v → vs.length ≤ 60 → (∀ W, Below w1.heap.size w1 W → Ix W v.ao v.c v.l) → True := fun _ _ _ _ _ _ _ _ _ _ => trivial
  clear main
  rcases part_ivals hl hV with ⟨h0, hcap⟩ | ⟨vs, v, hS, hlen, hover, hnow, hvs, hv, h60⟩
  · have hP := parted_nil c ao w1 hcap
    rw [show (ivals xs g).length = 0 by rw [h0]; rfl]
    have hF : Hid (enoughM (ivals xs g) hs s = (!((ivOf []).any (lackB hs s)) && !(([] : List Int).any fun x => !hrd hs x))) := by show _ = _; rw [hen.out, h0]; rfl
    clear hen h0 hV
    go_wp2_with fail
    refine hP.mono ?_
    rintro e w2 ⟨rfl, hq⟩
    replace hb := hb.trans (hq.mono hb.size)
    clear hq hP
    obtain ⟨w4, hw4⟩ : ∃ W, ((w2).alloc (.cells (ivA ⟨0, none, 0, []⟩) 38)).setRow (w2).heap.size (ivA ⟨0, none, 0, []⟩) = W := ⟨_, rfl⟩
    have hN4 : Has w4 (w2).heap.size 38 (ivA ⟨0, none, 0, []⟩) := by rw [← hw4]; exact (Has.new _ _ _).row _
    have hbN : Below (w2).heap.size w2 w4 := by rw [← hw4]; exact below_setRow ((Below.refl _ _).alloc (Nat.le_refl _) _) (Nat.le_refl _) _
    have hbs4 := hb.size
    replace hb := hb.trans (hbN.mono hb.size)
    go_wp2_with (first
      | (refine wpList_alloc_has (by rfl) 38 rfl (ivA ⟨0, none, 0, []⟩) ivA_zero ?_)
      | (refine wpList_store_has (by rfl) 38 _ _ rfl (w2).heap.size rfl (ivA ⟨0, none, 0, []⟩) rfl 38 (ivA ⟨0, none, 0, []⟩) (ivA_size _) rfl (ivA_one _) ?hg ?_; (case hg => exact Has.new _ _ _); rw [hw4])
      | (refine wpList_load_has (by rfl) 38 _ rfl (w2).heap.size rfl 38 (ivA ⟨0, none, 0, []⟩) _ Try.underlying38 rfl (ivA_size _) ?hg ?_; (case hg => exact hN4)))
    clear hw4
    have hvs : ∀ x ∈ ([] : List IvE), IvOk x := fun _ h => by cases h
    have hS4 := w4
    clear hS4
    refine (listened_any ho hc hs s w4 (hx.later hb) hh).mono ?_
    rintro e w5 ⟨rfl, hbE⟩
    replace hb := hb.trans (hbE.mono hb.size)
    replace hN4 := hN4.later hbE
    obtain ⟨w6, hw6⟩ : ∃ W, (w5.alloc (.cells (earsC [] 0) 94)).setRow w5.heap.size (earsC hs s) = W := ⟨_, rfl⟩
    have hE6 : Has w6 w5.heap.size 94 (earsC hs s) := by rw [← hw6]; exact (Has.new _ _ _).row _
    have hb6 : Below w5.heap.size w5 w6 := by rw [← hw6]; exact below_setRow ((Below.refl _ _).alloc (Nat.le_refl _) _) (Nat.le_refl _) _
    replace hbE := hbE.trans (hb6.mono hbE.size)
    replace hb := hb.trans (hb6.mono hb.size)
    replace hN4 := hN4.later hb6
    have hSe : IvS w6 (none) (0) ([]) := IvS.nothing _
    go_wp2_with (first
      | (refine wpList_alloc_has (by rfl) 94 rfl (earsC [] 0) ears_zero ?_)
      | (refine wpList_store_has (by rfl) 94 _ _ rfl w5.heap.size rfl (earsC hs s) rfl 94 (earsC [] 0) (ears_size _ _) rfl (ears_one _ _) ?hg ?_; (case hg => exact Has.new _ _ _); rw [hw6])
      | (refine wpList_load_has (by rfl) 94 _ rfl w5.heap.size rfl 94 (earsC hs s) _ Try.underlying94 rfl (ears_size _ _) ?hg ?_; (case hg => exact hE6)))
    refine (containsV_any hs s hs4 (none) (0) ([]) w6 hSe hvs (by first | exact Nat.zero_le _ | omega)).mono ?_
    rintro e w7 ⟨rfl, hq⟩
    replace hb := hb.trans (hq.mono hb.size)
    replace hbE := hbE.trans (hq.mono hbE.size)
    replace hN4 := hN4.later hq
    replace hE6 := hE6.later hq
    clear hq hw6 hSe
    have hIe : Ix w7 ((⟨0, none, 0, []⟩ : IvE)).ao ((⟨0, none, 0, []⟩ : IvE)).c ((⟨0, none, 0, []⟩ : IvE)).l := Ix.nothing _
    have c1 : w7.cell? ⟨w2.heap.size, 0 + 1, none⟩ = some (.slice ((⟨0, none, 0, []⟩ : IvE)).ao ((⟨0, none, 0, []⟩ : IvE)).l.length ((⟨0, none, 0, []⟩ : IvE)).c) := hN4.cell 1
    cases hany : (ivOf ([])).any (lackB hs s) with
    | true =>
      rw [hany] at hF
      go_wp2
      go_ret
      exact ⟨by rw [hF.out]; rfl, hb⟩
    | false =>
      rw [hany] at hF
      go_wp2_with (first
        | (refine wpList_load_has (by rfl) 94 _ rfl w5.heap.size rfl 94 (earsC hs s) _ Try.underlying94 rfl (ears_size _ _) ?hg ?_; (case hg => exact hE6)))
      refine (missesI_any hs s ((⟨0, none, 0, []⟩ : IvE)).ao ((⟨0, none, 0, []⟩ : IvE)).c ((⟨0, none, 0, []⟩ : IvE)).l w7 hIe ((⟨by decide, Nat.zero_le _, fun _ h => by cases h⟩ : IvOk ⟨0, none, 0, []⟩)).inn ((⟨by decide, Nat.zero_le _, fun _ h => by cases h⟩ : IvOk ⟨0, none, 0, []⟩)).len).mono ?_
      rintro e w8 ⟨rfl, hq⟩
      replace hb := hb.trans (hq.mono hb.size)
      clear hq
      generalize (((⟨0, none, 0, []⟩ : IvE)).l.any fun x => !hrd hs x) = bb at *
      go_wp2
      go_ret
      exact ⟨by rw [hF.out]; rfl, hb⟩
  · rw [hlen]
    have hF : Hid (enoughM (ivals xs g) hs s = (!((ivOf vs).any (lackB hs s)) && !(v.l.any fun x => !hrd hs x))) := by show _ = _; rw [hen.out, hover, hnow]
    have hP := parted_any ao c vs v w1 hS (by omega)
    have hSf := hS.front
    have hIv := hS.ix v (by simp)
    clear hen hnow hover hlen hV hS
    go_wp2_with fail
    refine hP.mono ?_
    rintro e w2 ⟨rfl, hq⟩
    replace hb := hb.trans (hq.mono hb.size)
    replace hSf := hSf.later hq
    replace hIv := hIv.later hq
    clear hq hP
    obtain ⟨w4, hw4⟩ : ∃ W, ((w2).alloc (.cells (ivA ⟨0, none, 0, []⟩) 38)).setRow (w2).heap.size (ivA v) = W := ⟨_, rfl⟩
    have hN4 : Has w4 (w2).heap.size 38 (ivA v) := by rw [← hw4]; exact (Has.new _ _ _).row _
    have hbN : Below (w2).heap.size w2 w4 := by rw [← hw4]; exact below_setRow ((Below.refl _ _).alloc (Nat.le_refl _) _) (Nat.le_refl _) _
    have hbs4 := hb.size
    replace hb := hb.trans (hbN.mono hb.size)
    go_wp2_with (first
      | (refine wpList_alloc_has (by rfl) 38 rfl (ivA ⟨0, none, 0, []⟩) ivA_zero ?_)
      | (refine wpList_store_has (by rfl) 38 _ _ rfl (w2).heap.size rfl (ivA v) rfl 38 (ivA ⟨0, none, 0, []⟩) (ivA_size _) rfl (ivA_one _) ?hg ?_; (case hg => exact Has.new _ _ _); rw [hw4])
      | (refine wpList_load_has (by rfl) 38 _ rfl (w2).heap.size rfl 38 (ivA v) _ Try.underlying38 rfl (ivA_size _) ?hg ?_; (case hg => exact hN4)))
    clear hw4
    replace hSf := hSf.later hbN
    replace hIv := hIv.later hbN
    have hS4 := w4
    clear hS4
    refine (listened_any ho hc hs s w4 (hx.later hb) hh).mono ?_
    rintro e w5 ⟨rfl, hbE⟩
    replace hb := hb.trans (hbE.mono hb.size)
    replace hN4 := hN4.later hbE
    obtain ⟨w6, hw6⟩ : ∃ W, (w5.alloc (.cells (earsC [] 0) 94)).setRow w5.heap.size (earsC hs s) = W := ⟨_, rfl⟩
    have hE6 : Has w6 w5.heap.size 94 (earsC hs s) := by rw [← hw6]; exact (Has.new _ _ _).row _
    have hb6 : Below w5.heap.size w5 w6 := by rw [← hw6]; exact below_setRow ((Below.refl _ _).alloc (Nat.le_refl _) _) (Nat.le_refl _) _
    replace hbE := hbE.trans (hb6.mono hbE.size)
    replace hb := hb.trans (hb6.mono hb.size)
    replace hN4 := hN4.later hb6
    have hSe : IvS w6 (ao) (c) (vs) := hSf.later hbE
    go_wp2_with (first
      | (refine wpList_alloc_has (by rfl) 94 rfl (earsC [] 0) ears_zero ?_)
      | (refine wpList_store_has (by rfl) 94 _ _ rfl w5.heap.size rfl (earsC hs s) rfl 94 (earsC [] 0) (ears_size _ _) rfl (ears_one _ _) ?hg ?_; (case hg => exact Has.new _ _ _); rw [hw6])
      | (refine wpList_load_has (by rfl) 94 _ rfl w5.heap.size rfl 94 (earsC hs s) _ Try.underlying94 rfl (ears_size _ _) ?hg ?_; (case hg => exact hE6)))
    refine (containsV_any hs s hs4 (ao) (c) (vs) w6 hSe hvs (by first | exact Nat.zero_le _ | omega)).mono ?_
    rintro e w7 ⟨rfl, hq⟩
    replace hb := hb.trans (hq.mono hb.size)
    replace hbE := hbE.trans (hq.mono hbE.size)
    replace hN4 := hN4.later hq
    replace hE6 := hE6.later hq
    clear hq hw6 hSe
    have hIe : Ix w7 (v).ao (v).c (v).l := hIv.later hbE
    have c1 : w7.cell? ⟨w2.heap.size, 0 + 1, none⟩ = some (.slice (v).ao (v).l.length (v).c) := hN4.cell 1
    cases hany : (ivOf (vs)).any (lackB hs s) with
    | true =>
      rw [hany] at hF
      go_wp2
      go_ret
      exact ⟨by rw [hF.out]; rfl, hb⟩
    | false =>
      rw [hany] at hF
      go_wp2_with (first
        | (refine wpList_load_has (by rfl) 94 _ rfl w5.heap.size rfl 94 (earsC hs s) _ Try.underlying94 rfl (ears_size _ _) ?hg ?_; (case hg => exact hE6)))
      refine (missesI_any hs s (v).ao (v).c (v).l w7 hIe (hv).inn (hv).len).mono ?_
      rintro e w8 ⟨rfl, hq⟩
      replace hb := hb.trans (hq.mono hb.size)
      clear hq
      generalize ((v).l.any fun x => !hrd hs x) = bb at *
      go_wp2
      go_ret
      exact ⟨by rw [hF.out]; rfl, hb⟩
end Go.Proofs.Ytlbokkbngbpmiaa
