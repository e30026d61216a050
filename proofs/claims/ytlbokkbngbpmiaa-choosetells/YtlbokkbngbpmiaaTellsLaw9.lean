/- paddocklaw9.ChooseTells returns true, for whatever daemons, states, row of increments, group, daemons heard and start, where package history answers as it has to. -/
import Derived.Test.YtlbokkbngbpmiaaBoth
import Derived.Test.YtlbokkbngbpmiaaChooseKnown
import Derived.Test.YtlbokkbngbpmiaaRefLacks9
import Derived.Test.YtlbokkbngbpmiaaFewLaw9
namespace Go.Proofs.Ytlbokkbngbpmiaa
set_option linter.unusedSimpArgs false
set_option linter.unusedVariables false
set_option maxRecDepth 100000
open Go.RowKit

theorem fewB_ok {xs : List StE} (h : fewB xs = true) : (∀ x ∈ xs, x.st.log.length ≤ 12) ∧ xs.length ≤ 8 := by
  unfold fewB at h
  rw [Bool.and_eq_true, List.all_eq_true] at h
  exact ⟨fun x hx => of_decide_eq_true (h.1 x hx), of_decide_eq_true h.2⟩

set_option maxHeartbeats 16000000 in
theorem tells_walk9 {Is : World → Nat → List IncV → (Nat → Prop) → Prop} (S : HistSpec Is) (oo : Option Addr) (oc : Nat) (os : List Int) (so : Option Addr) (sc : Nat) (sts : List StE) (ao : Option Addr) (c : Nat) (l : List IncV) (g : Nat) (ho : Option Addr) (hc : Nat) (hs : List Int) (st : Nat) (w : World)
    (hO : Ix w oo oc os) (hT : Sl w so sc 49 (rowsS sts)) (hTok : ∀ x ∈ sts, (x.st.log.length ≤ 12 → StOk x.st) ∧ Sl w x.ao x.c 8 (entR x.st.log)) (hS : Sl w ao c 3 (incR l)) (hl : ∀ x ∈ l, IncOk x) (hg : g < 256) (hx : Ix w ho hc hs) (hst : st < 4294967296) :
    Calls Try.prog 3 #[.slice oo os.length oc, .slice so sts.length sc, .slice ao l.length c, .int .u8 g, .slice ho hs.length hc, .int .u32 st] w fun e w' => e = .returned (.bool true) ∧ Below w.heap.size w w' := by
  have hcap := hS.cap
  have hle := hS.le
  rw [incR_len] at hle
  have hhcap := hx.cap
  have hhle := hx.le
  have hocap := hO.cap
  have hole := hO.le
  have htcap := hT.cap
  have htle := hT.le
  rw [rowsS_len] at htle
  have hfl : ∀ x ∈ sts, x.st.log.length ≤ 9223372036854775807 := fun x hx => by
    have h1 := (hTok x hx).2.le
    have h2 := (hTok x hx).2.cap
    have h3 : (entR x.st.log).length = x.st.log.length := by unfold entR; rw [List.length_map]
    omega
  have hfw := fun {W} (hb : Below w.heap.size w W) => few9_any so sc sts W (hT.later hb) hfl (by omega)
  have hfok : Hid (fewB sts = true → (∀ x ∈ sts, x.st.log.length ≤ 12) ∧ sts.length ≤ 8) := fewB_ok
  generalize hfe : fewB sts = fb at *
  clear hfe
  cases fb with
  | false =>
    go_enter Try.func3, Try.ntmps3
    go_wp2_with (first
      | (go_at_call 9; refine (known9_any S _).mono ?_; rintro e w1 ⟨rfl, hb⟩)
      | (go_at_call 10; refine (hfw hb).mono ?_; rintro e w2 ⟨rfl, hw2⟩; subst hw2))
    go_ret
    exact ⟨rfl, hb⟩
  | true =>
    obtain ⟨hf12, hf8⟩ := hfok.out rfl
    clear hfok
    by_cases h12 : 12 < os.length
    · have h12' : (12 : Int) < (os.length : Int) := by omega
      go_enter Try.func3, Try.ntmps3
      go_wp2_with (first
        | (go_at_call 9; refine (known9_any S _).mono ?_; rintro e w1 ⟨rfl, hb⟩)
        | (go_at_call 10; refine (hfw hb).mono ?_; rintro e w2 ⟨rfl, hw2⟩; subst hw2))
      go_ret
      exact ⟨rfl, hb⟩
    · have h12' : (os.length : Int) ≤ 12 := by omega
      have d12 : decide ((12 : Int) < (os.length : Int)) = false := decide_eq_false (by omega)
      by_cases h25 : 25 < l.length
      · have h25' : (25 : Int) < (l.length : Int) := by omega
        go_enter Try.func3, Try.ntmps3
        go_wp2_with (first
          | (go_at_call 9; refine (known9_any S _).mono ?_; rintro e w1 ⟨rfl, hb⟩)
          | (go_at_call 10; refine (hfw hb).mono ?_; rintro e w2 ⟨rfl, hw2⟩; subst hw2))
        go_ret
        exact ⟨rfl, hb⟩
      · have h25' : (l.length : Int) ≤ 25 := by omega
        have d25 : decide ((25 : Int) < (l.length : Int)) = false := decide_eq_false (by omega)
        by_cases hh : 12 < hs.length
        · have hh' : (12 : Int) < (hs.length : Int) := by omega
          go_enter Try.func3, Try.ntmps3
          go_wp2_with (first
            | (go_at_call 9; refine (known9_any S _).mono ?_; rintro e w1 ⟨rfl, hb⟩)
            | (go_at_call 10; refine (hfw hb).mono ?_; rintro e w2 ⟨rfl, hw2⟩; subst hw2))
          go_ret
          exact ⟨rfl, hb⟩
        · have hh' : (hs.length : Int) ≤ 12 := by omega
          have dh : decide ((12 : Int) < (hs.length : Int)) = false := decide_eq_false (by omega)
          have hTS : StS w so sc sts := ⟨hT, fun x hx => ⟨(hTok x hx).1 (hf12 x hx), (hTok x hx).2⟩⟩
          go_enter Try.func3, Try.ntmps3
          go_wp2_with (first
            | (go_at_call 9; refine (known9_any S _).mono ?_; rintro e w1 ⟨rfl, hb⟩)
            | (go_at_call 10; refine (hfw hb).mono ?_; rintro e w2 ⟨rfl, hw2⟩; replace hw2 := hw2.symm; subst hw2))
          refine (both_any S ao c l _ (hS.later hb) hl (by omega)).mono ?_
          rintro e w2 ⟨p, r, F, G, rfl, hTw, hq⟩
          replace hb := hb.trans (hq.mono hb.size)
          clear hq hfw
          have hgood := S.good hTw.h
          generalize takeH l l.length = xs at *
          have hpt : ptr p = .pointer (some ⟨p, 0, none⟩) := rfl
          have hrt : ptr r = .pointer (some ⟨r, 0, none⟩) := rfl
          rw [hpt, hrt]
          have hbs := hb.size
          have hO2 := hO.later hb
          have hT2 := hTS.later hb
          have hx2 := hx.later hb
          have hB1 := fun {W} (h1 : Ix W oo oc os) (h2 : StS W so sc sts) => Best_any oo oc os so sc sts W h1 h2 (by omega) (by omega)
          have hB2 := fun {W} (h1 : Ix W oo oc os) (h2 : StS W so sc sts) => refBest_any oo oc os so sc sts W h1 h2 (by omega) (by omega)
          have hB3 := fun {W} (h2 : StS W so sc sts) => Started_any so sc sts W h2 (by omega)
          have hB4 := fun {W} (h2 : StS W so sc sts) => refStarted_any so sc sts W h2 (by omega)
          have hL1 := fun {W} (h1 : Is W p xs F) (h2 : Ix W ho hc hs) => Lacks_any S g ho hc hs st h1 hg h2 (by omega) hst
          have hL2 := fun {W} (h1 : IsR W r xs G) (h2 : Ix W ho hc hs) => refLacks_any g ho hc hs st h1 hg h2 (by omega) hst
          have hE1 := fun {W} (h1 : Is W p xs F) (h2 : Ix W ho hc hs) => Enough_any S g ho hc hs st h1 hg h2 (by omega) hst
          have hE2 := fun {W} (h1 : IsR W r xs G) (h2 : Ix W ho hc hs) => refEnough_any g ho hc hs st h1 hg h2 (by omega) hst
          have hV1 := fun {W} (h1 : Is W p xs F) => Serves_any S g h1 hg
          rw [serves_now] at hV1
          have hl59 := lenH hgood
          have hll : (lacksM (ivals xs g) hs st).length ≤ 60 := by
            have h1 := List.length_filter_le (lackB hs st) (ivals xs g).dropLast
            have h2 := ivals_len xs g
            rw [List.length_dropLast] at h1
            show (List.filter _ _).length ≤ 60
            omega
          have hnl : (nowH xs g).length ≤ 3 := by rw [now_is]; exact (actM_mem _ g).2
          generalize bestM9 os (stsOf sts) = bm at hB1 hB2
          generalize startedM (stsOf sts) = sm at hB3 hB4
          generalize lacksM (ivals xs g) hs st = L at *
          generalize enoughM (ivals xs g) hs st = eb at hE1 hE2
          rw [hpt] at hL1 hE1 hV1
          rw [hrt] at hL2 hE2
          go_wp2_with fail
          refine (hB1 hO2 hT2).mono ?_
          rintro e w3 ⟨rfl, hq⟩
          replace hTw := hTw.later S hq
          replace hO2 := hO2.later hq
          replace hT2 := hT2.later hq
          replace hx2 := hx2.later hq
          replace hb := hb.trans (hq.mono hb.size)
          clear hq
          go_wp2_with fail
          refine (hB2 hO2 hT2).mono ?_
          rintro e w4 ⟨rfl, hq⟩
          replace hTw := hTw.later S hq
          replace hO2 := hO2.later hq
          replace hT2 := hT2.later hq
          replace hx2 := hx2.later hq
          replace hb := hb.trans (hq.mono hb.size)
          clear hq
          clear hB1 hB2 hO2
          go_wp2_with fail
          refine (hB3 hT2).mono ?_
          rintro e w5 ⟨rfl, hq⟩
          replace hTw := hTw.later S hq
          replace hT2 := hT2.later hq
          replace hx2 := hx2.later hq
          replace hb := hb.trans (hq.mono hb.size)
          clear hq
          go_wp2_with fail
          refine (hB4 hT2).mono ?_
          rintro e w6 ⟨rfl, hq⟩
          replace hTw := hTw.later S hq
          replace hx2 := hx2.later hq
          replace hb := hb.trans (hq.mono hb.size)
          clear hq hB3 hB4 hT2
          go_wp2_with fail
          refine (hL1 hTw.h hx2).mono ?_
          rintro e w7 ⟨ro, rc, rfl, hI, hq⟩
          replace hTw := hTw.later S hq
          replace hx2 := hx2.later hq
          replace hb := hb.trans (hq.mono hb.size)
          clear hq hL1
          go_wp2_with fail
          refine (hL2 hTw.r hx2).mono ?_
          rintro e w8 ⟨uo, uc, rfl, hJ, hq⟩
          replace hTw := hTw.later S hq
          replace hx2 := hx2.later hq
          replace hI := hI.later hq
          replace hb := hb.trans (hq.mono hb.size)
          clear hq hL2
          have hIc := hI.cap
          have hIl := hI.le
          have hJc := hJ.cap
          have hJl := hJ.le
          obtain ⟨ln, hln⟩ : ∃ ln, L.length = ln := ⟨_, rfl⟩
          rw [hln]
          rw [hln] at hIl hJl hll
          replace hln : Hid (L.length = ln) := hln
          go_wp2
          go_loopw [17] (fun i wr => ∃ n : Nat, n ≤ ln ∧ i = .int .i64 n ∧ Below w8.heap.size w8 wr) (fun i _ => ln - (intOf i).toNat)
          case atStart => exact ⟨0, Nat.zero_le _, rfl, Below.refl _ _⟩
          case round =>
            obtain ⟨n, hn, rfl, hbn⟩ := hrel
            by_cases hlt' : n < ln
            · have hnI : (n : Int) < (ln : Int) := by omega
              have hlt : n < L.length := by rw [hln.out]; exact hlt'
              cases ro with
              | none => have := hI.nil rfl; omega
              | some rd =>
                cases uo with
                | none => have := hJ.nil rfl; omega
                | some ud =>
                  obtain ⟨c0, bo, d, c1, hX⟩ := iv_get9 hI n hlt
                  obtain ⟨e0, co, f, e1, hY⟩ := iv_get9 hJ n hlt
                  generalize L[n] = v at *
                  have hz : ∀ W, Below w8.heap.size w8 W → (W.cell? (rd.add (n * 2)) = some (.int .u32 (v.1 : Nat)) ∧ W.cell? ⟨(rd.add (n * 2)).block, (rd.add (n * 2)).off + 1, none⟩ = some (.slice bo v.2.length d) ∧ W.cell? (ud.add (n * 2)) = some (.int .u32 (v.1 : Nat)) ∧ W.cell? ⟨(ud.add (n * 2)).block, (ud.add (n * 2)).off + 1, none⟩ = some (.slice co v.2.length f)) := fun W hW => by
                    rw [hW.cell (World.block_lt_of_cell? _ _ c0), hW.cell (World.block_lt_of_cell? _ _ c1), hW.cell (World.block_lt_of_cell? _ _ e0), hW.cell (World.block_lt_of_cell? _ _ e1)]
                    exact ⟨c0, c1, e0, e1⟩
                  clear c0 c1 e0 e1
                  go_wp2
                  refine wp_region_plan (fun W => Below w8.heap.size w8 W) (Plan.of [(0, true), (1, true), (2, true), (3, true), (4, true), (5, true), (6, true), (7, true), (8, true), (9, true), (10, true), (11, true), (12, true), (13, true), (14, true), (15, true), (16, true), (17, true), (18, true), (19, true), (20, true), (21, true), (22, false), (23, true), (24, true)] .done) (by kernel_rfl) (by kernel_rfl) (by kernel_rfl) (by kernel_rfl) hbn.drew ?_
                  iterate 22
                    first
                      | (refine plan_pass _ rfl (by rfl) ?_)
                      | (refine plan_take _ _ rfl (.inl ⟨by rfl, fun W hS => by obtain ⟨z0, z1, y0, y1⟩ := hz W hS; go_simp; try with_reducible rfl⟩) ?_)
                    try simp only [Act.put, List.setIfInBounds_toArray, List.set_cons_zero, List.set_cons_succ]
                  refine plan_run _ rfl (fun K hK => ?_)
                  go_simp
                  have hi2 := ints_any bo co d f v.2 v.2 _ (hX.later hbn.drew) (hY.later hbn.drew)
                  rw [decide_eq_true rfl] at hi2
                  refine hi2.mono ?_
                  rintro e w9 ⟨rfl, nq, hw9⟩
                  have hb9 : Below w8.heap.size w8 w9 := by rw [hw9]; exact ⟨hbn.os, hbn.tape, hbn.output, hbn.size, hbn.block⟩
                  refine hK.out _ _ hb9 ?_
                  clear hK K hw9 hi2
                  iterate 2
                    first
                      | (refine plan_pass _ rfl (by rfl) ?_)
                      | (refine plan_take _ _ rfl (.inl ⟨by rfl, fun W hS => by clear hS; go_simp; try with_reducible rfl⟩) ?_)
                    try simp only [Act.put, List.setIfInBounds_toArray, List.set_cons_zero, List.set_cons_succ]
                  refine plan_done ?_
                  go_wp2
                  go_roundw
                  case rel => exact ⟨n + 1, by omega, by go_num, hb9⟩
                  case measure => simp [intOf]; omega
            · have hnI : ¬ (n : Int) < (ln : Int) := by omega
              have hTr := hTw.later S hbn
              have hxr := hx2.later hbn
              have hbr := hb.trans (hbn.mono hb.size)
              clear hI hJ
              go_wp2_with fail
              refine (hE1 hTr.h hxr).mono ?_
              rintro e wa ⟨rfl, hq⟩
              replace hTr := hTr.later S hq
              replace hxr := hxr.later hq
              replace hbr := hbr.trans (hq.mono hbr.size)
              clear hq hE1
              go_wp2_with fail
              refine (hE2 hTr.r hxr).mono ?_
              rintro e wb ⟨rfl, hq⟩
              replace hTr := hTr.later S hq
              replace hbr := hbr.trans (hq.mono hbr.size)
              clear hq hE2
              go_wp2_with fail
              refine (hV1 hTr.h).mono ?_
              rintro e wc ⟨rfl, hq⟩
              replace hTr := hTr.later S hq
              replace hbr := hbr.trans (hq.mono hbr.size)
              clear hq hV1
              obtain ⟨_, lo, lc, hP, hSl⟩ := isR_get hTr.r
              have hnw := rnow_any r lo lc xs g wc hP hSl hgood hg
              rw [hrt] at hnw
              go_wp2_with fail
              refine hnw.mono ?_
              rintro e wd ⟨no, nc, rfl, hN, hq⟩
              replace hbr := hbr.trans (hq.mono hbr.size)
              have hNc := hN.cap
              have hNl := hN.le
              have hfld := fun W => fld_act9 (sinceH xs g : Nat) no (nowH xs g).length nc W
              clear hq hnw hP hSl hN
              generalize (nowH xs g).length = nl at *
              have hdd : (decide (2 ≤ nl) == decide ((2 : Int) ≤ (nl : Int))) = true := by rw [show decide (2 ≤ nl) = decide ((2 : Int) ≤ (nl : Int)) from decide_eq_decide.2 (by omega)]; simp
              go_wp2
              go_ret
              exact ⟨rfl, hbr⟩
end Go.Proofs.Ytlbokkbngbpmiaa
