/- The walk of paddocklaw5.HistoryPlays, where package history answers as it has to. -/
import Derived.Test.YtmfgmdglpeadbaaAlike
import Derived.Test.YtmfgmdglpeadbaaSteps
import Derived.Test.YtmfgmdglpeadbaaHistKnown
namespace Go.Proofs.Ytmfgmdglpeadbaa
set_option linter.unusedSimpArgs false
set_option linter.unusedVariables false
set_option maxRecDepth 100000
open Go.RowKit

set_option maxHeartbeats 16000000 in
theorem hplays_walk {Is : World → Nat → List IncV → (Nat → Prop) → Prop} (S : HistSpec Is) (ao : Option Addr) (c : Nat) (l : List StepV) (g ep : Nat) (w : World) (hS : Sl w ao c 5 (stepR l)) (hl : ∀ s ∈ l, StepOk s) (hg : g < 256) (hep : ep < 4294967296) :
    Calls Try.prog 3 #[.slice ao l.length c, .int .u8 g, .int .u32 ep] w fun e w' => e = .returned (.bool true) ∧ Below w.heap.size w w' := by
  have hle := hS.le
  rw [stepR_len] at hle
  have hcap := hS.cap
  go_enter Try.func3, Try.ntmps3
  go_wp2_with fail
  refine (hknown_any S _).mono ?_
  rintro e w1 ⟨rfl, hb⟩
  by_cases hlen : l.length ≤ 30
  · have hlenI : (l.length : Int) ≤ 30 := by omega
    go_wp2_with fail
    refine (S.new _).mono ?_
    rintro e w2 ⟨p, F0, rfl, hH, hF, hq⟩
    have hpt : ptr p = .pointer (some ⟨p, 0, none⟩) := rfl
    rw [hpt]
    replace hF : ∀ b, F0 b → w.heap.size ≤ b := fun b hFb => Nat.le_trans hb.size (hF b hFb)
    replace hb := hb.trans (hq.mono hb.size)
    have hR := isR_new w2
    have hlt := S.lt hH
    have hFG : ∀ b, F0 b → ¬ (b = w2.heap.size) := fun b hFb e => by have := hlt b hFb; omega
    have hbb := (Below.refl w2.heap.size w2).alloc (Nat.le_refl _) (.cells #[.slice none 0 0] 30)
    have hH2 := S.later hH hbb
    have hG : ∀ b, b = w2.heap.size → w.heap.size ≤ b := fun b e => by have := hb.size; omega
    have hb2 := hb.trans (hbb.mono hb.size)
    have hbt : Try.prog.built 30 [] = some #[.slice none 0 0] := by kernel_rfl
    clear hq hbb hH hlt hb
    go_wp2_with (first
      | (refine wpList_build_has (by rfl) 30 #[] rfl #[.slice none 0 0] (by simpa using hbt) ?_))
    generalize w2.alloc (.cells #[.slice none 0 0] 30) = w3 at *
    generalize w2.heap.size = r at *
    have hrt : ptr r = .pointer (some ⟨r, 0, none⟩) := rfl
    go_loopw [9] (fun i wr => ∃ (n : Nat) (xs : List IncV) (F G : Nat → Prop), n ≤ l.length ∧ i = .int .i64 n ∧ Is wr p xs F ∧ IsR wr r xs G ∧ (∀ b, F b → ¬ G b) ∧ (∀ b, F b → w.heap.size ≤ b) ∧ (∀ b, G b → w.heap.size ≤ b) ∧ Below w.heap.size w wr) (fun i _ => l.length - (intOf i).toNat)
    case atStart => exact ⟨0, [], F0, fun k => k = r, Nat.zero_le _, rfl, hH2, hR, hFG, hF, hG, hb2⟩
    case round =>
      clear hH2 hR hFG hF hG hb2
      obtain ⟨n, xs, F, G, hn, rfl, hH, hR, hFG, hF, hG, hb⟩ := hrel
      by_cases hlt : n < l.length
      · have hnI : (n : Int) < (l.length : Int) := by omega
        cases ao with
        | none => have h1 := hS.nil rfl; omega
        | some la =>
          have hcs : ∀ W, Below w.heap.size w W → _ := fun W hW => step_at (hS.later hW) n hlt
          have hso := hl l[n] (List.getElem_mem hlt)
          generalize l[n] = s at *
          obtain ⟨nx, se, x⟩ := s
          obtain ⟨hse, hxo⟩ := hso
          have hse : se < 4294967296 := hse
          have hxo : IncOk x := hxo
          have hcs : ∀ W, Below w.heap.size w W → W.cell? (la.add (n * 5)) = some (.bool nx) ∧ W.cell? ⟨(la.add (n * 5)).block, (la.add (n * 5)).off + 1, none⟩ = some (.int .u32 (se : Int)) ∧ ∀ j v, (incC x).toList[j]? = some v → W.cell? ((⟨(la.add (n * 5)).block, (la.add (n * 5)).off + 2, none⟩ : Addr).add j) = some v := hcs
          obtain ⟨z0, z1, _⟩ := hcs _ hb
          obtain ⟨hgood, lo, lc, hP, hSr⟩ := isR_get hR
          have hxl := lenH hgood
          obtain ⟨m, hm⟩ : ∃ m, m = xs.length + 1 := ⟨_, rfl⟩
          have hrlast := rlast_any r lo lc xs wr hP (by omega)
          rw [← hm, hrt] at hrlast
          have hm' : Hid (m = xs.length + 1) := hm
          have hmI : (m : Int) ≤ 60 := by omega
          have hm60 : m ≤ 60 := by omega
          clear hm hP hSr
          cases nx with
          | true =>
            go_wp2_with fail
            refine hrlast.mono ?_
            rintro e w4 ⟨rfl, rfl⟩
            obtain ⟨E, hE⟩ : ∃ E, E = m + 1 := ⟨_, rfl⟩
            have hE32 : E < 4294967296 := by omega
            have hEm : (m : Int) + 1 = (E : Int) := by omega
            clear hrlast z0 z1 hE
            go_wp2
            try rw [hEm]
            clear hEm
            have hcx : ∀ W, Below w.heap.size w W → ∀ j v, (incC x).toList[j]? = some v → W.cell? ((⟨(la.add (n * 5)).block, (la.add (n * 5)).off + 2, none⟩ : Addr).add j) = some v := fun W hW => (hcs W hW).2.2
            have hbd := hb.drew
            have hHd := S.drewN hH 1
            have hRd : IsR w4.drew r xs G := isR_kept hR (fun _ _ => rfl)
            have hadd := S.add E x hHd hE32 hxo
            rw [hpt] at hadd
            have hltG := isR_lt hRd
            refine wp_region_plan (fun W => Below w.heap.size w W) (Plan.of [(0, true), (1, true), (2, true), (3, true), (4, true), (5, true), (6, true), (8, true), (9, true), (10, true), (11, true), (12, true), (13, true), (14, true), (7, false), (15, false), (16, true)] .done) (by kernel_rfl) (by kernel_rfl) (by kernel_rfl) (by kernel_rfl) hbd ?_
            iterate 6
              first
                | (refine plan_pass _ rfl (by rfl) ?_)
                | (refine plan_take _ _ rfl (.inl ⟨by rfl, fun W hS => by clear hS; go_simp; try with_reducible rfl⟩) ?_)
              try simp only [Act.put, List.setIfInBounds_toArray, List.set_cons_zero, List.set_cons_succ]
            refine plan_take _ _ rfl (yields_inc_at x (by rfl) _ rfl ⟨(la.add (n * 5)).block, (la.add (n * 5)).off + 2, none⟩ rfl hcx) ?_
            try simp only [Act.put, List.setIfInBounds_toArray, List.set_cons_zero, List.set_cons_succ]
            iterate 6
              first
                | (refine plan_pass _ rfl (by rfl) ?_)
                | (refine plan_take _ _ rfl (.inl ⟨by rfl, fun W hS => by clear hS; go_simp; try with_reducible rfl⟩) ?_)
              try simp only [Act.put, List.setIfInBounds_toArray, List.set_cons_zero, List.set_cons_succ]
            refine plan_take _ _ rfl (yields_inc_at x (by rfl) _ rfl ⟨(la.add (n * 5)).block, (la.add (n * 5)).off + 2, none⟩ rfl hcx) ?_
            try simp only [Act.put, List.setIfInBounds_toArray, List.set_cons_zero, List.set_cons_succ]
            refine plan_run _ rfl (fun K hK => ?_)
            go_simp
            refine hadd.mono ?_
            rintro e w5 ⟨rfl, ⟨F1, hH1, hF1⟩, hoff⟩
            obtain ⟨hb5, hF1'⟩ := off_step hbd hF hoff hF1
            have hR5 := isR_off hRd hoff (fun b hGb hFb => hFG b hFb hGb)
            have hFG1 : ∀ b, F1 b → ¬ G b := fun b h1 h2 => by
              rcases hF1 b h1 with h | h
              · exact hFG b h h2
              · have := hltG b h2
                have h : w4.drew.heap.size ≤ b := h
                omega
            have hradd := radd_any E x w5 hR5 hE32 hxo
            rw [hrt] at hradd
            refine hK.out _ _ hb5 ?_
            clear hK K hadd hoff hF1 hltG hRd hHd
            refine plan_run _ rfl (fun K hK => ?_)
            go_simp
            refine hradd.mono ?_
            rintro e w6 ⟨rfl, ⟨G1, hR1, hG1⟩, hoff⟩
            obtain ⟨hb6, hG1'⟩ := off_step hb5 hG hoff hG1
            have hlt1 := S.lt hH1
            have hH6 := S.off hH1 hoff hFG1
            have hFG2 : ∀ b, F1 b → ¬ G1 b := fun b h1 h2 => by
              rcases hG1 b h2 with h | h
              · exact hFG1 b h1 h
              · have := hlt1 b h1
                omega
            refine hK.out _ _ hb6 ?_
            clear hK K hradd hoff hG1 hlt1 hH1 hR5 hFG1 hcx
            generalize (addH xs E x).1 = rv at *
            generalize (addH xs E x).2 = ys at *
            iterate 1
              first
                | (refine plan_pass _ rfl (by rfl) ?_)
                | (refine plan_take _ _ rfl (.inl ⟨by rfl, fun W hS => by clear hS; go_simp; try with_reducible rfl⟩) ?_)
              try simp only [Act.put, List.setIfInBounds_toArray, List.set_cons_zero, List.set_cons_succ]
            refine plan_done ?_
            go_wp2
            go_roundw
            case rel => exact ⟨n + 1, ys, F1, G1, by omega, by go_num, hH6, hR1, hFG2, hF1', hG1', hb6⟩
            case measure => simp [intOf]; omega
          | false =>
            clear hrlast
            go_wp2
            have hcx : ∀ W, Below w.heap.size w W → ∀ j v, (incC x).toList[j]? = some v → W.cell? ((⟨(la.add (n * 5)).block, (la.add (n * 5)).off + 2, none⟩ : Addr).add j) = some v := fun W hW => (hcs W hW).2.2
            have hbd := hb.drew
            have hHd := S.drewN hH 1
            have hRd : IsR wr.drew r xs G := isR_kept hR (fun _ _ => rfl)
            have hadd := S.add se x hHd hse hxo
            rw [hpt] at hadd
            have hltG := isR_lt hRd
            refine wp_region_plan (fun W => Below w.heap.size w W) (Plan.of [(0, true), (1, true), (2, true), (3, true), (4, true), (5, true), (6, true), (8, true), (9, true), (10, true), (11, true), (12, true), (13, true), (14, true), (7, false), (15, false), (16, true)] .done) (by kernel_rfl) (by kernel_rfl) (by kernel_rfl) (by kernel_rfl) hbd ?_
            iterate 6
              first
                | (refine plan_pass _ rfl (by rfl) ?_)
                | (refine plan_take _ _ rfl (.inl ⟨by rfl, fun W hS => by clear hS; go_simp; try with_reducible rfl⟩) ?_)
              try simp only [Act.put, List.setIfInBounds_toArray, List.set_cons_zero, List.set_cons_succ]
            refine plan_take _ _ rfl (yields_inc_at x (by rfl) _ rfl ⟨(la.add (n * 5)).block, (la.add (n * 5)).off + 2, none⟩ rfl hcx) ?_
            try simp only [Act.put, List.setIfInBounds_toArray, List.set_cons_zero, List.set_cons_succ]
            iterate 6
              first
                | (refine plan_pass _ rfl (by rfl) ?_)
                | (refine plan_take _ _ rfl (.inl ⟨by rfl, fun W hS => by clear hS; go_simp; try with_reducible rfl⟩) ?_)
              try simp only [Act.put, List.setIfInBounds_toArray, List.set_cons_zero, List.set_cons_succ]
            refine plan_take _ _ rfl (yields_inc_at x (by rfl) _ rfl ⟨(la.add (n * 5)).block, (la.add (n * 5)).off + 2, none⟩ rfl hcx) ?_
            try simp only [Act.put, List.setIfInBounds_toArray, List.set_cons_zero, List.set_cons_succ]
            refine plan_run _ rfl (fun K hK => ?_)
            go_simp
            refine hadd.mono ?_
            rintro e w5 ⟨rfl, ⟨F1, hH1, hF1⟩, hoff⟩
            obtain ⟨hb5, hF1'⟩ := off_step hbd hF hoff hF1
            have hR5 := isR_off hRd hoff (fun b hGb hFb => hFG b hFb hGb)
            have hFG1 : ∀ b, F1 b → ¬ G b := fun b h1 h2 => by
              rcases hF1 b h1 with h | h
              · exact hFG b h h2
              · have := hltG b h2
                have h : wr.drew.heap.size ≤ b := h
                omega
            have hradd := radd_any se x w5 hR5 hse hxo
            rw [hrt] at hradd
            refine hK.out _ _ hb5 ?_
            clear hK K hadd hoff hF1 hltG hRd hHd
            refine plan_run _ rfl (fun K hK => ?_)
            go_simp
            refine hradd.mono ?_
            rintro e w6 ⟨rfl, ⟨G1, hR1, hG1⟩, hoff⟩
            obtain ⟨hb6, hG1'⟩ := off_step hb5 hG hoff hG1
            have hlt1 := S.lt hH1
            have hH6 := S.off hH1 hoff hFG1
            have hFG2 : ∀ b, F1 b → ¬ G1 b := fun b h1 h2 => by
              rcases hG1 b h2 with h | h
              · exact hFG1 b h1 h
              · have := hlt1 b h1
                omega
            refine hK.out _ _ hb6 ?_
            clear hK K hradd hoff hG1 hlt1 hH1 hR5 hFG1 hcx
            generalize (addH xs se x).1 = rv at *
            generalize (addH xs se x).2 = ys at *
            iterate 1
              first
                | (refine plan_pass _ rfl (by rfl) ?_)
                | (refine plan_take _ _ rfl (.inl ⟨by rfl, fun W hS => by clear hS; go_simp; try with_reducible rfl⟩) ?_)
              try simp only [Act.put, List.setIfInBounds_toArray, List.set_cons_zero, List.set_cons_succ]
            refine plan_done ?_
            go_wp2
            go_roundw
            case rel => exact ⟨n + 1, ys, F1, G1, by omega, by go_num, hH6, hR1, hFG2, hF1', hG1', hb6⟩
            case measure => simp [intOf]; omega
      · have hnI : (l.length : Int) ≤ (n : Int) := by omega
        obtain ⟨hgood, lo, lc, hP, hSr⟩ := isR_get hR
        have hxl := lenH hgood
        have hal := alike_any S g wr hH hR hg
        rw [hpt, hrt] at hal
        go_wp2_with fail
        refine hal.mono ?_
        rintro e w4 ⟨rfl, hq⟩
        replace hb := hb.trans (hq.mono hb.size)
        replace hH := S.later hH hq
        replace hR := isR_later hR hq
        replace hP := hP.later hq
        replace hSr := hSr.later hq
        clear hq hal
        have hmap := S.map ep hH hep
        rw [hpt] at hmap
        have hM0 : Hid ((mapE xs ep).1 = (mapE xs ep).1) := rfl
        obtain ⟨M, hMe⟩ : ∃ M, M = (mapE xs ep).1 := ⟨_, rfl⟩
        obtain ⟨okm, hok⟩ : ∃ b, b = (mapE xs ep).2 := ⟨_, rfl⟩
        obtain ⟨X, hXe⟩ : ∃ X, X = (incE xs ep).1 := ⟨_, rfl⟩
        obtain ⟨oki, hoi⟩ : ∃ b, b = (incE xs ep).2 := ⟨_, rfl⟩
        rw [← hMe, ← hok] at hmap
        replace hMe : Hid _ := hMe
        replace hok : Hid _ := hok
        replace hXe : Hid _ := hXe
        replace hoi : Hid _ := hoi
        clear hM0
        go_wp2_with fail
        refine hmap.mono ?_
        rintro e w5 ⟨rfl, hq⟩
        have hM := (Has.new w5 44 (mapC zeroM)).row (mapC M)
        have hbb := hq.trans ((below_setRow ((Below.refl w5.heap.size w5).alloc (Nat.le_refl _) (.cells (mapC zeroM) 44)) (Nat.le_refl _) (mapC M)).mono hq.size)
        replace hb := hb.trans (hbb.mono hb.size)
        replace hH := S.later hH hbb
        replace hR := isR_later hR hbb
        replace hP := hP.later hbb
        replace hSr := hSr.later hbb
        clear hq hbb hmap
        go_wp2_with (first
          | (refine alloc_map (by rfl) rfl ?_)
          | (refine store_map M zeroM (by rfl) _ _ rfl _ rfl rfl ?hg ?_; (case hg => exact Has.new _ _ _); generalize (w5.alloc (.cells (mapC zeroM) 44)).setRow w5.heap.size (mapC M) = w6 at *; generalize w5.heap.size = gm at *))
        have hinc := S.inc ep hH hep
        rw [hpt, ← hXe.out, ← hoi.out] at hinc
        refine hinc.mono ?_
        rintro e w7 ⟨rfl, hq⟩
        have hX := (Has.new w7 32 (incC ⟨0, 0, 0⟩)).row (incC X)
        have hbb := hq.trans ((below_setRow ((Below.refl w7.heap.size w7).alloc (Nat.le_refl _) (.cells (incC ⟨0, 0, 0⟩) 32)) (Nat.le_refl _) (incC X)).mono hq.size)
        replace hb := hb.trans (hbb.mono hb.size)
        replace hH := S.later hH hbb
        replace hR := isR_later hR hbb
        replace hP := hP.later hbb
        replace hSr := hSr.later hbb
        replace hM := hM.later hbb
        clear hq hbb hinc
        obtain ⟨m, hm⟩ : ∃ m, m = xs.length + 1 := ⟨_, rfl⟩
        have hrlast := fun W (hW : Has W r 30 #[.slice lo xs.length lc]) => rlast_any r lo lc xs W hW (by omega)
        rw [← hm, hrt] at hrlast
        have hm' : Hid (m = xs.length + 1) := hm
        have hmI : (m : Int) ≤ 60 := by omega
        have hm60 : m ≤ 60 := by omega
        clear hm
        by_cases h0 : ep < 1
        · have h0I : (ep : Int) < 1 := by omega
          obtain rfl : M = zeroM := by rw [hMe.out, mapE_no (by omega)]
          obtain rfl : okm = false := by rw [hok.out, mapE_no (by omega)]
          obtain rfl : X = ⟨0, 0, 0⟩ := by rw [hXe.out, incE_no (by omega)]
          obtain rfl : oki = false := by rw [hoi.out, incE_no (by omega)]
          clear h0
          go_wp2_with (first
            | (refine alloc_inc (by rfl) rfl ?_)
            | (refine store_inc (⟨0, 0, 0⟩ : IncV) ⟨0, 0, 0⟩ (by rfl) _ _ rfl _ rfl rfl ?hg ?_; (case hg => exact Has.new _ _ _); generalize (w7.alloc (.cells (incC ⟨0, 0, 0⟩) 32)).setRow w7.heap.size (incC (⟨0, 0, 0⟩ : IncV)) = w8 at *; generalize w7.heap.size = gi at *))
          have hbd := hb.drew
          refine wp_region_plan (fun W => Below w.heap.size w W ∧ Has W gm 44 (mapC zeroM) ∧ Has W gi 32 (incC (⟨0, 0, 0⟩ : IncV)) ∧ IsR W r xs G ∧ Is W p xs F ∧ Has W r 30 #[.slice (lo) xs.length lc] ∧ Sl W (lo) lc 3 (incR xs)) (Plan.of [(0, true), (1, true), (2, true), (3, true), (4, true), (5, true), (6, true), (7, true), (8, true), (9, true), (10, true), (11, true), (12, true), (13, true), (14, true), (15, true), (16, true), (17, true), (18, false), (19, true), (20, true), (21, true), (22, true), (23, true), (24, true), (25, true), (26, true), (27, true), (28, true), (29, true), (30, true), (31, true), (32, true), (33, true), (34, true), (35, true), (36, true)] .done) (by kernel_rfl) (by kernel_rfl) (by kernel_rfl) (by kernel_rfl) ⟨hbd, hM.drew, hX.drew, isR_kept hR (fun _ _ => rfl), S.drewN hH 1, hP.drew, hSr.drewN 1⟩ ?_
          iterate 18
            first
              | (refine plan_pass _ rfl (by rfl) ?_)
              | (refine plan_take _ _ rfl (.inl ⟨by rfl, fun W hS => by clear hS; go_simp; try with_reducible rfl⟩) ?_)
            try simp only [Act.put, List.setIfInBounds_toArray, List.set_cons_zero, List.set_cons_succ]
          refine plan_run _ rfl (fun K hK => ?_)
          rw [if_neg (by simp [Region.wanted, yielded])]
          refine hK.out _ _ ⟨hbd, hM.drew, hX.drew, isR_kept hR (fun _ _ => rfl), S.drewN hH 1, hP.drew, hSr.drewN 1⟩ ?_
          clear hK K
          replace hb := hbd
          replace hR : IsR w8.drew r xs G := isR_kept hR (fun _ _ => rfl)
          replace hH : Is w8.drew p xs F := S.drewN hH 1
          clear hbd
          iterate 18
            first
              | (refine plan_pass _ rfl (by rfl) ?_)
              | (refine plan_take _ _ rfl (.inl ⟨by rfl, fun W hS => by clear hS; go_simp; try with_reducible rfl⟩) ?_)
            try simp only [Act.put, List.setIfInBounds_toArray, List.set_cons_zero, List.set_cons_succ]
          refine plan_done ?_
          have hcp := S.copy hH
          rw [hpt] at hcp
          have hltF := S.lt hH
          have hltG := isR_lt hR
          have hbsz := hb.size
          clear hM hX hP hSr
          go_wp2_with fail
          refine hcp.mono ?_
          rintro e wc ⟨q, C, rfl, hC, hCf, hq⟩
          have hqt : ptr q = .pointer (some ⟨q, 0, none⟩) := rfl
          rw [hqt]
          replace hH := S.later hH hq
          replace hR := isR_later hR hq
          replace hb := hb.trans (hq.mono hb.size)
          have hFC : ∀ b, F b → ¬ C b := fun b h1 h2 => by have := hltF b h1; have := hCf b h2; omega
          have hGC : ∀ b, G b → ¬ C b := fun b h1 h2 => by have := hltG b h1; have := hCf b h2; omega
          have hCw : ∀ b, C b → w.heap.size ≤ b := fun b h2 => by have := hCf b h2; omega
          clear hcp hq hltF hltG hCf hbsz
          have hla := S.last hC
          rw [hqt] at hla
          have hla : Calls Try.prog 19 #[.pointer (some ⟨q, 0, none⟩)] wc (fun en w' => en = .returned (.int .u32 (m : Nat)) ∧ Below wc.heap.size wc w') := by rw [hm'.out]; exact hla
          go_wp2_with fail
          refine hla.mono ?_
          rintro e wd ⟨rfl, hq⟩
          replace hC := S.later hC hq
          replace hH := S.later hH hq
          replace hR := isR_later hR hq
          replace hb := hb.trans (hq.mono hb.size)
          clear hq hla
          have had := S.add (m + 1) incN hC (by omega) incN_ok
          rw [hqt] at had
          go_wp2_with fail
          refine had.mono ?_
          rintro e we ⟨rfl, _, hoff⟩
          replace hH := S.off hH hoff hFC
          replace hR := isR_off hR hoff hGC
          have hb2 := hb.trans (hoff.below hCw hb.size)
          clear had hoff hC hb
          generalize (addH xs (m + 1) incN).1 = rv at *
          have hal := alike_any S g we hH hR hg
          rw [hpt, hrt] at hal
          go_wp2_with fail
          refine hal.mono ?_
          rintro e wf ⟨rfl, hq⟩
          have hb3 := hb2.trans (hq.mono hb2.size)
          clear hal hq hb2
          go_wp2
          go_ret
          exact ⟨rfl, hb3⟩
        · by_cases h1 : m < ep
          · have h0I : (1 : Int) ≤ (ep : Int) := by omega
            have h1I : (m : Int) < (ep : Int) := by omega
            obtain rfl : M = zeroM := by rw [hMe.out, mapE_no (by have := hm'.out; omega)]
            obtain rfl : okm = false := by rw [hok.out, mapE_no (by have := hm'.out; omega)]
            obtain rfl : X = ⟨0, 0, 0⟩ := by rw [hXe.out, incE_no (by have := hm'.out; omega)]
            obtain rfl : oki = false := by rw [hoi.out, incE_no (by have := hm'.out; omega)]
            clear h0 h1
            go_wp2_with (first
              | (refine alloc_inc (by rfl) rfl ?_)
              | (refine store_inc (⟨0, 0, 0⟩ : IncV) ⟨0, 0, 0⟩ (by rfl) _ _ rfl _ rfl rfl ?hg ?_; (case hg => exact Has.new _ _ _); generalize (w7.alloc (.cells (incC ⟨0, 0, 0⟩) 32)).setRow w7.heap.size (incC (⟨0, 0, 0⟩ : IncV)) = w8 at *; generalize w7.heap.size = gi at *))
            refine (hrlast _ hP).mono ?_
            rintro e w8' ⟨rfl, rfl⟩
            go_wp2
            try rw [show decide (ep ≤ m) = false from decide_eq_false (by omega)]
            have hbd := hb.drew
            refine wp_region_plan (fun W => Below w.heap.size w W ∧ Has W gm 44 (mapC zeroM) ∧ Has W gi 32 (incC (⟨0, 0, 0⟩ : IncV)) ∧ IsR W r xs G ∧ Is W p xs F ∧ Has W r 30 #[.slice (lo) xs.length lc] ∧ Sl W (lo) lc 3 (incR xs)) (Plan.of [(0, true), (1, true), (2, true), (3, true), (4, true), (5, true), (6, true), (7, true), (8, true), (9, true), (10, true), (11, true), (12, true), (13, true), (14, true), (15, true), (16, true), (17, true), (18, false), (19, true), (20, true), (21, true), (22, true), (23, true), (24, true), (25, true), (26, true), (27, true), (28, true), (29, true), (30, true), (31, true), (32, true), (33, true), (34, true), (35, true), (36, true)] .done) (by kernel_rfl) (by kernel_rfl) (by kernel_rfl) (by kernel_rfl) ⟨hbd, hM.drew, hX.drew, isR_kept hR (fun _ _ => rfl), S.drewN hH 1, hP.drew, hSr.drewN 1⟩ ?_
            iterate 18
              first
                | (refine plan_pass _ rfl (by rfl) ?_)
                | (refine plan_take _ _ rfl (.inl ⟨by rfl, fun W hS => by clear hS; go_simp; try with_reducible rfl⟩) ?_)
              try simp only [Act.put, List.setIfInBounds_toArray, List.set_cons_zero, List.set_cons_succ]
            refine plan_run _ rfl (fun K hK => ?_)
            rw [if_neg (by simp [Region.wanted, yielded])]
            refine hK.out _ _ ⟨hbd, hM.drew, hX.drew, isR_kept hR (fun _ _ => rfl), S.drewN hH 1, hP.drew, hSr.drewN 1⟩ ?_
            clear hK K
            replace hb := hbd
            replace hR : IsR w8'.drew r xs G := isR_kept hR (fun _ _ => rfl)
            replace hH : Is w8'.drew p xs F := S.drewN hH 1
            clear hbd
            iterate 18
              first
                | (refine plan_pass _ rfl (by rfl) ?_)
                | (refine plan_take _ _ rfl (.inl ⟨by rfl, fun W hS => by clear hS; go_simp; try with_reducible rfl⟩) ?_)
              try simp only [Act.put, List.setIfInBounds_toArray, List.set_cons_zero, List.set_cons_succ]
            refine plan_done ?_
            have hcp := S.copy hH
            rw [hpt] at hcp
            have hltF := S.lt hH
            have hltG := isR_lt hR
            have hbsz := hb.size
            clear hM hX hP hSr
            go_wp2_with fail
            refine hcp.mono ?_
            rintro e wc ⟨q, C, rfl, hC, hCf, hq⟩
            have hqt : ptr q = .pointer (some ⟨q, 0, none⟩) := rfl
            rw [hqt]
            replace hH := S.later hH hq
            replace hR := isR_later hR hq
            replace hb := hb.trans (hq.mono hb.size)
            have hFC : ∀ b, F b → ¬ C b := fun b h1 h2 => by have := hltF b h1; have := hCf b h2; omega
            have hGC : ∀ b, G b → ¬ C b := fun b h1 h2 => by have := hltG b h1; have := hCf b h2; omega
            have hCw : ∀ b, C b → w.heap.size ≤ b := fun b h2 => by have := hCf b h2; omega
            clear hcp hq hltF hltG hCf hbsz
            have hla := S.last hC
            rw [hqt] at hla
            have hla : Calls Try.prog 19 #[.pointer (some ⟨q, 0, none⟩)] wc (fun en w' => en = .returned (.int .u32 (m : Nat)) ∧ Below wc.heap.size wc w') := by rw [hm'.out]; exact hla
            go_wp2_with fail
            refine hla.mono ?_
            rintro e wd ⟨rfl, hq⟩
            replace hC := S.later hC hq
            replace hH := S.later hH hq
            replace hR := isR_later hR hq
            replace hb := hb.trans (hq.mono hb.size)
            clear hq hla
            have had := S.add (m + 1) incN hC (by omega) incN_ok
            rw [hqt] at had
            go_wp2_with fail
            refine had.mono ?_
            rintro e we ⟨rfl, _, hoff⟩
            replace hH := S.off hH hoff hFC
            replace hR := isR_off hR hoff hGC
            have hb2 := hb.trans (hoff.below hCw hb.size)
            clear had hoff hC hb
            generalize (addH xs (m + 1) incN).1 = rv at *
            have hal := alike_any S g we hH hR hg
            rw [hpt, hrt] at hal
            go_wp2_with fail
            refine hal.mono ?_
            rintro e wf ⟨rfl, hq⟩
            have hb3 := hb2.trans (hq.mono hb2.size)
            clear hal hq hb2
            go_wp2
            go_ret
            exact ⟨rfl, hb3⟩
          · have h0I : (1 : Int) ≤ (ep : Int) := by omega
            have h1I : (ep : Int) ≤ (m : Int) := by omega
            have hin : 1 ≤ ep ∧ ep ≤ xs.length + 1 := by have := hm'.out; omega
            obtain rfl : M = mapH xs (ep - 1) := by rw [hMe.out, mapE_yes hin]
            obtain rfl : okm = true := by rw [hok.out, mapE_yes hin]
            have hokM := okH hgood (ep - 1) (by omega)
            have hrmap := fun W (hW : Has W r 30 #[.slice lo xs.length lc]) (hS : Sl W lo lc 3 (incR xs)) => rmap_any r lo lc xs ep W hW hS hgood hep
            rw [show min (ep - 1) xs.length = ep - 1 by omega, hrt] at hrmap
            by_cases h2 : ep < 2
            · have h2I : (ep : Int) < 2 := by omega
              obtain rfl : X = ⟨0, 0, 0⟩ := by rw [hXe.out, incE_no (by omega)]
              obtain rfl : oki = false := by rw [hoi.out, incE_no (by omega)]
              clear h0 h1 h2 hin
              generalize mapH xs (ep - 1) = M at *
              go_wp2_with (first
                | (refine alloc_inc (by rfl) rfl ?_)
                | (refine store_inc (⟨0, 0, 0⟩ : IncV) ⟨0, 0, 0⟩ (by rfl) _ _ rfl _ rfl rfl ?hg ?_; (case hg => exact Has.new _ _ _); generalize (w7.alloc (.cells (incC ⟨0, 0, 0⟩) 32)).setRow w7.heap.size (incC (⟨0, 0, 0⟩ : IncV)) = w8 at *; generalize w7.heap.size = gi at *))
              refine (hrlast _ hP).mono ?_
              rintro e w8 ⟨rfl, rfl⟩
              clear hrlast
              go_wp2
              try rw [show decide (ep ≤ m) = true from decide_eq_true (by omega)]
              have hbd := hb.drew
              refine wp_region_plan (fun W => Below w.heap.size w W ∧ Has W gm 44 (mapC M) ∧ Has W gi 32 (incC (⟨0, 0, 0⟩ : IncV)) ∧ IsR W r xs G ∧ Is W p xs F ∧ Has W r 30 #[.slice (lo) xs.length lc] ∧ Sl W (lo) lc 3 (incR xs)) (Plan.of [(0, true), (1, true), (2, true), (3, true), (4, true), (5, true), (6, true), (7, true), (8, true), (9, true), (10, true), (11, true), (12, true), (13, true), (14, true), (15, true), (16, true), (17, true), (18, false), (19, true), (20, true), (21, true), (22, true), (23, true), (24, true), (25, true), (26, true), (27, true), (28, true), (29, true), (30, true), (31, true), (32, true), (33, true), (34, true), (35, true), (36, true)] .done) (by kernel_rfl) (by kernel_rfl) (by kernel_rfl) (by kernel_rfl) ⟨hbd, hM.drew, hX.drew, isR_kept hR (fun _ _ => rfl), S.drewN hH 1, hP.drew, hSr.drewN 1⟩ ?_
              iterate 8
                first
                  | (refine plan_pass _ rfl (by rfl) ?_)
                  | (refine plan_take _ _ rfl (.inl ⟨by rfl, fun W hS => by clear hS; go_simp; try with_reducible rfl⟩) ?_)
                try simp only [Act.put, List.setIfInBounds_toArray, List.set_cons_zero, List.set_cons_succ]
              refine plan_take _ (.bool false) rfl (.inl ⟨by rfl, fun W hS => by clear hS; go_simp; first | done | omega | (simp; omega) | (simp; done)⟩) ?_
              try simp only [Act.put, List.setIfInBounds_toArray, List.set_cons_zero, List.set_cons_succ]
              iterate 6
                first
                  | (refine plan_pass _ rfl (by rfl) ?_)
                  | (refine plan_take _ _ rfl (.inl ⟨by rfl, fun W hS => by clear hS; go_simp; try with_reducible rfl⟩) ?_)
                try simp only [Act.put, List.setIfInBounds_toArray, List.set_cons_zero, List.set_cons_succ]
              refine plan_take _ _ rfl (yields_map M (by rfl) _ rfl gm rfl (fun _ h => h.2.1)) ?_
              try simp only [Act.put, List.setIfInBounds_toArray, List.set_cons_zero, List.set_cons_succ]
              iterate 2
                first
                  | (refine plan_pass _ rfl (by rfl) ?_)
                  | (refine plan_take _ _ rfl (.inl ⟨by rfl, fun W hS => by clear hS; go_simp; try with_reducible rfl⟩) ?_)
                try simp only [Act.put, List.setIfInBounds_toArray, List.set_cons_zero, List.set_cons_succ]
              refine plan_run _ rfl (fun K hK => ?_)
              go_simp
              refine (hrmap _ hP.drew (hSr.drewN 1)).mono ?_
              rintro e w9 ⟨rfl, hq⟩
              replace hb := hbd.trans (hq.mono hb.size)
              replace hM := hM.drew.later hq
              replace hX := hX.drew.later hq
              replace hR : IsR w9 r xs G := isR_later (isR_kept hR (fun _ _ => rfl) : IsR w8.drew r xs G) hq
              replace hH : Is w9 p xs F := S.later (S.drewN hH 1) hq
              replace hP := hP.drew.later hq
              replace hSr := (hSr.drewN 1).later hq
              refine hK.out _ _ ⟨hb, hM, hX, hR, hH, hP, hSr⟩ ?_
              clear hK K hq hbd
              refine plan_take _ _ rfl (yields_neq_map _ hokM (by rfl) _ _ _ rfl rfl rfl) ?_
              try simp only [Act.put, List.setIfInBounds_toArray, List.set_cons_zero, List.set_cons_succ]
              iterate 17
                first
                  | (refine plan_pass _ rfl (by rfl) ?_)
                  | (refine plan_take _ _ rfl (.inl ⟨by rfl, fun W hS => by clear hS; go_simp; try with_reducible rfl⟩) ?_)
                try simp only [Act.put, List.setIfInBounds_toArray, List.set_cons_zero, List.set_cons_succ]
              refine plan_done ?_
              have hcp := S.copy hH
              rw [hpt] at hcp
              have hltF := S.lt hH
              have hltG := isR_lt hR
              have hbsz := hb.size
              clear hM hX hP hSr
              go_wp2_with fail
              refine hcp.mono ?_
              rintro e wc ⟨q, C, rfl, hC, hCf, hq⟩
              have hqt : ptr q = .pointer (some ⟨q, 0, none⟩) := rfl
              rw [hqt]
              replace hH := S.later hH hq
              replace hR := isR_later hR hq
              replace hb := hb.trans (hq.mono hb.size)
              have hFC : ∀ b, F b → ¬ C b := fun b h1 h2 => by have := hltF b h1; have := hCf b h2; omega
              have hGC : ∀ b, G b → ¬ C b := fun b h1 h2 => by have := hltG b h1; have := hCf b h2; omega
              have hCw : ∀ b, C b → w.heap.size ≤ b := fun b h2 => by have := hCf b h2; omega
              clear hcp hq hltF hltG hCf hbsz
              have hla := S.last hC
              rw [hqt] at hla
              have hla : Calls Try.prog 19 #[.pointer (some ⟨q, 0, none⟩)] wc (fun en w' => en = .returned (.int .u32 (m : Nat)) ∧ Below wc.heap.size wc w') := by rw [hm'.out]; exact hla
              go_wp2_with fail
              refine hla.mono ?_
              rintro e wd ⟨rfl, hq⟩
              replace hC := S.later hC hq
              replace hH := S.later hH hq
              replace hR := isR_later hR hq
              replace hb := hb.trans (hq.mono hb.size)
              clear hq hla
              have had := S.add (m + 1) incN hC (by omega) incN_ok
              rw [hqt] at had
              go_wp2_with fail
              refine had.mono ?_
              rintro e we ⟨rfl, _, hoff⟩
              replace hH := S.off hH hoff hFC
              replace hR := isR_off hR hoff hGC
              have hb2 := hb.trans (hoff.below hCw hb.size)
              clear had hoff hC hb
              generalize (addH xs (m + 1) incN).1 = rv at *
              have hal := alike_any S g we hH hR hg
              rw [hpt, hrt] at hal
              go_wp2_with fail
              refine hal.mono ?_
              rintro e wf ⟨rfl, hq⟩
              have hb3 := hb2.trans (hq.mono hb2.size)
              clear hal hq hb2
              go_wp2
              go_ret
              exact ⟨rfl, hb3⟩
            · have h2I : (2 : Int) ≤ (ep : Int) := by omega
              obtain ⟨k, hk⟩ : ∃ k, ep = k + 2 := ⟨ep - 2, by omega⟩
              have hkl : k < xs.length := by omega
              obtain rfl : X = xs[k] := by rw [hXe.out, hk, incE_yes hkl]
              obtain rfl : oki = true := by rw [hoi.out, hk, incE_yes hkl]
              have hokX := (hgood k hkl).2
              cases lo with
              | none => have h1 := hSr.nil rfl; have h3 := hSr.le; rw [incR_len] at h3; omega
              | some lb =>
                have hci : ∀ W, Sl W (some lb) lc 3 (incR xs) → ∀ j v, (incC xs[k]).toList[j]? = some v → W.cell? ((lb.add (k * 3)).add j) = some v := fun W hW => incR_at hW k hkl
                have hwr : IntKind.u32.wrap ((ep : Int) - 2) = (k : Int) := by
                  rw [hk]
                  simp [IntKind.wrap, IntKind.bits, IntKind.signed]
                  omega
                have hkI : (k : Int) < (xs.length : Int) := by omega
                clear h0 h1 h2 hin hk
                generalize mapH xs (ep - 1) = M at *
                generalize xs[k] = X at *
                go_wp2_with (first
                  | (refine alloc_inc (by rfl) rfl ?_)
                  | (refine store_inc (X) ⟨0, 0, 0⟩ (by rfl) _ _ rfl _ rfl rfl ?hg ?_; (case hg => exact Has.new _ _ _); generalize (w7.alloc (.cells (incC ⟨0, 0, 0⟩) 32)).setRow w7.heap.size (incC (X)) = w8 at *; generalize w7.heap.size = gi at *))
                refine (hrlast _ hP).mono ?_
                rintro e w8 ⟨rfl, rfl⟩
                clear hrlast
                go_wp2
                try rw [show decide (ep ≤ m) = true from decide_eq_true (by omega)]
                have hbd := hb.drew
                refine wp_region_plan (fun W => Below w.heap.size w W ∧ Has W gm 44 (mapC M) ∧ Has W gi 32 (incC X) ∧ IsR W r xs G ∧ Is W p xs F ∧ Has W r 30 #[.slice (some lb) xs.length lc] ∧ Sl W (some lb) lc 3 (incR xs)) (Plan.of [(0, true), (1, true), (2, true), (3, true), (4, true), (5, true), (6, true), (7, true), (8, true), (9, true), (10, true), (11, true), (12, true), (13, true), (14, true), (15, true), (16, true), (17, true), (18, false), (19, true), (20, true), (21, true), (22, true), (23, true), (24, true), (25, true), (26, true), (27, true), (28, true), (29, true), (30, true), (31, true), (32, true), (33, true), (34, true), (35, true), (36, true)] .done) (by kernel_rfl) (by kernel_rfl) (by kernel_rfl) (by kernel_rfl) ⟨hbd, hM.drew, hX.drew, isR_kept hR (fun _ _ => rfl), S.drewN hH 1, hP.drew, hSr.drewN 1⟩ ?_
                iterate 8
                  first
                    | (refine plan_pass _ rfl (by rfl) ?_)
                    | (refine plan_take _ _ rfl (.inl ⟨by rfl, fun W hS => by clear hS; go_simp; try with_reducible rfl⟩) ?_)
                  try simp only [Act.put, List.setIfInBounds_toArray, List.set_cons_zero, List.set_cons_succ]
                refine plan_take _ (.bool true) rfl (.inl ⟨by rfl, fun W hS => by clear hS; go_simp; first | done | omega | (simp; omega) | (simp; done)⟩) ?_
                try simp only [Act.put, List.setIfInBounds_toArray, List.set_cons_zero, List.set_cons_succ]
                iterate 6
                  first
                    | (refine plan_pass _ rfl (by rfl) ?_)
                    | (refine plan_take _ _ rfl (.inl ⟨by rfl, fun W hS => by clear hS; go_simp; try with_reducible rfl⟩) ?_)
                  try simp only [Act.put, List.setIfInBounds_toArray, List.set_cons_zero, List.set_cons_succ]
                refine plan_take _ _ rfl (yields_map M (by rfl) _ rfl gm rfl (fun _ h => h.2.1)) ?_
                try simp only [Act.put, List.setIfInBounds_toArray, List.set_cons_zero, List.set_cons_succ]
                iterate 2
                  first
                    | (refine plan_pass _ rfl (by rfl) ?_)
                    | (refine plan_take _ _ rfl (.inl ⟨by rfl, fun W hS => by clear hS; go_simp; try with_reducible rfl⟩) ?_)
                  try simp only [Act.put, List.setIfInBounds_toArray, List.set_cons_zero, List.set_cons_succ]
                refine plan_run _ rfl (fun K hK => ?_)
                go_simp
                refine (hrmap _ hP.drew (hSr.drewN 1)).mono ?_
                rintro e w9 ⟨rfl, hq⟩
                replace hb := hbd.trans (hq.mono hb.size)
                replace hM := hM.drew.later hq
                replace hX := hX.drew.later hq
                replace hR : IsR w9 r xs G := isR_later (isR_kept hR (fun _ _ => rfl) : IsR w8.drew r xs G) hq
                replace hH : Is w9 p xs F := S.later (S.drewN hH 1) hq
                replace hP := hP.drew.later hq
                replace hSr := (hSr.drewN 1).later hq
                refine hK.out _ _ ⟨hb, hM, hX, hR, hH, hP, hSr⟩ ?_
                clear hK K hq hbd
                refine plan_take _ _ rfl (yields_neq_map _ hokM (by rfl) _ _ _ rfl rfl rfl) ?_
                try simp only [Act.put, List.setIfInBounds_toArray, List.set_cons_zero, List.set_cons_succ]
                iterate 5
                  first
                    | (refine plan_pass _ rfl (by rfl) ?_)
                    | (refine plan_take _ _ rfl (.inl ⟨by rfl, fun W hS => by clear hS; go_simp; try with_reducible rfl⟩) ?_)
                  try simp only [Act.put, List.setIfInBounds_toArray, List.set_cons_zero, List.set_cons_succ]
                refine plan_take _ _ rfl (yields_inc X (by rfl) _ rfl gi rfl (fun _ h => h.2.2.1)) ?_
                try simp only [Act.put, List.setIfInBounds_toArray, List.set_cons_zero, List.set_cons_succ]
                iterate 3
                  first
                    | (refine plan_pass _ rfl (by rfl) ?_)
                    | (refine plan_take _ _ rfl (.inl ⟨by rfl, fun W hS => by clear hS; go_simp; try with_reducible rfl⟩) ?_)
                  try simp only [Act.put, List.setIfInBounds_toArray, List.set_cons_zero, List.set_cons_succ]
                iterate 1
                  first
                    | (refine plan_pass _ rfl (by rfl) ?_)
                    | (refine plan_take _ _ rfl (.inl ⟨by rfl, fun W hS => by have z1 := (hS.2.2.2.2.2.1.cell 0).trans rfl; go_simp; try with_reducible rfl⟩) ?_)
                  try simp only [Act.put, List.setIfInBounds_toArray, List.set_cons_zero, List.set_cons_succ]
                iterate 3
                  first
                    | (refine plan_pass _ rfl (by rfl) ?_)
                    | (refine plan_take _ _ rfl (.inl ⟨by rfl, fun W hS => by clear hS; go_simp; try with_reducible rfl⟩) ?_)
                  try simp only [Act.put, List.setIfInBounds_toArray, List.set_cons_zero, List.set_cons_succ]
                refine plan_take _ _ rfl (yields_inc_at X (by rfl) _ rfl (lb.add (k * 3)) rfl (fun W h => hci W h.2.2.2.2.2.2)) ?_
                try simp only [Act.put, List.setIfInBounds_toArray, List.set_cons_zero, List.set_cons_succ]
                refine plan_take _ _ rfl (yields_neq_inc X hokX (by rfl) _ _ _ rfl rfl rfl) ?_
                try simp only [Act.put, List.setIfInBounds_toArray, List.set_cons_zero, List.set_cons_succ]
                iterate 2
                  first
                    | (refine plan_pass _ rfl (by rfl) ?_)
                    | (refine plan_take _ _ rfl (.inl ⟨by rfl, fun W hS => by clear hS; go_simp; try with_reducible rfl⟩) ?_)
                  try simp only [Act.put, List.setIfInBounds_toArray, List.set_cons_zero, List.set_cons_succ]
                refine plan_done ?_
                have hcp := S.copy hH
                rw [hpt] at hcp
                have hltF := S.lt hH
                have hltG := isR_lt hR
                have hbsz := hb.size
                clear hM hX hP hSr
                go_wp2_with fail
                refine hcp.mono ?_
                rintro e wc ⟨q, C, rfl, hC, hCf, hq⟩
                have hqt : ptr q = .pointer (some ⟨q, 0, none⟩) := rfl
                rw [hqt]
                replace hH := S.later hH hq
                replace hR := isR_later hR hq
                replace hb := hb.trans (hq.mono hb.size)
                have hFC : ∀ b, F b → ¬ C b := fun b h1 h2 => by have := hltF b h1; have := hCf b h2; omega
                have hGC : ∀ b, G b → ¬ C b := fun b h1 h2 => by have := hltG b h1; have := hCf b h2; omega
                have hCw : ∀ b, C b → w.heap.size ≤ b := fun b h2 => by have := hCf b h2; omega
                clear hcp hq hltF hltG hCf hbsz
                have hla := S.last hC
                rw [hqt] at hla
                have hla : Calls Try.prog 19 #[.pointer (some ⟨q, 0, none⟩)] wc (fun en w' => en = .returned (.int .u32 (m : Nat)) ∧ Below wc.heap.size wc w') := by rw [hm'.out]; exact hla
                go_wp2_with fail
                refine hla.mono ?_
                rintro e wd ⟨rfl, hq⟩
                replace hC := S.later hC hq
                replace hH := S.later hH hq
                replace hR := isR_later hR hq
                replace hb := hb.trans (hq.mono hb.size)
                clear hq hla
                have had := S.add (m + 1) incN hC (by omega) incN_ok
                rw [hqt] at had
                go_wp2_with fail
                refine had.mono ?_
                rintro e we ⟨rfl, _, hoff⟩
                replace hH := S.off hH hoff hFC
                replace hR := isR_off hR hoff hGC
                have hb2 := hb.trans (hoff.below hCw hb.size)
                clear had hoff hC hb
                generalize (addH xs (m + 1) incN).1 = rv at *
                have hal := alike_any S g we hH hR hg
                rw [hpt, hrt] at hal
                go_wp2_with fail
                refine hal.mono ?_
                rintro e wf ⟨rfl, hq⟩
                have hb3 := hb2.trans (hq.mono hb2.size)
                clear hal hq hb2
                go_wp2
                go_ret
                exact ⟨rfl, hb3⟩
  · have hlenI : (30 : Int) < (l.length : Int) := by omega
    go_wp2
    go_ret
    exact ⟨rfl, hb⟩
end Go.Proofs.Ytmfgmdglpeadbaa
