/- paddocklaw5.HistoryCuts returns true, for whatever row of increments and group, where package history answers as it has to. -/
import Derived.Test.YtmfgmdglpeadbaaCutFacts
import Derived.Test.YtmfgmdglpeadbaaPackPlace
namespace Go.Proofs.Ytmfgmdglpeadbaa
set_option linter.unusedSimpArgs false
set_option linter.unusedVariables false
open Go.RowKit

theorem takeH_le (l : List IncV) (i : Nat) : (takeH l i).length ≤ i := by
  induction i with
  | zero => exact Nat.le_refl _
  | succ i ih =>
    by_cases h : i < l.length
    · rw [takeH_succ h]
      rcases add_next (takeH l i) l[i] with ⟨e, _⟩ | ⟨e, _⟩
      · rw [e]; simp; omega
      · rw [e]; show (takeH l i).length ≤ i + 1; omega
    · have : takeH l (i + 1) = takeH l i := by
        unfold takeH
        rw [List.take_of_length_le (by omega), List.take_of_length_le (by omega)]
      rw [this]; omega

theorem iv_cells {w : World} {ad : Addr} {c : Nat} {l : List (Nat × List Int)} (h : Iv w (some ad) c l) (i : Nat) (hi : i < l.length) : w.cell? (ad.add (i * 2)) = some (.int .u32 (l[i].1 : Nat)) := (h.at' ad rfl i hi).1

set_option maxRecDepth 100000 in
set_option maxHeartbeats 8000000 in
theorem hcuts_walk {Is : World → Nat → List IncV → (Nat → Prop) → Prop} (S : HistSpec Is) (ao : Option Addr) (c : Nat) (l : List IncV) (g : Nat) (w : World) (hS : Sl w ao c 3 (incR l)) (hl : ∀ x ∈ l, IncOk x) (hg : g < 256) :
    Calls Try.prog 4 #[.slice ao l.length c, .int .u8 g] w fun e w' => e = .returned (.bool true) ∧ Below w.heap.size w w' := by
  have hcap := hS.cap
  have hle := hS.le
  rw [incR_len] at hle
  by_cases h25 : 25 < l.length
  · have h25' : (25 : Int) < (l.length : Int) := by omega
    go_enter Try.func4, Try.ntmps4
    go_wp2_with (first
      | (go_at_call 9; refine (hknown_any S _).mono ?_; rintro e w1 ⟨rfl, hb⟩))
    go_ret
    exact ⟨rfl, hb⟩
  · have h25' : (l.length : Int) ≤ 25 := by omega
    by_cases hg4 : (4 : Int) ≤ (g : Int)
    · go_enter Try.func4, Try.ntmps4
      go_wp2_with (first
        | (go_at_call 9; refine (hknown_any S _).mono ?_; rintro e w1 ⟨rfl, hb⟩))
      go_ret
      exact ⟨rfl, hb⟩
    · have hg4' : (g : Int) < 4 := by omega
      have hgN : g < 4 := by omega
      clear hg4
      go_enter Try.func4, Try.ntmps4
      go_wp2_with (first
        | (go_at_call 9; refine (hknown_any S _).mono ?_; rintro e w1 ⟨rfl, hb⟩))
      refine (S.new _).mono ?_
      rintro e w2 ⟨p, F, rfl, hH, hF0, hq⟩
      have hF : ∀ b, F b → w.heap.size ≤ b := fun b h => Nat.le_trans hb.size (hF0 b h)
      replace hb := hb.trans (hq.mono hb.size)
      clear hq hF0
      have hpt : ptr p = .pointer (some ⟨p, 0, none⟩) := rfl
      rw [hpt]
      go_wp2
      go_loopw [6] (fun i wr => ∃ (n : Nat) (F : Nat → Prop), n ≤ l.length ∧ i = .int .i64 n ∧ Is wr p (takeH l n) F ∧ (∀ b, F b → w.heap.size ≤ b) ∧ Below w.heap.size w wr) (fun i _ => l.length - (intOf i).toNat)
      case atStart => exact ⟨0, F, Nat.zero_le _, rfl, hH, hF, hb⟩
      case round =>
        clear hH hF hb
        obtain ⟨n, F1, hn, rfl, hH, hF, hb⟩ := hrel
        by_cases hlt : n < l.length
        · have hnI : (n : Int) < (l.length : Int) := by omega
          have hxn := hl l[n] (List.getElem_mem hlt)
          have hts : Hid _ := takeH_succ hlt
          have hln := takeH_le l n
          cases ao with
          | none => have h1 := hS.nil rfl; omega
          | some ad =>
            have hci : ∀ W, Below w.heap.size w W → ∀ j v, (incC l[n]).toList[j]? = some v → W.cell? ((ad.add (n * 3)).add j) = some v := fun W hW => incR_at (hS.later hW) n hlt
            generalize l[n] = x at *
            generalize takeH l n = xs at *
            obtain ⟨m, hm⟩ : ∃ m, m = xs.length + 1 := ⟨_, rfl⟩
            have hm' : Hid (m = xs.length + 1) := hm
            have hmb : m < 1000 := by omega
            have hraw : Hid _ := u32_next hmb
            have hlast := fun {w} (h : Is w p xs F1) => S.last h
            rw [← hm] at hlast
            have hadd := fun {w} (h : Is w p xs F1) => S.add (m + 1) x h (by omega) hxn
            rw [show m + 1 = xs.length + 2 by omega] at hadd
            have hmi : ((xs.length + 2 : Nat) : Int) = ((m + 1 : Nat) : Int) := by omega
            rw [hmi] at hadd
            clear hm hmi
            go_wp2
            refine wp_region_plan (fun W => Below w.heap.size w W) (Plan.of [(0, true), (1, true), (4, true), (5, true), (6, true), (7, true), (2, false), (3, true), (8, false)] .done) (by kernel_rfl) (by kernel_rfl) (by kernel_rfl) (by kernel_rfl) hb.drew ?_
            iterate 5
              first
                | (refine plan_pass _ rfl (by rfl) ?_)
                | (refine plan_take _ _ rfl (.inl ⟨by rfl, fun W hS => by clear hS; go_simp; try with_reducible rfl⟩) ?_)
              try simp only [Act.put, List.setIfInBounds_toArray, List.set_cons_zero, List.set_cons_succ]
            refine plan_take _ _ rfl (yields_inc_at x (by rfl) _ rfl (ad.add (n * 3)) rfl hci) ?_
            try simp only [Act.put, List.setIfInBounds_toArray, List.set_cons_zero, List.set_cons_succ]
            refine plan_run _ rfl (fun K hK => ?_)
            go_simp
            have hH2 := S.drewN hH 1
            refine (hlast hH2).mono ?_
            rintro e w3 ⟨rfl, hq⟩
            replace hH2 := S.later hH2 hq
            have hb2 := hb.drew.trans (hq.mono hb.size)
            refine hK.out _ _ hb2 ?_
            clear hK K hq hH hb
            first
              | (refine plan_pass _ rfl (by rfl) ?_)
              | (refine plan_take _ _ rfl (.inl ⟨by rfl, fun W hS => by clear hS; go_simp; try with_reducible rfl⟩) ?_)
            try simp only [Act.put, List.setIfInBounds_toArray, List.set_cons_zero, List.set_cons_succ]
            refine plan_run _ rfl (fun K hK => ?_)
            go_simp
            rw [hraw.out]
            refine (hadd hH2).mono ?_
            rintro e w4 ⟨rfl, ⟨F2, hH3, hF2⟩, hoff⟩
            obtain ⟨hb3, hF3⟩ := off_step hb2 hF hoff hF2
            refine hK.out _ _ hb3 ?_
            clear hK K hoff hH2 hF hF2 hb2 hlast hadd
            refine plan_done ?_
            rw [← hts.out] at hH3
            go_wp2
            go_roundw
            case rel => exact ⟨n + 1, F2, by omega, by go_num, hH3, hF3, hb3⟩
            case measure => simp [intOf]; omega
        · have e5 : n = l.length := by omega
          subst e5
          have hgood := S.good hH
          have hln := takeH_le l l.length
          generalize takeH l l.length = xs at *
          obtain ⟨N, hN⟩ : ∃ N, N = xs.length := ⟨_, rfl⟩
          have hN' : Hid (N = xs.length) := hN
          have hNb : N ≤ 25 := by omega
          have hNI : (N : Int) ≤ 25 := by omega
          have hlast := fun {w} (h : Is w p xs F1) => S.last h
          have hsn := fun {w} (h : Is w p xs F1) => S.since g h hg
          have hmap := fun {w} (e : Nat) (h : Is w p xs F1) (he : e < 4294967296) => S.map e h he
          have hint := fun {w} (h : Is w p xs F1) => S.intervals g h hg
          have hmo : Hid (∀ j, j ≤ N → mapE xs (j + 1) = (mapH xs j, true)) := fun j hj => by rw [mapE_yes ⟨by omega, by omega⟩, Nat.add_sub_cancel]
          have hmk : Hid (∀ j, j ≤ N → MapOk (mapH xs j)) := fun j hj => okH hgood j (by omega)
          have hcut : Hid (∀ j (h : j ≤ N), _) := fun j h => cut_at xs g (j := j) (N := N) h
          obtain ⟨V0, hV0, ⟨b0, hfst0⟩, hkN0, ⟨bN, hsis0⟩⟩ := cut_end xs hgN
          rw [← hN] at hV0 hkN0 hsis0
          subst hV0
          have hfst : Hid _ := hfst0
          have hkN : Hid _ := hkN0
          have hsis : Hid _ := hsis0
          clear hfst0 hkN0 hsis0
          have hivl := ivTo_len xs g N
          rw [ivals_is hgN] at hint
          rw [← hN] at hlast hint
          clear hN hgood hln
          go_wp2_with fail
          refine (hint hH).mono ?_
          rintro e w3 ⟨vo, vc, rfl, hV, hq⟩
          replace hH := S.later hH hq
          replace hb := hb.trans (hq.mono hb.size)
          clear hq hint
          have hVc := hV.cap
          have hVl := hV.le
          have hpos := ivTo_pos xs g N
          generalize ivTo xs g N = V at *
          cases vo with
          | none => have h1 := hV.nil rfl; omega
          | some vd =>
            have hS0 : (Is w3 p xs F1 ∧ Iv w3 (some vd) vc V ∧ Below w.heap.size w w3) := ⟨hH, hV, hb⟩
            go_wp2
            clear hH hV hb
            go_loopw [8, 9] (fun v i wr => ∃ j : Nat, j ≤ N + 1 ∧ i = .int .u32 (j + 1 : Nat) ∧ v = .int .i64 (kk xs g (j - 1) : Nat) ∧ Is wr p xs F1 ∧ Iv wr (some vd) vc V ∧ Below w.heap.size w wr) (fun _ i _ => (40 - intOf i).toNat)
            case atStart => exact ⟨0, Nat.zero_le _, rfl, rfl, hS0⟩
            case round =>
              clear hS0
              obtain ⟨j, hj1, rfl, rfl, hH, hV, hb⟩ := hrel
              go_wp2_with fail
              refine (hlast hH).mono ?_
              rintro e w4 ⟨rfl, hq⟩
              replace hH := S.later hH hq
              replace hV := hV.later hq
              replace hb := hb.trans (hq.mono hb.size)
              clear hq
              by_cases hj : j ≤ N
              · have hjI : (j : Int) ≤ (N : Int) := by omega
                have hmj := hmap (j + 1) hH (by omega)
                rw [hmo.out j hj] at hmj
                have hMok := hmk.out j hj
                obtain ⟨kp, kc, sK, hkp, hkc, hvK, hcase⟩ := hcut.out j hj
                have hkj : Hid (kc = kk xs g (j + 1 - 1)) := hkc
                have hacc := fun w => acting_any (mapH xs j) g w hMok hg
                have hact : actM (mapH xs j) g = actH xs j g := rfl
                rw [hact] at hacc
                clear hact
                rw [← hkp]
                clear hkp hkc
                generalize actH xs j g = AJ at *
                generalize mapH xs j = M at *
                go_wp2_with fail
                refine hmj.mono ?_
                rintro e w5 ⟨rfl, hq⟩
                replace hH := S.later hH hq
                replace hV := hV.later hq
                replace hb := hb.trans (hq.mono hb.size)
                clear hq hmj
                have hM := (Has.new w5 44 (mapC zeroM)).row (mapC M)
                have hbb := below_setRow ((Below.refl w5.heap.size w5).alloc (Nat.le_refl _) (.cells (mapC zeroM) 44)) (Nat.le_refl _) (mapC M)
                replace hH := S.later hH hbb
                replace hV := hV.later hbb
                replace hb := hb.trans (hbb.mono hb.size)
                clear hbb
                have hvK2 := hvK
                obtain ⟨hKl, _, bo, d, cK, hIK⟩ := iv_get hV hvK
                clear hvK
                rcases hcase with ⟨hkc, hne⟩ | ⟨hkc, hsin, s0, a0, hv0, hdif⟩
                · subst hkc
                  clear hvK2
                  rcases hne with hk1 | ⟨s1, a1, hv1, hne⟩
                  · have hk1I : (V.length : Int) ≤ (kc : Int) + 1 := by omega
                    go_wp2_with (first
                      | (refine alloc_map (by rfl) rfl ?_)
                      | (refine store_map M zeroM (by rfl) _ _ rfl _ rfl rfl ?hg ?_; (case hg => exact Has.new _ _ _); generalize (w5.alloc (.cells (mapC zeroM) 44)).setRow w5.heap.size (mapC M) = w6 at *))
                    have hgm := hM.lt
                    have hS1 : (Has w6.drew w5.heap.size 44 (mapC M) ∧ w6.drew.cell? ⟨(vd.add (kc * 2)).block, (vd.add (kc * 2)).off + 1, none⟩ = some (.slice bo AJ.length d) ∧ Ix w6.drew bo d AJ ∧ Is w6.drew p xs F1 ∧ Iv w6.drew (some vd) vc V ∧ Below w.heap.size w w6.drew) := ⟨hM.drew, cK, hIK.drewN 1, S.drewN hH 1, hV.drewN 1, hb.drew⟩
                    clear hM cK hIK hH hV hb
                    have hKI : (kc : Int) < (V.length : Int) := by omega
                    have hKd : decide ((V.length : Int) ≤ (kc : Int)) = false := decide_eq_false (by omega)
                    have hKd2 : decide (V.length ≤ kc) = false := decide_eq_false (by omega)
                    go_wp2
                    refine wp_region_plan (fun W => Has W w5.heap.size 44 (mapC M) ∧ W.cell? ⟨(vd.add (kc * 2)).block, (vd.add (kc * 2)).off + 1, none⟩ = some (.slice bo AJ.length d) ∧ Ix W bo d AJ ∧ Is W p xs F1 ∧ Iv W (some vd) vc V ∧ Below w.heap.size w W) (Plan.of [(0, true), (1, true), (2, true), (3, true), (4, true), (5, false), (6, true), (7, true), (8, true), (9, true), (10, true), (12, true), (13, true), (14, true), (15, true), (16, true), (11, false), (17, false), (18, true), (19, true)] .done) (by kernel_rfl) (by kernel_rfl) (by kernel_rfl) (by kernel_rfl) hS1 ?_
                    have keep : ∀ W W' : World, (Has W w5.heap.size 44 (mapC M) ∧ W.cell? ⟨(vd.add (kc * 2)).block, (vd.add (kc * 2)).off + 1, none⟩ = some (.slice bo AJ.length d) ∧ Ix W bo d AJ ∧ Is W p xs F1 ∧ Iv W (some vd) vc V ∧ Below w.heap.size w W) → Below W.heap.size W W' → (Has W' w5.heap.size 44 (mapC M) ∧ W'.cell? ⟨(vd.add (kc * 2)).block, (vd.add (kc * 2)).off + 1, none⟩ = some (.slice bo AJ.length d) ∧ Ix W' bo d AJ ∧ Is W' p xs F1 ∧ Iv W' (some vd) vc V ∧ Below w.heap.size w W') :=
                      fun W W' h hq => ⟨h.1.later hq, by rw [hq.cell (World.block_lt_of_cell? W _ h.2.1)]; exact h.2.1, h.2.2.1.later hq, S.later h.2.2.2.1 hq, h.2.2.2.2.1.later hq, h.2.2.2.2.2.trans (hq.mono h.2.2.2.2.2.size)⟩
                    iterate 5
                      first
                        | (refine plan_pass _ rfl (by rfl) ?_)
                        | (refine plan_take _ _ rfl (.inl ⟨by rfl, fun W hS => by clear hS; go_simp; try with_reducible rfl⟩) ?_)
                      try simp only [Act.put, List.setIfInBounds_toArray, List.set_cons_zero, List.set_cons_succ]
                    refine plan_run _ rfl (fun K hK => ?_)
                    go_simp
                    refine hK.out _ _ hS1 ?_
                    clear hK K
                    iterate 3
                      first
                        | (refine plan_pass _ rfl (by rfl) ?_)
                        | (refine plan_take _ _ rfl (.inl ⟨by rfl, fun W hS => by clear hS; go_simp; try with_reducible rfl⟩) ?_)
                      try simp only [Act.put, List.setIfInBounds_toArray, List.set_cons_zero, List.set_cons_succ]
                    refine plan_take _ _ rfl (yields_map M (by rfl) _ rfl (w5.heap.size) rfl (fun _ h => h.1)) ?_
                    try simp only [Act.put, List.setIfInBounds_toArray, List.set_cons_zero, List.set_cons_succ]
                    iterate 5
                      first
                        | (refine plan_pass _ rfl (by rfl) ?_)
                        | (refine plan_take _ _ rfl (.inl ⟨by rfl, fun W hS => by clear hS; go_simp; try with_reducible rfl⟩) ?_)
                      try simp only [Act.put, List.setIfInBounds_toArray, List.set_cons_zero, List.set_cons_succ]
                    iterate 1
                      first
                        | (refine plan_pass _ rfl (by rfl) ?_)
                        | (refine plan_take _ _ rfl (.inl ⟨by rfl, fun W hS => by obtain ⟨z1, z2, z3⟩ := hS; go_simp; try with_reducible rfl⟩) ?_)
                      try simp only [Act.put, List.setIfInBounds_toArray, List.set_cons_zero, List.set_cons_succ]
                    refine plan_run _ rfl (fun K hK => ?_)
                    go_simp
                    refine (hacc _).mono ?_
                    rintro e w7 ⟨a1, c1, rfl, hI1, hq⟩
                    replace hS1 := keep _ _ hS1 hq
                    refine hK.out _ _ hS1 ?_
                    clear hK K hq keep
                    refine plan_run _ rfl (fun K hK => ?_)
                    go_simp
                    refine (ints_any a1 bo c1 d AJ AJ _ hI1 hS1.2.2.1).mono ?_
                    rintro e w8 ⟨rfl, nq, rfl⟩
                    rw [decide_eq_true rfl]
                    replace hS1 : (Has (w7.drewN nq) w5.heap.size 44 (mapC M) ∧ (w7.drewN nq).cell? ⟨(vd.add (kc * 2)).block, (vd.add (kc * 2)).off + 1, none⟩ = some (.slice bo AJ.length d) ∧ Ix (w7.drewN nq) bo d AJ ∧ Is (w7.drewN nq) p xs F1 ∧ Iv (w7.drewN nq) (some vd) vc V ∧ Below w.heap.size w (w7.drewN nq)) := ⟨hS1.1.drewN nq, hS1.2.1, hS1.2.2.1.drewN nq, S.drewN hS1.2.2.2.1 nq, hS1.2.2.2.2.1.drewN nq, ⟨hS1.2.2.2.2.2.os, hS1.2.2.2.2.2.tape, hS1.2.2.2.2.2.output, hS1.2.2.2.2.2.size, hS1.2.2.2.2.2.block⟩⟩
                    refine hK.out _ _ hS1 ?_
                    clear hK K hI1
                    iterate 2
                      first
                        | (refine plan_pass _ rfl (by rfl) ?_)
                        | (refine plan_take _ _ rfl (.inl ⟨by rfl, fun W hS => by clear hS; go_simp; try with_reducible rfl⟩) ?_)
                      try simp only [Act.put, List.setIfInBounds_toArray, List.set_cons_zero, List.set_cons_succ]
                    refine plan_done ?_
                    go_wp2
                    go_roundw
                    case rel => exact ⟨j + 1, by omega, by go_num, by rw [← hkj.out], hS1.2.2.2⟩
                    case measure => simp [intOf]; omega
                  · obtain ⟨hk1, cs, _⟩ := iv_get hV hv1
                    have hk1I : (kc : Int) + 1 < (V.length : Int) := by omega
                    have hneb : ((s1 : Int) == ((j : Int) + 1)) = false := by rw [beq_eq_false_iff_ne]; omega
                    have hneb2 : ((s1 : Int) == ((j + 1 : Nat) : Int)) = false := by rw [beq_eq_false_iff_ne]; omega
                    clear hne hv1
                    go_wp2_with (first
                      | (refine alloc_map (by rfl) rfl ?_)
                      | (refine store_map M zeroM (by rfl) _ _ rfl _ rfl rfl ?hg ?_; (case hg => exact Has.new _ _ _); generalize (w5.alloc (.cells (mapC zeroM) 44)).setRow w5.heap.size (mapC M) = w6 at *))
                    have hgm := hM.lt
                    have hS1 : (Has w6.drew w5.heap.size 44 (mapC M) ∧ w6.drew.cell? ⟨(vd.add (kc * 2)).block, (vd.add (kc * 2)).off + 1, none⟩ = some (.slice bo AJ.length d) ∧ Ix w6.drew bo d AJ ∧ Is w6.drew p xs F1 ∧ Iv w6.drew (some vd) vc V ∧ Below w.heap.size w w6.drew) := ⟨hM.drew, cK, hIK.drewN 1, S.drewN hH 1, hV.drewN 1, hb.drew⟩
                    clear hM cK hIK hH hV hb
                    have hKI : (kc : Int) < (V.length : Int) := by omega
                    have hKd : decide ((V.length : Int) ≤ (kc : Int)) = false := decide_eq_false (by omega)
                    have hKd2 : decide (V.length ≤ kc) = false := decide_eq_false (by omega)
                    go_wp2
                    refine wp_region_plan (fun W => Has W w5.heap.size 44 (mapC M) ∧ W.cell? ⟨(vd.add (kc * 2)).block, (vd.add (kc * 2)).off + 1, none⟩ = some (.slice bo AJ.length d) ∧ Ix W bo d AJ ∧ Is W p xs F1 ∧ Iv W (some vd) vc V ∧ Below w.heap.size w W) (Plan.of [(0, true), (1, true), (2, true), (3, true), (4, true), (5, false), (6, true), (7, true), (8, true), (9, true), (10, true), (12, true), (13, true), (14, true), (15, true), (16, true), (11, false), (17, false), (18, true), (19, true)] .done) (by kernel_rfl) (by kernel_rfl) (by kernel_rfl) (by kernel_rfl) hS1 ?_
                    have keep : ∀ W W' : World, (Has W w5.heap.size 44 (mapC M) ∧ W.cell? ⟨(vd.add (kc * 2)).block, (vd.add (kc * 2)).off + 1, none⟩ = some (.slice bo AJ.length d) ∧ Ix W bo d AJ ∧ Is W p xs F1 ∧ Iv W (some vd) vc V ∧ Below w.heap.size w W) → Below W.heap.size W W' → (Has W' w5.heap.size 44 (mapC M) ∧ W'.cell? ⟨(vd.add (kc * 2)).block, (vd.add (kc * 2)).off + 1, none⟩ = some (.slice bo AJ.length d) ∧ Ix W' bo d AJ ∧ Is W' p xs F1 ∧ Iv W' (some vd) vc V ∧ Below w.heap.size w W') :=
                      fun W W' h hq => ⟨h.1.later hq, by rw [hq.cell (World.block_lt_of_cell? W _ h.2.1)]; exact h.2.1, h.2.2.1.later hq, S.later h.2.2.2.1 hq, h.2.2.2.2.1.later hq, h.2.2.2.2.2.trans (hq.mono h.2.2.2.2.2.size)⟩
                    iterate 5
                      first
                        | (refine plan_pass _ rfl (by rfl) ?_)
                        | (refine plan_take _ _ rfl (.inl ⟨by rfl, fun W hS => by clear hS; go_simp; try with_reducible rfl⟩) ?_)
                      try simp only [Act.put, List.setIfInBounds_toArray, List.set_cons_zero, List.set_cons_succ]
                    refine plan_run _ rfl (fun K hK => ?_)
                    go_simp
                    refine hK.out _ _ hS1 ?_
                    clear hK K
                    iterate 3
                      first
                        | (refine plan_pass _ rfl (by rfl) ?_)
                        | (refine plan_take _ _ rfl (.inl ⟨by rfl, fun W hS => by clear hS; go_simp; try with_reducible rfl⟩) ?_)
                      try simp only [Act.put, List.setIfInBounds_toArray, List.set_cons_zero, List.set_cons_succ]
                    refine plan_take _ _ rfl (yields_map M (by rfl) _ rfl (w5.heap.size) rfl (fun _ h => h.1)) ?_
                    try simp only [Act.put, List.setIfInBounds_toArray, List.set_cons_zero, List.set_cons_succ]
                    iterate 5
                      first
                        | (refine plan_pass _ rfl (by rfl) ?_)
                        | (refine plan_take _ _ rfl (.inl ⟨by rfl, fun W hS => by clear hS; go_simp; try with_reducible rfl⟩) ?_)
                      try simp only [Act.put, List.setIfInBounds_toArray, List.set_cons_zero, List.set_cons_succ]
                    iterate 1
                      first
                        | (refine plan_pass _ rfl (by rfl) ?_)
                        | (refine plan_take _ _ rfl (.inl ⟨by rfl, fun W hS => by obtain ⟨z1, z2, z3⟩ := hS; go_simp; try with_reducible rfl⟩) ?_)
                      try simp only [Act.put, List.setIfInBounds_toArray, List.set_cons_zero, List.set_cons_succ]
                    refine plan_run _ rfl (fun K hK => ?_)
                    go_simp
                    refine (hacc _).mono ?_
                    rintro e w7 ⟨a1, c1, rfl, hI1, hq⟩
                    replace hS1 := keep _ _ hS1 hq
                    refine hK.out _ _ hS1 ?_
                    clear hK K hq keep
                    refine plan_run _ rfl (fun K hK => ?_)
                    go_simp
                    refine (ints_any a1 bo c1 d AJ AJ _ hI1 hS1.2.2.1).mono ?_
                    rintro e w8 ⟨rfl, nq, rfl⟩
                    rw [decide_eq_true rfl]
                    replace hS1 : (Has (w7.drewN nq) w5.heap.size 44 (mapC M) ∧ (w7.drewN nq).cell? ⟨(vd.add (kc * 2)).block, (vd.add (kc * 2)).off + 1, none⟩ = some (.slice bo AJ.length d) ∧ Ix (w7.drewN nq) bo d AJ ∧ Is (w7.drewN nq) p xs F1 ∧ Iv (w7.drewN nq) (some vd) vc V ∧ Below w.heap.size w (w7.drewN nq)) := ⟨hS1.1.drewN nq, hS1.2.1, hS1.2.2.1.drewN nq, S.drewN hS1.2.2.2.1 nq, hS1.2.2.2.2.1.drewN nq, ⟨hS1.2.2.2.2.2.os, hS1.2.2.2.2.2.tape, hS1.2.2.2.2.2.output, hS1.2.2.2.2.2.size, hS1.2.2.2.2.2.block⟩⟩
                    refine hK.out _ _ hS1 ?_
                    clear hK K hI1
                    iterate 2
                      first
                        | (refine plan_pass _ rfl (by rfl) ?_)
                        | (refine plan_take _ _ rfl (.inl ⟨by rfl, fun W hS => by clear hS; go_simp; try with_reducible rfl⟩) ?_)
                      try simp only [Act.put, List.setIfInBounds_toArray, List.set_cons_zero, List.set_cons_succ]
                    refine plan_done ?_
                    go_wp2
                    go_roundw
                    case rel => exact ⟨j + 1, by omega, by go_num, by rw [← hkj.out], hS1.2.2.2⟩
                    case measure => simp [intOf]; omega
                · have hsin' : Hid (sK = j + 1) := hsin
                  subst hsin
                  clear cK hIK hKl
                  obtain ⟨hKl, cs, bo, d, cK, hIK⟩ := iv_get hV hvK2
                  obtain ⟨hl0, _, bo0, d0, c0, hI0⟩ := iv_get hV hv0
                  have hkcI : Hid ((kp : Int) + 1 = (kc : Int)) := by show _ = _; omega
                  have hrw : IntKind.i64.wrap ((kc : Int) - 1) = (kp : Int) := by
                    simp [IntKind.wrap, IntKind.bits, IntKind.signed]
                    omega
                  have hk1I : (kp : Int) + 1 < (V.length : Int) := by omega
                  have hkKI : (kc : Int) < (V.length : Int) := by omega
                  have hkpI : (kp : Int) < (V.length : Int) := by omega
                  have cs' : ((w5.alloc (.cells (mapC zeroM) 44)).setRow w5.heap.size (mapC M)).cell? (vd.add ((kp + 1) * 2)) = some (.int .u32 (j + 1 : Nat)) := by rw [← hkc]; exact cs
                  have hde : Hid (decide (AJ = a0) = false) := decide_eq_false (fun e => hdif e.symm)
                  have hkc' : Hid (kc = kp + 1) := hkc
                  clear hkc hdif hv0 hvK2 cs
                  go_wp2_with (first
                    | (refine alloc_map (by rfl) rfl ?_)
                    | (refine store_map M zeroM (by rfl) _ _ rfl _ rfl rfl ?hg ?_; (case hg => exact Has.new _ _ _); generalize (w5.alloc (.cells (mapC zeroM) 44)).setRow w5.heap.size (mapC M) = w6 at *))
                  rw [hkcI.out]
                  have hS3 : (w6.drew.cell? ⟨(vd.add (kc * 2)).block, (vd.add (kc * 2)).off + 1, none⟩ = some (.slice bo AJ.length d) ∧ w6.drew.cell? ⟨(vd.add (kp * 2)).block, (vd.add (kp * 2)).off + 1, none⟩ = some (.slice bo0 a0.length d0)) := ⟨cK, c0⟩
                  refine wp_region_plan (fun W => W.cell? ⟨(vd.add (kc * 2)).block, (vd.add (kc * 2)).off + 1, none⟩ = some (.slice bo AJ.length d) ∧ W.cell? ⟨(vd.add (kp * 2)).block, (vd.add (kp * 2)).off + 1, none⟩ = some (.slice bo0 a0.length d0)) (Plan.of [(0, true), (1, true), (2, true), (3, true), (4, true), (5, true), (6, true), (7, true), (8, true), (9, true), (10, true), (11, false)] .done) (by kernel_rfl) (by kernel_rfl) (by kernel_rfl) (by kernel_rfl) hS3 ?_
                  iterate 11
                    first
                      | (refine plan_pass _ rfl (by rfl) ?_)
                      | (refine plan_take _ _ rfl (.inl ⟨by rfl, fun W hS => by obtain ⟨z1, z2⟩ := hS; go_simp; try with_reducible rfl⟩) ?_)
                    try simp only [Act.put, List.setIfInBounds_toArray, List.set_cons_zero, List.set_cons_succ]
                  refine plan_run _ rfl (fun K hK => ?_)
                  go_simp
                  refine (ints_any bo bo0 d d0 AJ a0 _ (hIK.drewN 1) (hI0.drewN 1)).mono ?_
                  rintro e w7 ⟨rfl, nq, rfl⟩
                  rw [hde.out]
                  refine hK.out _ _ hS3 ?_
                  clear hK K hS3 c0 hI0
                  refine plan_done ?_
                  go_wp2
                  replace hM : Has ((w6.drewN 1).drewN nq) w5.heap.size 44 (mapC M) := hM
                  replace cK : ((w6.drewN 1).drewN nq).cell? ⟨(vd.add (kc * 2)).block, (vd.add (kc * 2)).off + 1, none⟩ = some (.slice bo AJ.length d) := cK
                  replace hIK : Ix ((w6.drewN 1).drewN nq) bo d AJ := (hIK.drewN 1).drewN nq
                  replace hH : Is ((w6.drewN 1).drewN nq) p xs F1 := S.kept hH (fun b _ => rfl)
                  replace hV : Iv ((w6.drewN 1).drewN nq) (some vd) vc V := (hV.drewN 1).drewN nq
                  replace hb : Below w.heap.size w ((w6.drewN 1).drewN nq) := ⟨hb.os, hb.tape, hb.output, hb.size, hb.block⟩
                  generalize (w6.drewN 1).drewN nq = w6b at *
                  have hgm := hM.lt
                  have hS1 : (Has w6b.drew w5.heap.size 44 (mapC M) ∧ w6b.drew.cell? ⟨(vd.add (kc * 2)).block, (vd.add (kc * 2)).off + 1, none⟩ = some (.slice bo AJ.length d) ∧ Ix w6b.drew bo d AJ ∧ Is w6b.drew p xs F1 ∧ Iv w6b.drew (some vd) vc V ∧ Below w.heap.size w w6b.drew) := ⟨hM.drew, cK, hIK.drewN 1, S.drewN hH 1, hV.drewN 1, hb.drew⟩
                  clear hM cK hIK hH hV hb
                  have hKI : (kc : Int) < (V.length : Int) := by omega
                  have hKd : decide ((V.length : Int) ≤ (kc : Int)) = false := decide_eq_false (by omega)
                  have hKd2 : decide (V.length ≤ kc) = false := decide_eq_false (by omega)
                  go_wp2
                  refine wp_region_plan (fun W => Has W w5.heap.size 44 (mapC M) ∧ W.cell? ⟨(vd.add (kc * 2)).block, (vd.add (kc * 2)).off + 1, none⟩ = some (.slice bo AJ.length d) ∧ Ix W bo d AJ ∧ Is W p xs F1 ∧ Iv W (some vd) vc V ∧ Below w.heap.size w W) (Plan.of [(0, true), (1, true), (2, true), (3, true), (4, true), (5, false), (6, true), (7, true), (8, true), (9, true), (10, true), (12, true), (13, true), (14, true), (15, true), (16, true), (11, false), (17, false), (18, true), (19, true)] .done) (by kernel_rfl) (by kernel_rfl) (by kernel_rfl) (by kernel_rfl) hS1 ?_
                  have keep : ∀ W W' : World, (Has W w5.heap.size 44 (mapC M) ∧ W.cell? ⟨(vd.add (kc * 2)).block, (vd.add (kc * 2)).off + 1, none⟩ = some (.slice bo AJ.length d) ∧ Ix W bo d AJ ∧ Is W p xs F1 ∧ Iv W (some vd) vc V ∧ Below w.heap.size w W) → Below W.heap.size W W' → (Has W' w5.heap.size 44 (mapC M) ∧ W'.cell? ⟨(vd.add (kc * 2)).block, (vd.add (kc * 2)).off + 1, none⟩ = some (.slice bo AJ.length d) ∧ Ix W' bo d AJ ∧ Is W' p xs F1 ∧ Iv W' (some vd) vc V ∧ Below w.heap.size w W') :=
                    fun W W' h hq => ⟨h.1.later hq, by rw [hq.cell (World.block_lt_of_cell? W _ h.2.1)]; exact h.2.1, h.2.2.1.later hq, S.later h.2.2.2.1 hq, h.2.2.2.2.1.later hq, h.2.2.2.2.2.trans (hq.mono h.2.2.2.2.2.size)⟩
                  iterate 5
                    first
                      | (refine plan_pass _ rfl (by rfl) ?_)
                      | (refine plan_take _ _ rfl (.inl ⟨by rfl, fun W hS => by clear hS; go_simp; try with_reducible rfl⟩) ?_)
                    try simp only [Act.put, List.setIfInBounds_toArray, List.set_cons_zero, List.set_cons_succ]
                  refine plan_run _ rfl (fun K hK => ?_)
                  go_simp
                  refine hK.out _ _ hS1 ?_
                  clear hK K
                  iterate 3
                    first
                      | (refine plan_pass _ rfl (by rfl) ?_)
                      | (refine plan_take _ _ rfl (.inl ⟨by rfl, fun W hS => by clear hS; go_simp; try with_reducible rfl⟩) ?_)
                    try simp only [Act.put, List.setIfInBounds_toArray, List.set_cons_zero, List.set_cons_succ]
                  refine plan_take _ _ rfl (yields_map M (by rfl) _ rfl (w5.heap.size) rfl (fun _ h => h.1)) ?_
                  try simp only [Act.put, List.setIfInBounds_toArray, List.set_cons_zero, List.set_cons_succ]
                  iterate 5
                    first
                      | (refine plan_pass _ rfl (by rfl) ?_)
                      | (refine plan_take _ _ rfl (.inl ⟨by rfl, fun W hS => by clear hS; go_simp; try with_reducible rfl⟩) ?_)
                    try simp only [Act.put, List.setIfInBounds_toArray, List.set_cons_zero, List.set_cons_succ]
                  iterate 1
                    first
                      | (refine plan_pass _ rfl (by rfl) ?_)
                      | (refine plan_take _ _ rfl (.inl ⟨by rfl, fun W hS => by obtain ⟨z1, z2, z3⟩ := hS; go_simp; try with_reducible rfl⟩) ?_)
                    try simp only [Act.put, List.setIfInBounds_toArray, List.set_cons_zero, List.set_cons_succ]
                  refine plan_run _ rfl (fun K hK => ?_)
                  go_simp
                  refine (hacc _).mono ?_
                  rintro e w7 ⟨a1, c1, rfl, hI1, hq⟩
                  replace hS1 := keep _ _ hS1 hq
                  refine hK.out _ _ hS1 ?_
                  clear hK K hq keep
                  refine plan_run _ rfl (fun K hK => ?_)
                  go_simp
                  refine (ints_any a1 bo c1 d AJ AJ _ hI1 hS1.2.2.1).mono ?_
                  rintro e w8 ⟨rfl, nq, rfl⟩
                  rw [decide_eq_true rfl]
                  replace hS1 : (Has (w7.drewN nq) w5.heap.size 44 (mapC M) ∧ (w7.drewN nq).cell? ⟨(vd.add (kc * 2)).block, (vd.add (kc * 2)).off + 1, none⟩ = some (.slice bo AJ.length d) ∧ Ix (w7.drewN nq) bo d AJ ∧ Is (w7.drewN nq) p xs F1 ∧ Iv (w7.drewN nq) (some vd) vc V ∧ Below w.heap.size w (w7.drewN nq)) := ⟨hS1.1.drewN nq, hS1.2.1, hS1.2.2.1.drewN nq, S.drewN hS1.2.2.2.1 nq, hS1.2.2.2.2.1.drewN nq, ⟨hS1.2.2.2.2.2.os, hS1.2.2.2.2.2.tape, hS1.2.2.2.2.2.output, hS1.2.2.2.2.2.size, hS1.2.2.2.2.2.block⟩⟩
                  refine hK.out _ _ hS1 ?_
                  clear hK K hI1
                  iterate 2
                    first
                      | (refine plan_pass _ rfl (by rfl) ?_)
                      | (refine plan_take _ _ rfl (.inl ⟨by rfl, fun W hS => by clear hS; go_simp; try with_reducible rfl⟩) ?_)
                    try simp only [Act.put, List.setIfInBounds_toArray, List.set_cons_zero, List.set_cons_succ]
                  refine plan_done ?_
                  go_wp2
                  go_roundw
                  case rel => exact ⟨j + 1, by omega, by go_num, by rw [← hkj.out], hS1.2.2.2⟩
                  case measure => simp [intOf]; omega
              · have hjN : (N : Int) < (j : Int) := by omega
                have e6 : j = N + 1 := by omega
                subst e6
                rw [Nat.add_sub_cancel]
                obtain ⟨kE, hkE⟩ : ∃ k, k = kk xs g N := ⟨_, rfl⟩
                have hend : kE + 1 = V.length := by rw [hkE]; exact hkN.out
                have hvN : V[kE]? = some (sinceH xs g, bN) := by rw [hkE]; exact hsis.out
                rw [← hkE]
                clear hkE
                obtain ⟨_, c0, _⟩ := iv_get hV hfst.out
                obtain ⟨hkEl, cE, _⟩ := iv_get hV hvN
                have e0 : vd.add (0 * 2) = vd := by cases vd; simp [Addr.add]
                rw [e0] at c0
                have c0 : w4.cell? vd = some (.int .u32 1) := c0
                clear e0 hvN
                generalize sinceH xs g = SN at *
                have hsn4 := fun w h => @hsn w h
                have hEI : (kE : Int) < (V.length : Int) := by omega
                have hEq : Hid ((V.length : Int) - 1 = (kE : Int)) := by show _ = _; omega
                have hEb : ((kE : Int) == (V.length : Int) - 1) = true := by rw [beq_iff_eq]; omega
                have hrawE : IntKind.i64.wrap ((V.length : Int) - 1) = (kE : Int) := by
                  simp [IntKind.wrap, IntKind.bits, IntKind.signed]
                  omega
                clear hend
                go_wp2
                have hS4 : (w4.drew.cell? vd = some (.int .u32 1) ∧ w4.drew.cell? (vd.add (kE * 2)) = some (.int .u32 SN)) := ⟨c0, cE⟩
                refine wp_region_plan (fun W => W.cell? vd = some (.int .u32 1) ∧ W.cell? (vd.add (kE * 2)) = some (.int .u32 SN)) (Plan.of [(0, true), (1, true), (2, false), (3, true), (4, true), (5, true), (6, true), (7, true), (8, true), (9, true), (10, true), (11, true), (12, true), (13, true), (14, true), (16, true), (17, true), (18, true), (19, true), (20, true), (15, false), (21, true), (22, true), (23, true)] .done) (by kernel_rfl) (by kernel_rfl) (by kernel_rfl) (by kernel_rfl) hS4 ?_
                iterate 2
                  first
                    | (refine plan_pass _ rfl (by rfl) ?_)
                    | (refine plan_take _ _ rfl (.inl ⟨by rfl, fun W hS => by obtain ⟨z1, z2⟩ := hS; go_simp; try with_reducible rfl⟩) ?_)
                  try simp only [Act.put, List.setIfInBounds_toArray, List.set_cons_zero, List.set_cons_succ]
                refine plan_run _ rfl (fun K hK => ?_)
                go_simp
                refine hK.out _ _ hS4 ?_
                clear hK K
                iterate 17
                  first
                    | (refine plan_pass _ rfl (by rfl) ?_)
                    | (refine plan_take _ _ rfl (.inl ⟨by rfl, fun W hS => by obtain ⟨z1, z2⟩ := hS; go_simp; try with_reducible rfl⟩) ?_)
                  try simp only [Act.put, List.setIfInBounds_toArray, List.set_cons_zero, List.set_cons_succ]
                refine plan_run _ rfl (fun K hK => ?_)
                go_simp
                refine (hsn (S.drewN hH 1)).mono ?_
                rintro e w5 ⟨rfl, hq⟩
                have hb5 := hb.drew.trans (hq.mono hb.size)
                replace hS4 : (w5.cell? vd = some (.int .u32 1) ∧ w5.cell? (vd.add (kE * 2)) = some (.int .u32 SN)) := ⟨by rw [hq.cell (World.block_lt_of_cell? w4.drew _ hS4.1)]; exact hS4.1, by rw [hq.cell (World.block_lt_of_cell? w4.drew _ hS4.2)]; exact hS4.2⟩
                refine hK.out _ _ hS4 ?_
                clear hK K hq
                iterate 3
                  first
                    | (refine plan_pass _ rfl (by rfl) ?_)
                    | (refine plan_take _ _ rfl (.inl ⟨by rfl, fun W hS => by obtain ⟨z1, z2⟩ := hS; go_simp; try with_reducible rfl⟩) ?_)
                  try simp only [Act.put, List.setIfInBounds_toArray, List.set_cons_zero, List.set_cons_succ]
                refine plan_done ?_
                go_wp2
                go_ret
                exact ⟨rfl, hb5⟩
end Go.Proofs.Ytmfgmdglpeadbaa
