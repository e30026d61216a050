/- paddocklaw9.ChooseStarted returns true, for whatever row of increments and group, where package history answers as it has to. -/
import Derived.Test.YtlbokkbngbpmiaaChooseFacts
import Derived.Test.YtlbokkbngbpmiaaChooseKnown
namespace Go.Proofs.Ytlbokkbngbpmiaa
set_option linter.unusedSimpArgs false
set_option linter.unusedVariables false
set_option maxRecDepth 100000
open Go.RowKit

set_option maxHeartbeats 8000000 in
theorem started_walk {Is : World → Nat → List IncV → (Nat → Prop) → Prop} (S : HistSpec Is) (ao : Option Addr) (c : Nat) (l : List IncV) (g : Nat) (w : World) (hS : Sl w ao c 3 (incR l)) (hl : ∀ x ∈ l, IncOk x) (hg : g < 256) :
    Calls Try.prog 8 #[.slice ao l.length c, .int .u8 g] w fun e w' => e = .returned (.bool true) ∧ Below w.heap.size w w' := by
  have hcap := hS.cap
  have hle := hS.le
  rw [incR_len] at hle
  by_cases h25 : 25 < l.length
  · have h25' : (25 : Int) < (l.length : Int) := by omega
    go_enter Try.func8, Try.ntmps8
    go_wp2_with (first
      | (go_at_call 9; refine (known9_any S _).mono ?_; rintro e w1 ⟨rfl, hb⟩))
    go_ret
    exact ⟨rfl, hb⟩
  · have h25' : (l.length : Int) ≤ 25 := by omega
    by_cases hg4 : (4 : Int) ≤ (g : Int)
    · go_enter Try.func8, Try.ntmps8
      go_wp2_with (first
        | (go_at_call 9; refine (known9_any S _).mono ?_; rintro e w1 ⟨rfl, hb⟩))
      go_ret
      exact ⟨rfl, hb⟩
    · have hg4' : (g : Int) < 4 := by omega
      have hgN : g < 4 := by omega
      clear hg4
      go_enter Try.func8, Try.ntmps8
      go_wp2_with (first
        | (go_at_call 9; refine (known9_any S _).mono ?_; rintro e w1 ⟨rfl, hb⟩))
      refine (S.new _).mono ?_
      rintro e w2 ⟨p, F, rfl, hH, hF0, hq⟩
      have hF : ∀ b, F b → w.heap.size ≤ b := fun b h => Nat.le_trans hb.size (hF0 b h)
      replace hb := hb.trans (hq.mono hb.size)
      clear hq hF0
      have hpt : ptr p = .pointer (some ⟨p, 0, none⟩) := rfl
      rw [hpt]
      go_wp2
      go_loopw [6] (fun i wr => ∃ (n : Nat) (F : Nat → Prop), n ≤ l.length ∧ i = .int .i64 n ∧ Is wr p (takeH l n) F ∧ (∀ b, F b → w.heap.size ≤ b) ∧ Below w.heap.size w wr) (fun i _ => l.length - (intOf i).toNat)
      case atStart => exact ⟨0, F, Nat.zero_le _, rfl, hH, hF, hb⟩
      case round =>
        clear hH hF hb
        obtain ⟨n, F1, hn, rfl, hH, hF, hb⟩ := hrel
        by_cases hlt : n < l.length
        · have hnI : (n : Int) < (l.length : Int) := by omega
          have hxn := hl l[n] (List.getElem_mem hlt)
          have hts : Hid _ := takeH_succ hlt
          have hln := takeH_le9 l n
          cases ao with
          | none => have h1 := hS.nil rfl; omega
          | some ad =>
            have hci : ∀ W, Below w.heap.size w W → ∀ j v, (incC l[n]).toList[j]? = some v → W.cell? ((ad.add (n * 3)).add j) = some v := fun W hW => incR_at (hS.later hW) n hlt
            generalize l[n] = x at *
            generalize takeH l n = xs at *
            obtain ⟨m, hm⟩ : ∃ m, m = xs.length + 1 := ⟨_, rfl⟩
            have hm' : Hid (m = xs.length + 1) := hm
            have hmb : m < 1000 := by omega
            have hraw : Hid _ := u32_next hmb
            have hlast := fun {w} (h : Is w p xs F1) => S.last h
            rw [← hm] at hlast
            have hadd := fun {w} (h : Is w p xs F1) => S.add (m + 1) x h (by omega) hxn
            rw [show m + 1 = xs.length + 2 by omega] at hadd
            have hmi : ((xs.length + 2 : Nat) : Int) = ((m + 1 : Nat) : Int) := by omega
            rw [hmi] at hadd
            clear hm hmi
            go_wp2
            refine wp_region_plan (fun W => Below w.heap.size w W) (Plan.of [(0, true), (1, true), (4, true), (5, true), (6, true), (7, true), (2, false), (3, true), (8, false)] .done) (by kernel_rfl) (by kernel_rfl) (by kernel_rfl) (by kernel_rfl) hb.drew ?_
            iterate 5
              first
                | (refine plan_pass _ rfl (by rfl) ?_)
                | (refine plan_take _ _ rfl (.inl ⟨by rfl, fun W hS => by clear hS; go_simp; try with_reducible rfl⟩) ?_)
              try simp only [Act.put, List.setIfInBounds_toArray, List.set_cons_zero, List.set_cons_succ]
            refine plan_take _ _ rfl (yields_inc_at x (by rfl) _ rfl (ad.add (n * 3)) rfl hci) ?_
            try simp only [Act.put, List.setIfInBounds_toArray, List.set_cons_zero, List.set_cons_succ]
            refine plan_run _ rfl (fun K hK => ?_)
            go_simp
            have hH2 := S.drewN hH 1
            refine (hlast hH2).mono ?_
            rintro e w3 ⟨rfl, hq⟩
            replace hH2 := S.later hH2 hq
            have hb2 := hb.drew.trans (hq.mono hb.size)
            refine hK.out _ _ hb2 ?_
            clear hK K hq hH hb
            first
              | (refine plan_pass _ rfl (by rfl) ?_)
              | (refine plan_take _ _ rfl (.inl ⟨by rfl, fun W hS => by clear hS; go_simp; try with_reducible rfl⟩) ?_)
            try simp only [Act.put, List.setIfInBounds_toArray, List.set_cons_zero, List.set_cons_succ]
            refine plan_run _ rfl (fun K hK => ?_)
            go_simp
            rw [hraw.out]
            refine (hadd hH2).mono ?_
            rintro e w4 ⟨rfl, ⟨F2, hH3, hF2⟩, hoff⟩
            obtain ⟨hb3, hF3⟩ := off_step hb2 hF hoff hF2
            refine hK.out _ _ hb3 ?_
            clear hK K hoff hH2 hF hF2 hb2 hlast hadd
            refine plan_done ?_
            rw [← hts.out] at hH3
            go_wp2
            go_roundw
            case rel => exact ⟨n + 1, F2, by omega, by go_num, hH3, hF3, hb3⟩
            case measure => simp [intOf]; omega
        · have e5 : n = l.length := by omega
          subst e5
          have hgood := S.good hH
          have hln := takeH_le9 l l.length
          generalize takeH l l.length = xs at *
          have hl59 := lenH hgood
          have hsl := since_lt xs g hl59
          have hlk := started_lacks xs hgN []
          have hen := started_enough xs hgN
          have hls : Hid (∀ {x : Int} {a : List Int}, nowH xs g = x :: a → enoughM (ivals xs g) a (sinceH xs g) = false) := fun h => started_less xs hgN h
          have hsn := fun {w} (h : Is w p xs F1) => S.since g h hg
          have hac := fun {w} (h : Is w p xs F1) => S.acting g h hg
          have hnl : (nowH xs g).length ≤ 3 := by rw [now_is]; exact (actM_mem _ g).2
          rw [hpt] at hsn hac
          go_wp2_with fail
          refine (hsn hH).mono ?_
          rintro e w3 ⟨rfl, hq⟩
          replace hH := S.later hH hq
          replace hb := hb.trans (hq.mono hb.size)
          clear hq hsn
          go_wp2_with fail
          refine (hac hH).mono ?_
          rintro e w4 ⟨bo, d, rfl, hA, hq, _⟩
          replace hH := S.later hH hq
          replace hb := hb.trans (hq.mono hb.size)
          clear hq hac
          have hE := Lacks_any S g none 0 [] (sinceH xs g) hH hg (Ix.nothing _) (Nat.zero_le _) hsl
          rw [hlk, hpt] at hE
          go_wp2_with fail
          refine hE.mono ?_
          rintro e w5 ⟨ro, rc, rfl, hR, hq⟩
          have hRc := hR.cap
          replace hH := S.later hH hq
          replace hA := hA.later hq
          replace hb := hb.trans (hq.mono hb.size)
          clear hq hE hR
          have hE := Enough_any S g bo d (nowH xs g) (sinceH xs g) hH hg hA (by omega) hsl
          rw [hen, hpt] at hE
          have hAle := hA.le
          have hAcap := hA.cap
          go_wp2_with fail
          refine hE.mono ?_
          rintro e w6 ⟨rfl, hq⟩
          replace hH := S.later hH hq
          replace hA := hA.later hq
          replace hb := hb.trans (hq.mono hb.size)
          clear hq hE
          generalize hN : nowH xs g = A at *
          cases A with
          | nil =>
            clear hN hls
            go_wp2
            go_ret
            exact ⟨rfl, hb⟩
          | cons x A' =>
            have hno := hls.out rfl
            have hT := hA.tl
            rw [List.length_cons] at hAle hnl
            have htl := fun W => run_tl W bo A'.length d hAle
            have hE := Enough_any S g (tlAddr bo d) (d - 1) A' (sinceH xs g) hH hg hT (by omega) hsl
            rw [hno, hpt] at hE
            have hz : (((A'.length + 1 : Nat) : Int) == 0) = false := by rw [beq_eq_false_iff_ne]; omega
            rw [List.length_cons]
            clear hA hT hN hls hno
            go_wp2_with fail
            refine hE.mono ?_
            rintro e w7 ⟨rfl, hq⟩
            replace hb := hb.trans (hq.mono hb.size)
            go_wp2
            go_ret
            exact ⟨rfl, hb⟩
end Go.Proofs.Ytlbokkbngbpmiaa
