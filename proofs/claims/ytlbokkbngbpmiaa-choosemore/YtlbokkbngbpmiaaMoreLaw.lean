/- paddocklaw9.ChooseMore returns true, for whatever row of increments, group, daemons heard, one more and start, where package history answers as it has to. -/
import Derived.Test.YtlbokkbngbpmiaaBoth
import Derived.Test.YtlbokkbngbpmiaaChooseKnown
import Derived.Test.YtlbokkbngbpmiaaIntApp
namespace Go.Proofs.Ytlbokkbngbpmiaa
set_option linter.unusedSimpArgs false
set_option linter.unusedVariables false
set_option maxRecDepth 100000
open Go.RowKit

theorem ix_all (w : World) : Ix (w.alloc (.cells #[.int .i64 0, .int .i64 1, .int .i64 2, .int .i64 3, .int .i64 4] 3)) (some ⟨w.heap.size, 0, none⟩) 5 [0, 1, 2, 3, 4] := ix_new [0, 1, 2, 3, 4] w (by decide)

set_option maxHeartbeats 8000000 in
theorem more_walk {Is : World → Nat → List IncV → (Nat → Prop) → Prop} (S : HistSpec Is) (ao : Option Addr) (c : Nat) (l : List IncV) (g : Nat) (ho : Option Addr) (hc : Nat) (hs : List Int) (one st : Nat) (w : World) (hS : Sl w ao c 3 (incR l)) (hl : ∀ x ∈ l, IncOk x) (hg : g < 256) (hx : Ix w ho hc hs) (hone : one < 256) (hst : st < 4294967296) :
    Calls Try.prog 5 #[.slice ao l.length c, .int .u8 g, .slice ho hs.length hc, .int .u8 one, .int .u32 st] w fun e w' => e = .returned (.bool true) ∧ Below w.heap.size w w' := by
  have hcap := hS.cap
  have hle := hS.le
  rw [incR_len] at hle
  have hhcap := hx.cap
  have hhle := hx.le
  by_cases h25 : 25 < l.length
  · have h25' : (25 : Int) < (l.length : Int) := by omega
    go_enter Try.func5, Try.ntmps5
    go_wp2_with (first
      | (go_at_call 9; refine (known9_any S _).mono ?_; rintro e w1 ⟨rfl, hb⟩))
    go_ret
    exact ⟨rfl, hb⟩
  · have h25' : (l.length : Int) ≤ 25 := by omega
    by_cases h10 : 10 < hs.length
    · have h10' : (10 : Int) < (hs.length : Int) := by omega
      go_enter Try.func5, Try.ntmps5
      go_wp2_with (first
        | (go_at_call 9; refine (known9_any S _).mono ?_; rintro e w1 ⟨rfl, hb⟩))
      go_ret
      exact ⟨rfl, hb⟩
    · have h10' : (hs.length : Int) ≤ 10 := by omega
      by_cases hg4 : (4 : Int) ≤ (g : Int)
      · go_enter Try.func5, Try.ntmps5
        go_wp2_with (first
          | (go_at_call 9; refine (known9_any S _).mono ?_; rintro e w1 ⟨rfl, hb⟩))
        go_ret
        exact ⟨rfl, hb⟩
      · have hg4' : (g : Int) < 4 := by omega
        clear hg4
        obtain ⟨k, hk⟩ : ∃ k, one % 5 = k := ⟨_, rfl⟩
        obtain ⟨s, hsm⟩ : ∃ s, st % 70 = s := ⟨_, rfl⟩
        have hk5 : k < 5 := by omega
        have hs70 : s < 70 := by omega
        have hk' : Hid _ := hk
        have hsm' : Hid _ := hsm
        clear hk hsm
        go_enter Try.func5, Try.ntmps5
        go_wp2_with (first
          | (go_at_call 9; refine (known9_any S _).mono ?_; rintro e w1 ⟨rfl, hb⟩))
        refine (both_any S ao c l _ (hS.later hb) hl (by omega)).mono ?_
        rintro e w2 ⟨p, r, F, G, rfl, hT, hq⟩
        replace hb := hb.trans (hq.mono hb.size)
        have hH := hT.h
        clear hq hT
        have hgood := S.good hH
        generalize takeH l l.length = xs at *
        have hpt : ptr p = .pointer (some ⟨p, 0, none⟩) := rfl
        have hrt : ptr r = .pointer (some ⟨r, 0, none⟩) := rfl
        rw [hpt, hrt]
        obtain ⟨v1, wa, hr1, mo, mc, w3, hr3, hM, hq3⟩ := copy_one w2 hs (k : Int) ho hc (hx.later hb) (by omega)
        have hMl : (hs ++ [(k : Int)]).length = hs.length + 1 := by rw [List.length_append]; rfl
        go_wp2_with (first
          | (refine wpList_appendI (by rfl) _ _ 22 22 rfl (.slice none 0 0) (.slice ho hs.length hc) rfl rfl v1 wa ?hg ?_; (case hg => exact hr1))
          | (refine wpList_val (.int .u8 (k : Int)) (by rfl) (run_rem_u8 _ _ _ _ rfl one 5 k rfl rfl hone (by decide) hk'.out) ?_)
          | (refine wpList_appendI (by rfl) _ _ 22 22 rfl v1 (.slice (some ⟨wa.heap.size, 0, none⟩) 1 1) rfl rfl (.slice mo (hs.length + 1) mc) w3 ?hg ?_; (case hg => exact hr3))
          | (refine wpList_val (.int .u32 (s : Int)) (by rfl) (run_rem_u32c _ _ _ _ rfl st 70 s rfl rfl hst (by decide) hsm'.out) ?_))
        replace hb := hb.trans (hq3.mono hb.size)
        replace hH := S.later hH hq3
        clear hr1 hr3 hq3
        have hs4 : s < 4294967296 := by omega
        have hs5 : s + 1 < 4294967296 := by omega
        have hMl' : (hs ++ [(k : Int)]).length ≤ 1000000 := by rw [hMl]; omega
        have hLA := fun {W} (h : Is W p xs F) (hI : Ix W ho hc hs) => Lacks_any S g ho hc hs s h hg hI (by omega) hs4
        have hLB := fun {W} (h : Is W p xs F) (hI : Ix W mo mc (hs ++ [(k : Int)])) => Lacks_any S g mo mc (hs ++ [(k : Int)]) s h hg hI hMl' hs4
        have hLC := fun {W} (h : Is W p xs F) (hI : Ix W ho hc hs) => Lacks_any S g ho hc hs (s + 1) h hg hI (by omega) hs5
        have hEA := fun {W} (h : Is W p xs F) (hI : Ix W ho hc hs) => Enough_any S g ho hc hs s h hg hI (by omega) hs4
        have hEB := fun {W} (h : Is W p xs F) (hI : Ix W mo mc (hs ++ [(k : Int)])) => Enough_any S g mo mc (hs ++ [(k : Int)]) s h hg hI hMl' hs4
        have hEC := fun {W} (h : Is W p xs F) (hI : Ix W ho hc hs) => Enough_any S g ho hc hs (s + 1) h hg hI (by omega) hs5
        rw [hMl, hpt] at hLB hEB
        rw [hpt] at hLA hLC hEA hEC
        have hnB := lacks_more (ivals xs g) hs (k : Int) s
        have hnC := lacks_later (ivals xs g) hs s
        have hmB : Hid (enoughM (ivals xs g) hs s = true → enoughM (ivals xs g) (hs ++ [(k : Int)]) s = true) := fun h => enough_more h
        have hmC : Hid (enoughM (ivals xs g) hs s = true → enoughM (ivals xs g) hs (s + 1) = true) := fun h => enough_later h
        have hEall := enough_all xs g s
        have hLall := lacks_all xs g 0
        have hadd1 : s + 1 = s + 1 := rfl
        generalize lacksM (ivals xs g) hs s = LA at *
        generalize lacksM (ivals xs g) (hs ++ [(k : Int)]) s = LB at *
        generalize lacksM (ivals xs g) hs (s + 1) = LC at *
        generalize enoughM (ivals xs g) hs s = EA at *
        generalize enoughM (ivals xs g) (hs ++ [(k : Int)]) s = EB at *
        generalize enoughM (ivals xs g) hs (s + 1) = EC at *
        have hx3 := hx.later hb
        refine (hLA hH hx3).mono ?_
        rintro e w4 ⟨rA, cA, rfl, hRA, hq⟩
        have hRAc := hRA.cap
        have hRAl := hRA.le
        replace hH := S.later hH hq
        replace hx3 := hx3.later hq
        replace hM := hM.later hq
        replace hb := hb.trans (hq.mono hb.size)
        clear hq
        clear hLA hRA
        go_wp2_with fail
        refine (hLB hH hM).mono ?_
        rintro e w5 ⟨rB, cB, rfl, hRB, hq⟩
        have hRBc := hRB.cap
        have hRBl := hRB.le
        replace hH := S.later hH hq
        replace hx3 := hx3.later hq
        replace hM := hM.later hq
        replace hb := hb.trans (hq.mono hb.size)
        clear hq
        clear hLB hRB
        go_wp2_with (first
          | (refine wpList_val (.int .u32 ((s + 1 : Nat) : Int)) (by rfl) (run_add_u32c _ _ _ _ rfl s 1 (s + 1) rfl rfl rfl hs5) ?_))
        refine (hLC hH hx3).mono ?_
        rintro e w6 ⟨rC, cC, rfl, hRC, hq⟩
        have hRCc := hRC.cap
        have hRCl := hRC.le
        replace hH := S.later hH hq
        replace hx3 := hx3.later hq
        replace hM := hM.later hq
        replace hb := hb.trans (hq.mono hb.size)
        clear hq
        clear hLC hRC
        have hnBI : (LB.length : Int) ≤ (LA.length : Int) := by omega
        have hnCI : (LC.length : Int) ≤ (LA.length : Int) := by omega
        have hall := ix_all w6
        have hq := (Below.refl w6.heap.size w6).alloc (Nat.le_refl _) (.cells #[.int .i64 0, .int .i64 1, .int .i64 2, .int .i64 3, .int .i64 4] 3)
        replace hH := S.later hH hq
        replace hx3 := hx3.later hq
        replace hM := hM.later hq
        replace hb := hb.trans (hq.mono hb.size)
        clear hq
        obtain ⟨w7, hw7⟩ : ∃ W, w6.alloc (.cells #[.int .i64 0, .int .i64 1, .int .i64 2, .int .i64 3, .int .i64 4] 3) = W := ⟨_, rfl⟩
        rw [hw7] at hall hH hx3 hM hb
        go_wp2_with fail
        have hE := Enough_any S g (some ⟨w6.heap.size, 0, none⟩) 5 [0, 1, 2, 3, 4] s hH hg hall (by decide) hs4
        rw [hEall, hpt] at hE
        refine hE.mono ?_
        rintro e w8 ⟨rfl, hq⟩
        replace hall := hall.later hq
        replace hH := S.later hH hq
        replace hx3 := hx3.later hq
        replace hM := hM.later hq
        replace hb := hb.trans (hq.mono hb.size)
        clear hq
        clear hE hw7
        have hE := Lacks_any S g (some ⟨w6.heap.size, 0, none⟩) 5 [0, 1, 2, 3, 4] 0 hH hg hall (by decide) (by decide)
        rw [hLall, hpt] at hE
        go_wp2_with fail
        refine hE.mono ?_
        rintro e w9 ⟨rD, cD, rfl, hRD, hq⟩
        have hRDc := hRD.cap
        replace hH := S.later hH hq
        replace hx3 := hx3.later hq
        replace hM := hM.later hq
        replace hb := hb.trans (hq.mono hb.size)
        clear hq
        clear hE hRD hall
        go_wp2_with fail
        refine (hEA hH hx3).mono ?_
        rintro e w10 ⟨rfl, hq⟩
        replace hH := S.later hH hq
        replace hx3 := hx3.later hq
        replace hM := hM.later hq
        replace hb := hb.trans (hq.mono hb.size)
        clear hq
        cases EA with
        | false =>
          go_wp2
          go_ret
          exact ⟨rfl, hb⟩
        | true =>
          have e1 := hmB.out rfl
          have e2 := hmC.out rfl
          subst e1 e2
          clear hEA hmB hmC
          go_wp2_with fail
          refine (hEB hH hM).mono ?_
          rintro e w11 ⟨rfl, hq⟩
          replace hH := S.later hH hq
          replace hx3 := hx3.later hq
          replace hM := hM.later hq
          replace hb := hb.trans (hq.mono hb.size)
          clear hq
          go_wp2_with (first
            | (refine wpList_val (.int .u32 ((s + 1 : Nat) : Int)) (by first | rfl | simp [Region.wanted, yielded]) (run_add_u32c _ _ _ _ rfl s 1 (s + 1) rfl rfl rfl hs5) ?_))
          refine (hEC hH hx3).mono ?_
          rintro e w12 ⟨rfl, hq⟩
          replace hb := hb.trans (hq.mono hb.size)
          go_wp2
          go_ret
          exact ⟨rfl, hb⟩
end Go.Proofs.Ytlbokkbngbpmiaa
