/- paddocklaw4.PlaceDown returns true, for whatever group and row of bools. -/
import Derived.Test.YtmobdnaejfldnaaPlaceKnown
import Derived.Test.YtmobdnaejfldnaaPlaceMoved
import Derived.Test.YtmobdnaejfldnaaBools
import Derived.Test.YtmobdnaejfldnaaVal
namespace Go.Proofs.Ytmobdnaejfldnaa
set_option linter.unusedSimpArgs false
set_option linter.unusedVariables false
open Go.RowKit

theorem ix_head {w : World} {ad : Addr} {c : Nat} {x : Int} {l : List Int} (h : Ix w (some ad) c (x :: l)) : w.cell? ad = some (.int .i64 x) := by
  have c0 := h.at' ad rfl 0 (by simp)
  have e : ad.add 0 = ad := by cases ad; simp [Addr.add]
  rw [e] at c0
  exact c0

theorem ix_set {w : World} {ao : Option Addr} {c b : Nat} {xs : List Int} (h : Ix w ao c xs) (hb : ∀ ad, ao = some ad → b ≠ ad.block) (j : Nat) (v : Value) : Ix (w.setCell ⟨b, j, none⟩ v) ao c xs := by
  refine ⟨h.le, h.cap, h.nil, fun ad had k hk => ?_⟩
  have hbl : (ad.add k).block = ad.block := by unfold Addr.add; split <;> rfl
  rw [World.cell?_of_block (w := w) (Below.heap_setCell w ⟨b, j, none⟩ v _ (fun e => hb ad had (by rw [← hbl]; exact e.symm)))]
  exact h.at' ad had k hk

theorem decide_refl (l : List Int) : decide (l = l) = true := decide_eq_true rfl

set_option maxRecDepth 100000 in
set_option maxHeartbeats 4000000 in
theorem down_walk (S : PlaceSpec) (g : Nat) (off : Fin 5 → Bool) (w : World) (hg : g < 256) :
    Calls Try.prog 8 #[.int .u8 g, .agg (boolC off)] w fun e w' => e = .returned (.bool true) ∧ Below w.heap.size w w' := by
  obtain ⟨i0, hi, hz0, hz1, hz2⟩ := info_parts Try.infoInt
  have hO0 := Has.new w 37 (boolC off)
  have hb0 := (Below.refl w.heap.size w).alloc (Nat.le_refl _) (.cells (boolC off) 37)
  obtain ⟨r, hr⟩ : ∃ r, r = g % 4 := ⟨_, rfl⟩
  have hr4 : r < 4 := by omega
  have hr' : Hid (g % 4 = r) := hr.symm
  clear hr
  go_enter Try.func8, Try.ntmps8
  go_wp2_with (first
    | (go_at_call 9; refine (pknown_any S _).mono ?_; rintro e w1 ⟨rfl, hq⟩; have hO := hO0.later hq; have hb := hb0.trans (hq.mono hb0.size); clear hq hO0 hb0)
    | (go_at_call 18; refine (first_any _).mono ?_; rintro e w2 ⟨rfl, hq⟩; replace hO := hO.later hq; replace hb := hb.trans (hq.mono hb.size); clear hq; have hlt := hO.lt)
    | (refine wpList_val (.int .u8 (r : Int)) (by rfl) (run_rem_u8 _ _ _ _ rfl g 4 r rfl rfl hg (by decide) hr'.out) ?_)
    | (refine alloc_map (by rfl) rfl ?_)
    | (refine store_map firstM zeroM (by rfl) _ _ rfl _ rfl rfl ?hg ?_; (case hg => exact Has.new _ _ _); have hM := (Has.new w2 27 (mapC zeroM)).row (mapC firstM); have hbb := below_setRow ((Below.refl w2.heap.size w2).alloc (Nat.le_refl _) (.cells (mapC zeroM) 27)) (Nat.le_refl _) (mapC firstM); replace hO := hO.later hbb; replace hb := hb.trans (hbb.mono hb.size); generalize (w2.alloc (.cells (mapC zeroM) 27)).setRow w2.heap.size (mapC firstM) = w3 at *)
    | (refine load_map firstM (by rfl) _ rfl w2.heap.size rfl ?hg ?_; (case hg => exact hM)))
  refine (pick_fresh firstM r _ firstM_ok (by omega)).mono ?_
  rintro e w4 ⟨ao, c, rfl, hIx, hq, hfr⟩
  have hlt3 := hM.lt
  replace hM := hM.later hq
  replace hO := hO.later hq
  replace hb := hb.trans (hq.mono hb.size)
  clear hq hbb
  have hfr : ∀ ad, ao = some ad → w2.heap.size ≠ ad.block := fun ad had => by have := hfr ad had; omega
  have hpk : ∀ n, pickM (upsM firstM (fun i => !off i) n) r = pickM firstM r := fun n => pick_ups _ _ _ _
  have hpk0 : ∀ n k, pickM (upsM firstM (fun i => !off i) n) k = pickM firstM k := fun n k => pick_ups _ _ _ _
  have hmv0 : Hid (movedTo (upsM firstM (fun i => !off i) 5) firstM 4 = 0) := moved_none (hpk0 5) 4
  have hac : Hid (actM (upsM firstM (fun i => !off i) 5) r = (pickM firstM r).filter (upI (upsM firstM (fun i => !off i) 5))) := by show actM _ _ = _; unfold actM; rw [hpk]
  have hpr : Hid (primM (upsM firstM (fun i => !off i) 5) r = match actM (upsM firstM (fun i => !off i) 5) r with | [] => -1 | x :: _ => x) := rfl
  have hp5 := hpk 5
  obtain ⟨hmem, hlen⟩ := pickM_mem firstM r
  clear hpk hpk0
  have hcap := hIx.cap
  have hle := hIx.le
  have hM : Has w4 w2.heap.size 27 (mapC (upsM firstM (fun i => !off i) 0)) := by rw [upsM_0]; exact hM
  have hup : ∀ (p : Nat) (h : p < 5), upI (upsM firstM (fun i => !off i) 5) (p : Int) = !off ⟨p, h⟩ := fun p h => by rw [upI_at _ p h, upsM_up]
  have hMok := upsM_ok firstM_ok (fun i => !off i) 5
  go_wp2
  go_loopw [9] (fun i wr => ∃ n : Nat, n ≤ 5 ∧ i = .int .i64 n ∧ Has wr w2.heap.size 27 (mapC (upsM firstM (fun i => !off i) n)) ∧ Has wr w.heap.size 37 (boolC off) ∧ Ix wr ao c (pickM firstM r) ∧ Below w.heap.size w wr) (fun i _ => (5 - intOf i).toNat)
  case atStart => exact ⟨0, by decide, rfl, hM, hO, hIx, hb⟩
  case round =>
    clear hM hO hIx hb
    obtain ⟨n, hn, rfl, hM, hO, hIx, hb⟩ := hrel
    by_cases hlt5 : n < 5
    · have hnI : (n : Int) < 5 := by omega
      have cb := hO.cell n
      rw [boolC_at off ⟨n, hlt5⟩] at cb
      have cu := hM.cell (1 + n * 3)
      rw [mapC_up _ ⟨n, hlt5⟩] at cu
      have fu := hM.free (1 + n * 3)
      have hM2 := hM.set (1 + n * 3) (.bool (!off ⟨n, hlt5⟩))
      rw [mapC_setUp _ ⟨n, hlt5⟩, upsM_step firstM (fun i => !off i) n hlt5] at hM2
      have hO2 := hO.set_other (a := ⟨w2.heap.size, 1 + n * 3, none⟩) (by show w.heap.size ≠ w2.heap.size; omega) (.bool (!off ⟨n, hlt5⟩))
      have hb2 := hb.setCell (p := ⟨w2.heap.size, 1 + n * 3, none⟩) (by show w.heap.size ≤ w2.heap.size; omega) (.bool (!off ⟨n, hlt5⟩))
      have hI2 := ix_set hIx hfr (1 + n * 3) (.bool (!off ⟨n, hlt5⟩))
      generalize (upsM firstM (fun i => !off i) n).osd ⟨n, hlt5⟩ = OS at *
      generalize off ⟨n, hlt5⟩ = OF at *
      go_wp2
      go_roundw
      case rel => exact ⟨n + 1, by omega, by go_num, hM2, hO2, hI2, hb2⟩
      case measure => simp [intOf]; omega
    · have e5 : n = 5 := by omega
      subst e5
      rw [show ((5 : Nat) : Int) = 5 from rfl]
      generalize upsM firstM (fun i => !off i) 5 = M at *
      generalize hPL : pickM firstM r = L at *
      obtain ⟨W5, hW5⟩ : ∃ W, W = wr := ⟨_, rfl⟩
      subst hW5
      have hgs := hb.size
      go_wp2
      go_loopw [8, 10] (fun v i wr => ∃ n : Nat, n ≤ L.length ∧ i = .int .i64 n ∧ wr.ownsRow W5.heap.size 3 1 v ((L.take n).filter (upI M)).length (intsC ((L.take n).filter (upI M))) ∧ Below W5.heap.size W5 wr) (fun _ i _ => L.length - (intOf i).toNat)
      case atStart => exact ⟨0, Nat.zero_le _, rfl, World.ownsRow_nil _ _ _ _, Below.refl _ _⟩
      case round =>
        obtain ⟨n, hn2, rfl, hown, hbw⟩ := hrel
        by_cases hltn : n < L.length
        · have hnI : (n : Int) < (L.length : Int) := by omega
          have hmn := hmem L[n] (List.getElem_mem hltn)
          obtain ⟨p, hp2⟩ := Int.eq_ofNat_of_zero_le hmn.1
          have hp5' : p < 5 := by omega
          have hpI : (p : Int) < 5 := by omega
          have cp := (hO.later hbw).cell p
          rw [boolC_at off ⟨p, hp5'⟩] at cp
          have hfl : ((L.take n).filter (upI M)).length ≤ 3 := Nat.le_trans (List.length_filter_le _ _) (by rw [List.length_take]; omega)
          have hstep : Hid _ := filter_step (p := upI M) hltn
          rw [hp2, hup p hp5'] at hstep
          cases ao with
          | none => have := hIx.nil rfl; omega
          | some ad =>
            have ci := (hIx.later hbw).at' ad rfl n hltn
            rw [hp2] at ci
            clear hp2
            cases hu : off ⟨p, hp5'⟩ with
            | true =>
              rw [hu] at cp hstep
              have hown6 : wr.ownsRow W5.heap.size 3 1 u8 ((L.take (n + 1)).filter (upI M)).length (intsC ((L.take (n + 1)).filter (upI M))) := by
                have := hstep.out
                rw [this]
                simpa using hown
              go_wp2
              go_roundw
              case rel => exact ⟨n + 1, by omega, by go_num, hown6, hbw⟩
              case measure => simp [intOf]; omega
            | false =>
              rw [hu] at cp hstep
              go_wp2_with (at_builtin; refine wpList_append_own _ rfl _ _ 30 rfl W5.heap.size 3 i0 (.int .i64 0) 1 8 Try.underlying30 hi hz0 hz1 hz2 rfl (by decide) _ ((L.take n).filter (upI M)).length _ rfl (hown.alloc _) ⟨wr.heap.size, 0, none⟩ 1 1 [.int .i64 p] rfl rfl (one_i64 _ _ _) (one_i641 _) (by unfold maxLen; omega) (by omega) (by have := hbw.size; simp; omega) ?_)
              intro v' w5 hown5 hgrow _
              have hb5 : Below W5.heap.size W5 w5 := (hbw.alloc hbw.size _).grown hgrow (by have := hbw.size; simp; omega) (fun k hk => (hown.lt k hk).1)
              have hown6 : w5.ownsRow W5.heap.size 3 1 v' ((L.take (n + 1)).filter (upI M)).length (intsC ((L.take (n + 1)).filter (upI M))) := by
                have := hstep.out
                simp only [Bool.not_false, if_true] at this
                rw [this]
                unfold intsC at hown5 ⊢
                rw [List.length_append, List.map_append]
                exact hown5
              clear hown hown5 hgrow
              go_wp2
              go_roundw
              case rel => exact ⟨n + 1, by omega, by go_num, hown6, hb5⟩
              case measure => simp [intOf]; omega
        · have e6 : n = L.length := by omega
          subst e6
          rw [List.take_length, ← hac.out] at hown
          obtain ⟨hzz, bo, d, rfl, hA⟩ := ix_own hown
          clear hzz
          have hS : (Has wr w2.heap.size 27 (mapC M) ∧ Ix wr ao c L ∧ Ix wr bo d (actM M r) ∧ Below w.heap.size w wr) := ⟨hM.later hbw, hIx.later hbw, hA, hb.trans (hbw.mono hb.size)⟩
          have keep : ∀ W W' : World, (Has W w2.heap.size 27 (mapC M) ∧ Ix W ao c L ∧ Ix W bo d (actM M r) ∧ Below w.heap.size w W) → Below W.heap.size W W' → (Has W' w2.heap.size 27 (mapC M) ∧ Ix W' ao c L ∧ Ix W' bo d (actM M r) ∧ Below w.heap.size w W') :=
            fun W W' h hq => ⟨h.1.later hq, h.2.1.later hq, h.2.2.1.later hq, h.2.2.2.trans (hq.mono h.2.2.2.size)⟩
          have keepD : ∀ (W : World) (k : Nat), (Has W w2.heap.size 27 (mapC M) ∧ Ix W ao c L ∧ Ix W bo d (actM M r) ∧ Below w.heap.size w W) → (Has (W.drewN k) w2.heap.size 27 (mapC M) ∧ Ix (W.drewN k) ao c L ∧ Ix (W.drewN k) bo d (actM M r) ∧ Below w.heap.size w (W.drewN k)) :=
            fun W k h => ⟨h.1.drewN k, h.2.1.drewN k, h.2.2.1.drewN k, ⟨h.2.2.2.os, h.2.2.2.tape, h.2.2.2.output, h.2.2.2.size, h.2.2.2.block⟩⟩
          have hacc := fun w => S.acting M r w hMok (by omega)
          have hprm := fun w => S.primary M r w hMok (by omega)
          have hpic := fun w => S.pick M r w hMok (by omega)
          have hmov := fun w => S.moved M firstM w hMok firstM_ok
          rw [hmv0.out] at hmov
          rw [hp5] at hpic
          have hAc := hA.cap
          have hAl := hA.le
          clear hown hbw hM hO hIx hb hmem hac hmv0 hup hp5 hfr
          generalize primM M r = PR at *
          generalize actM M r = A at *
          cases A with
          | nil =>
            replace hpr : Hid (PR = -1) := hpr.out
            obtain rfl := hpr.out
            clear hpr
            clear hA
            go_wp2
            replace hS := keepD _ 1 hS
            refine wp_region_plan (fun W => Has W w2.heap.size 27 (mapC M) ∧ Ix W ao c L ∧ Ix W bo d [] ∧ Below w.heap.size w W) (Plan.of [(0, true), (1, true), (3, true), (2, false), (4, false), (5, true), (6, true), (7, true), (9, true), (8, false), (10, false), (11, true), (12, true), (13, true), (14, true), (16, true), (15, false), (17, true), (18, true), (19, true), (20, true), (21, false), (22, false), (23, true), (24, true), (25, true)] .done) (by kernel_rfl) (by kernel_rfl) (by kernel_rfl) (by kernel_rfl) hS ?_
            refine plan_take _ _ rfl (yields_map M (by rfl) _ rfl (w2.heap.size) rfl (fun _ h => h.1)) ?_
            try simp only [Act.put, List.setIfInBounds_toArray, List.set_cons_zero, List.set_cons_succ]
            iterate 2
              first
                | (refine plan_pass _ rfl (by rfl) ?_)
                | (refine plan_take _ _ rfl (.inl ⟨by rfl, fun W hS => by clear hS; go_simp; try with_reducible rfl⟩) ?_)
              try simp only [Act.put, List.setIfInBounds_toArray, List.set_cons_zero, List.set_cons_succ]
            refine plan_run _ rfl (fun K hK => ?_)
            go_simp
            refine (hacc _).mono ?_
            rintro e w6 ⟨a1, c1, rfl, hI1, hq⟩
            replace hS := keep _ _ hS hq
            refine hK.out _ _ hS ?_
            clear hK K hq
            refine plan_run _ rfl (fun K hK => ?_)
            go_simp
            refine (ints_any a1 bo c1 d [] [] _ hI1 hS.2.2.1).mono ?_
            rintro e w7 ⟨rfl, nq, rfl⟩
            replace hS := keepD _ nq hS
            rw [decide_refl]
            refine hK.out _ _ hS ?_
            clear hK K
            first
              | (refine plan_pass _ rfl (by rfl) ?_)
              | (refine plan_take _ _ rfl (.inl ⟨by rfl, fun W hS => by clear hS; go_simp; try with_reducible rfl⟩) ?_)
            try simp only [Act.put, List.setIfInBounds_toArray, List.set_cons_zero, List.set_cons_succ]
            refine plan_take _ _ rfl (yields_map M (by rfl) _ rfl (w2.heap.size) rfl (fun _ h => h.1)) ?_
            try simp only [Act.put, List.setIfInBounds_toArray, List.set_cons_zero, List.set_cons_succ]
            iterate 2
              first
                | (refine plan_pass _ rfl (by rfl) ?_)
                | (refine plan_take _ _ rfl (.inl ⟨by rfl, fun W hS => by clear hS; go_simp; try with_reducible rfl⟩) ?_)
              try simp only [Act.put, List.setIfInBounds_toArray, List.set_cons_zero, List.set_cons_succ]
            refine plan_run _ rfl (fun K hK => ?_)
            go_simp
            refine (hpic _).mono ?_
            rintro e w8 ⟨a2, c2, rfl, hI2, hq⟩
            replace hS := keep _ _ hS hq
            refine hK.out _ _ hS ?_
            clear hK K hq
            refine plan_run _ rfl (fun K hK => ?_)
            go_simp
            refine (ints_any a2 ao c2 c L L _ hI2 hS.2.1).mono ?_
            rintro e w9 ⟨rfl, nq, rfl⟩
            replace hS := keepD _ nq hS
            rw [decide_refl]
            refine hK.out _ _ hS ?_
            clear hK K
            iterate 2
              first
                | (refine plan_pass _ rfl (by rfl) ?_)
                | (refine plan_take _ _ rfl (.inl ⟨by rfl, fun W hS => by clear hS; go_simp; try with_reducible rfl⟩) ?_)
              try simp only [Act.put, List.setIfInBounds_toArray, List.set_cons_zero, List.set_cons_succ]
            refine plan_take _ _ rfl (yields_map M (by rfl) _ rfl (w2.heap.size) rfl (fun _ h => h.1)) ?_
            try simp only [Act.put, List.setIfInBounds_toArray, List.set_cons_zero, List.set_cons_succ]
            iterate 2
              first
                | (refine plan_pass _ rfl (by rfl) ?_)
                | (refine plan_take _ _ rfl (.inl ⟨by rfl, fun W hS => by clear hS; go_simp; try with_reducible rfl⟩) ?_)
              try simp only [Act.put, List.setIfInBounds_toArray, List.set_cons_zero, List.set_cons_succ]
            refine plan_run _ rfl (fun K hK => ?_)
            go_simp
            refine (hprm _).mono ?_
            rintro e w10 ⟨rfl, hq⟩
            replace hS := keep _ _ hS hq
            refine hK.out _ _ hS ?_
            clear hK K hq
            iterate 3
              first
                | (refine plan_pass _ rfl (by rfl) ?_)
                | (refine plan_take _ _ rfl (.inl ⟨by rfl, fun W hS => by clear hS; go_simp; try with_reducible rfl⟩) ?_)
              try simp only [Act.put, List.setIfInBounds_toArray, List.set_cons_zero, List.set_cons_succ]
            refine plan_take _ _ rfl (yields_map M (by rfl) _ rfl (w2.heap.size) rfl (fun _ h => h.1)) ?_
            try simp only [Act.put, List.setIfInBounds_toArray, List.set_cons_zero, List.set_cons_succ]
            refine plan_run _ rfl (fun K hK => ?_)
            go_simp
            refine (first_any _).mono ?_
            rintro e w11 ⟨rfl, hq⟩
            replace hS := keep _ _ hS hq
            refine hK.out _ _ hS ?_
            clear hK K hq
            refine plan_run _ rfl (fun K hK => ?_)
            go_simp
            refine (hmov _).mono ?_
            rintro e w12 ⟨rfl, hq⟩
            replace hS := keep _ _ hS hq
            refine hK.out _ _ hS ?_
            clear hK K hq
            iterate 3
              first
                | (refine plan_pass _ rfl (by rfl) ?_)
                | (refine plan_take _ _ rfl (.inl ⟨by rfl, fun W hS => by clear hS; go_simp; try with_reducible rfl⟩) ?_)
              try simp only [Act.put, List.setIfInBounds_toArray, List.set_cons_zero, List.set_cons_succ]
            refine plan_done ?_
            go_wp2
            go_ret
            exact ⟨rfl, hS.2.2.2⟩
          | cons x l =>
            replace hpr : Hid (PR = x) := hpr.out
            obtain rfl := hpr.out
            clear hpr
            have hl1 : (PR :: l).length = l.length + 1 := rfl
            rw [hl1] at hAl
            rw [hl1]
            cases bo with
            | none => have h1 := hA.nil rfl; omega
            | some bd =>
            have c0 := ix_head hA
            clear hA
            go_wp2
            replace hS := keepD _ 1 hS
            refine wp_region_plan (fun W => Has W w2.heap.size 27 (mapC M) ∧ Ix W ao c L ∧ Ix W (some bd) d (PR :: l) ∧ Below w.heap.size w W) (Plan.of [(0, true), (1, true), (3, true), (2, false), (4, false), (5, true), (6, true), (7, true), (9, true), (8, false), (10, false), (11, true), (12, true), (13, true), (14, true), (16, true), (15, false), (17, true), (18, true), (19, true), (20, true), (21, false), (22, false), (23, true), (24, true), (25, true)] .done) (by kernel_rfl) (by kernel_rfl) (by kernel_rfl) (by kernel_rfl) hS ?_
            refine plan_take _ _ rfl (yields_map M (by rfl) _ rfl (w2.heap.size) rfl (fun _ h => h.1)) ?_
            try simp only [Act.put, List.setIfInBounds_toArray, List.set_cons_zero, List.set_cons_succ]
            iterate 2
              first
                | (refine plan_pass _ rfl (by rfl) ?_)
                | (refine plan_take _ _ rfl (.inl ⟨by rfl, fun W hS => by clear hS; go_simp; try with_reducible rfl⟩) ?_)
              try simp only [Act.put, List.setIfInBounds_toArray, List.set_cons_zero, List.set_cons_succ]
            refine plan_run _ rfl (fun K hK => ?_)
            go_simp
            refine (hacc _).mono ?_
            rintro e w6 ⟨a1, c1, rfl, hI1, hq⟩
            replace hS := keep _ _ hS hq
            refine hK.out _ _ hS ?_
            clear hK K hq
            refine plan_run _ rfl (fun K hK => ?_)
            go_simp
            refine (ints_any a1 (some bd) c1 d (PR :: l) (PR :: l) _ hI1 hS.2.2.1).mono ?_
            rintro e w7 ⟨rfl, nq, rfl⟩
            replace hS := keepD _ nq hS
            rw [decide_refl]
            refine hK.out _ _ hS ?_
            clear hK K
            first
              | (refine plan_pass _ rfl (by rfl) ?_)
              | (refine plan_take _ _ rfl (.inl ⟨by rfl, fun W hS => by clear hS; go_simp; try with_reducible rfl⟩) ?_)
            try simp only [Act.put, List.setIfInBounds_toArray, List.set_cons_zero, List.set_cons_succ]
            refine plan_take _ _ rfl (yields_map M (by rfl) _ rfl (w2.heap.size) rfl (fun _ h => h.1)) ?_
            try simp only [Act.put, List.setIfInBounds_toArray, List.set_cons_zero, List.set_cons_succ]
            iterate 2
              first
                | (refine plan_pass _ rfl (by rfl) ?_)
                | (refine plan_take _ _ rfl (.inl ⟨by rfl, fun W hS => by clear hS; go_simp; try with_reducible rfl⟩) ?_)
              try simp only [Act.put, List.setIfInBounds_toArray, List.set_cons_zero, List.set_cons_succ]
            refine plan_run _ rfl (fun K hK => ?_)
            go_simp
            refine (hpic _).mono ?_
            rintro e w8 ⟨a2, c2, rfl, hI2, hq⟩
            replace hS := keep _ _ hS hq
            refine hK.out _ _ hS ?_
            clear hK K hq
            refine plan_run _ rfl (fun K hK => ?_)
            go_simp
            refine (ints_any a2 ao c2 c L L _ hI2 hS.2.1).mono ?_
            rintro e w9 ⟨rfl, nq, rfl⟩
            replace hS := keepD _ nq hS
            rw [decide_refl]
            refine hK.out _ _ hS ?_
            clear hK K
            iterate 2
              first
                | (refine plan_pass _ rfl (by rfl) ?_)
                | (refine plan_take _ _ rfl (.inl ⟨by rfl, fun W hS => by clear hS; go_simp; try with_reducible rfl⟩) ?_)
              try simp only [Act.put, List.setIfInBounds_toArray, List.set_cons_zero, List.set_cons_succ]
            refine plan_take _ _ rfl (yields_map M (by rfl) _ rfl (w2.heap.size) rfl (fun _ h => h.1)) ?_
            try simp only [Act.put, List.setIfInBounds_toArray, List.set_cons_zero, List.set_cons_succ]
            iterate 2
              first
                | (refine plan_pass _ rfl (by rfl) ?_)
                | (refine plan_take _ _ rfl (.inl ⟨by rfl, fun W hS => by clear hS; go_simp; try with_reducible rfl⟩) ?_)
              try simp only [Act.put, List.setIfInBounds_toArray, List.set_cons_zero, List.set_cons_succ]
            refine plan_run _ rfl (fun K hK => ?_)
            go_simp
            refine (hprm _).mono ?_
            rintro e w10 ⟨rfl, hq⟩
            replace hS := keep _ _ hS hq
            refine hK.out _ _ hS ?_
            clear hK K hq
            iterate 3
              first
                | (refine plan_pass _ rfl (by rfl) ?_)
                | (refine plan_take _ _ rfl (.inl ⟨by rfl, fun W hS => by clear hS; go_simp; try with_reducible rfl⟩) ?_)
              try simp only [Act.put, List.setIfInBounds_toArray, List.set_cons_zero, List.set_cons_succ]
            refine plan_take _ _ rfl (yields_map M (by rfl) _ rfl (w2.heap.size) rfl (fun _ h => h.1)) ?_
            try simp only [Act.put, List.setIfInBounds_toArray, List.set_cons_zero, List.set_cons_succ]
            refine plan_run _ rfl (fun K hK => ?_)
            go_simp
            refine (first_any _).mono ?_
            rintro e w11 ⟨rfl, hq⟩
            replace hS := keep _ _ hS hq
            refine hK.out _ _ hS ?_
            clear hK K hq
            refine plan_run _ rfl (fun K hK => ?_)
            go_simp
            refine (hmov _).mono ?_
            rintro e w12 ⟨rfl, hq⟩
            replace hS := keep _ _ hS hq
            refine hK.out _ _ hS ?_
            clear hK K hq
            iterate 3
              first
                | (refine plan_pass _ rfl (by rfl) ?_)
                | (refine plan_take _ _ rfl (.inl ⟨by rfl, fun W hS => by clear hS; go_simp; try with_reducible rfl⟩) ?_)
              try simp only [Act.put, List.setIfInBounds_toArray, List.set_cons_zero, List.set_cons_succ]
            refine plan_done ?_
            go_wp2
            go_ret
            exact ⟨rfl, hS.2.2.2⟩
end Go.Proofs.Ytmobdnaejfldnaa
