/- paddocklaw4.PlaceApart returns true, for whatever map and group. -/
import Derived.Test.YtmobdnaejfldnaaPlaceKnown
import Derived.Test.YtmobdnaejfldnaaPlaceMoved
import Derived.Test.YtmobdnaejfldnaaPlaceFacts
namespace Go.Proofs.Ytmobdnaejfldnaa
set_option linter.unusedSimpArgs false
set_option linter.unusedVariables false
open Go.RowKit

theorem filter_at {p : Int → Bool} {l : List Int} {n : Nat} (h : n < l.length) (hp : p l[n] = true) : ∃ hk : ((l.take n).filter p).length < (l.filter p).length, (l.filter p)[((l.take n).filter p).length] = l[n] := by
  have h1 : l.filter p = (l.take n).filter p ++ (l[n] :: (l.drop (n + 1)).filter p) := by
    conv => lhs; rw [← List.take_append_drop n l, List.filter_append, List.drop_eq_getElem_cons h]
    rw [List.filter_cons, if_pos hp]
  refine ⟨by rw [h1, List.length_append]; simp, ?_⟩
  simp only [h1]
  rw [List.getElem_append_right (Nat.le_refl _)]
  simp

theorem none_prim {m : MapV} {g : Nat} (h : ¬ (isM m = true ∧ g < 4)) : pickM m g = [] ∧ actM m g = [] := by
  have h1 : pickM m g = [] := by unfold pickM; rw [if_neg h]
  exact ⟨h1, by unfold actM; rw [h1]; rfl⟩

set_option maxRecDepth 100000 in
set_option maxHeartbeats 4000000 in
theorem apart_walk (S : PlaceSpec) (m : MapV) (g : Nat) (w : World) (hm : MapOk m) (hg : g < 256) :
    Calls Try.prog 5 #[.agg (mapC m), .int .u8 g] w fun e w' => e = .returned (.bool true) ∧ Below w.heap.size w w' := by
  have hM0 := Has.new w 27 (mapC m)
  have hb0 := (Below.refl w.heap.size w).alloc (Nat.le_refl _) (.cells (mapC m) 27)
  have keep : ∀ W W' : World, (Has W w.heap.size 27 (mapC m) ∧ Below w.heap.size w W) → Below W.heap.size W W' → (Has W' w.heap.size 27 (mapC m) ∧ Below w.heap.size w W') :=
    fun W W' h hq => ⟨h.1.later hq, h.2.trans (hq.mono h.2.size)⟩
  go_enter Try.func5, Try.ntmps5
  go_wp2_with (first
    | (go_at_call 9; refine (pknown_any S _).mono ?_; rintro e w1 ⟨rfl, hq⟩; have hS := keep _ _ ⟨hM0, hb0⟩ hq; clear hq hM0 hb0)
    | (refine load_map m (by rfl) _ rfl w.heap.size rfl ?hg ?_; (case hg => exact hS.1)))
  refine (S.pick m g _ hm hg).mono ?_
  rintro e w2 ⟨ao, c, rfl, hIx, hq⟩
  replace hS := keep _ _ hS hq
  clear hq
  have hact := fun w => S.acting m g w hm hg
  have his := fun w => is_any m w hm
  obtain ⟨hmem, hlen⟩ := pickM_mem m g
  have hwt := (pickM_apart m g).2
  have hun := (pickM_apart m g).1
  have hactM : Hid (actM m g = (pickM m g).filter (upI m)) := rfl
  have hraw : Hid _ := @none_prim m g
  by_cases hok : isM m = true ∧ g < 4
  · have hI : isM m = true := hok.1
    have hgI : (g : Int) < 4 := by have := hok.2; omega
    rw [hI] at his
    clear hok hraw
    generalize pickM m g = L at *
    have hcap := hIx.cap
    have hle := hIx.le
    have hl3 : (L.length : Int) ≤ 3 := by omega
    go_wp2_with (first
      | (refine load_map m (by first | rfl | (simp [Region.wanted, yielded]; done) | (simp [Region.wanted, yielded]; omega)) _ rfl w.heap.size rfl ?hg ?_; (case hg => exact hS.1))
      | (go_at_call 10; refine (his _).mono ?_; rintro e w3 ⟨rfl, hq⟩; replace hS := keep _ _ hS hq; replace hIx := hIx.later hq; clear hq))
    go_loopw [6] (fun i wr => ∃ n kq : Nat, n ≤ L.length ∧ i = .int .i64 n ∧ wr = w3.drewN kq) (fun i _ => L.length - (intOf i).toNat)
    case atStart => exact ⟨0, 0, Nat.zero_le _, rfl, rfl⟩
    case round =>
      obtain ⟨n, kq, hn, rfl, rfl⟩ := hrel
      by_cases hlt : n < L.length
      · have hnI : (n : Int) < (L.length : Int) := by omega
        cases ao with
        | none => have h1 := hIx.nil rfl; omega
        | some ad =>
          have cn := hIx.at' ad rfl n hlt
          have hmn := hmem L[n] (List.getElem_mem hlt)
          have hwn := hwt L[n] (List.getElem_mem hlt)
          obtain ⟨p, hp2⟩ := Int.eq_ofNat_of_zero_le hmn.1
          have hp5 : p < 5 := by omega
          have hpI : (p : Int) < 5 := by omega
          rw [hp2] at cn
          rw [hp2, wtI_at m p hp5] at hwn
          have cw := hS.1.cell (1 + p * 3 + 1)
          have ch := hS.1.cell (1 + p * 3 + 2)
          rw [mapC_wt m ⟨p, hp5⟩] at cw
          rw [mapC_host m ⟨p, hp5⟩] at ch
          have hwb := hm.wt ⟨p, hp5⟩
          have hp2' : Hid _ := hp2
          have hosP : Hid (hostI m L[n] = (m.osd ⟨p, hp5⟩).host) := by show _ = _; rw [hp2, hostI_at m p hp5]
          clear hp2 hmn
          generalize (m.osd ⟨p, hp5⟩).wt = WT at *
          generalize (m.osd ⟨p, hp5⟩).host = HP at *
          go_wp2
          go_loopw [7] (fun i wr => ∃ k kq2 : Nat, k ≤ n ∧ i = .int .i64 k ∧ wr = w3.drewN kq2) (fun i _ => n - (intOf i).toNat)
          case atStart => exact ⟨0, kq, Nat.zero_le _, rfl, rfl⟩
          case round =>
            obtain ⟨k, kq2, hk, rfl, rfl⟩ := hrel
            by_cases hlt2 : k < n
            · have hkI : (k : Int) < (n : Int) := by omega
              have hkl : k < L.length := by omega
              have hkL : (k : Int) < (L.length : Int) := by omega
              have ck := hIx.at' ad rfl k hkl
              have hmk := hmem L[k] (List.getElem_mem hkl)
              obtain ⟨q, hq2⟩ := Int.eq_ofNat_of_zero_le hmk.1
              have hq5 : q < 5 := by omega
              have hqI : (q : Int) < 5 := by omega
              have hu := List.pairwise_iff_getElem.1 hun k n hkl hlt hlt2
              rw [hosP.out, hq2, hp2'.out, hostI_at m q hq5] at hu
              rw [hq2] at ck
              have cq := hS.1.cell (1 + q * 3 + 2)
              rw [mapC_host m ⟨q, hq5⟩] at cq
              generalize (m.osd ⟨q, hq5⟩).host = HQ at *
              have n1 : ((q : Int) == (p : Int)) = false := by rw [beq_eq_false_iff_ne]; exact hu.1
              have n1' : (q == p) = false := by rw [beq_eq_false_iff_ne]; exact fun e => hu.1 (by rw [e])
              have n2 : ((HQ : Int) == (HP : Int)) = false := by rw [beq_eq_false_iff_ne]; exact fun e => hu.2 (by omega)
              have n2' : (HQ == HP) = false := by rw [beq_eq_false_iff_ne]; exact hu.2
              clear hq2 hu hmk
              go_wp2
              refine wp_region_plan (fun W => W.cell? (ad.add k) = some (.int .i64 (q : Int)) ∧ W.cell? (ad.add n) = some (.int .i64 (p : Int)) ∧ W.cell? ⟨w.heap.size, 1 + q * 3 + 2, none⟩ = some (.int .u8 HQ) ∧ W.cell? ⟨w.heap.size, 1 + p * 3 + 2, none⟩ = some (.int .u8 HP)) (Plan.of [(0, true), (1, true), (2, true), (3, true), (4, true), (5, true), (6, true), (7, true), (8, true), (9, true), (10, true), (11, true), (12, true), (13, true), (14, true), (15, true), (16, true), (17, true), (18, true), (19, true), (20, true), (21, true), (22, true), (23, true), (24, true), (25, true), (26, true), (27, true)] .done) (by kernel_rfl) (by kernel_rfl) (by kernel_rfl) (by kernel_rfl) ⟨ck, cn, cq, ch⟩ ?_
              iterate 28
                first
                  | (refine plan_pass _ rfl (by rfl) ?_)
                  | (refine plan_take _ _ rfl (.inl ⟨by rfl, fun W hS => by obtain ⟨z1, z2, z3, z4⟩ := hS; go_simp; try with_reducible rfl⟩) ?_)
                try simp only [Act.put, List.setIfInBounds_toArray, List.set_cons_zero, List.set_cons_succ]
              refine plan_done ?_
              go_wp2
              go_roundw
              case rel => exact ⟨k + 1, kq2 + 1, by omega, by go_num, by first | rfl | exact World.drewN_drewN _ _ _⟩
              case measure => simp [intOf]; omega
            · have e6 : k = n := by omega
              subst e6
              go_wp2
              go_roundw
              case rel => exact ⟨k + 1, kq2, by omega, by go_num, rfl⟩
              case measure => simp [intOf]; omega
      · have e5 : n = L.length := by omega
        subst e5
        have hS3 : (Has (w3.drewN kq) w.heap.size 27 (mapC m) ∧ Below w.heap.size w (w3.drewN kq)) := ⟨hS.1.drewN kq, ⟨hS.2.os, hS.2.tape, hS.2.output, hS.2.size, hS.2.block⟩⟩
        have hI3 := hIx.drewN kq
        clear hS hIx
        generalize w3.drewN kq = w4 at *
        go_wp2_with (first
          | (refine load_map m (by rfl) _ rfl w.heap.size rfl ?hg ?_; (case hg => exact hS3.1)))
        refine (hact _).mono ?_
        rintro e w5 ⟨bo, d, rfl, hA, hq⟩
        replace hS3 := keep _ _ hS3 hq
        replace hI3 := hI3.later hq
        clear hq
        have hAc := hA.cap
        have hAl := hA.le
        have hA3 : (actM m g).length ≤ 3 := by rw [hactM.out]; exact Nat.le_trans (List.length_filter_le _ _) hlen
        clear hact
        go_wp2
        go_loopw [9, 10] (fun v i wr => ∃ n kq : Nat, n ≤ L.length ∧ i = .int .i64 n ∧ v = .int .i64 (((L.take n).filter (upI m)).length : Nat) ∧ wr = w5.drewN kq) (fun _ i _ => L.length - (intOf i).toNat)
        case atStart => exact ⟨0, 0, Nat.zero_le _, rfl, rfl, rfl⟩
        case round =>
          obtain ⟨n, kq2, hn2, rfl, rfl, rfl⟩ := hrel
          by_cases hlt : n < L.length
          · have hnI : (n : Int) < (L.length : Int) := by omega
            cases ao with
            | none => have h1 := hI3.nil rfl; omega
            | some ad =>
              have cn := hI3.at' ad rfl n hlt
              have hmn := hmem L[n] (List.getElem_mem hlt)
              obtain ⟨p, hp2⟩ := Int.eq_ofNat_of_zero_le hmn.1
              have hp5 : p < 5 := by omega
              have hpI : (p : Int) < 5 := by omega
              have cu := hS3.1.cell (1 + p * 3)
              rw [mapC_up m ⟨p, hp5⟩] at cu
              have hstep : Hid _ := filter_step (p := upI m) hlt
              rw [hp2, upI_at m p hp5] at hstep
              have hfat : Hid _ := @filter_at (upI m) L n hlt
              rw [hp2, upI_at m p hp5, ← hactM.out] at hfat
              rw [hp2] at cn
              have hfl : ((L.take n).filter (upI m)).length ≤ 3 := Nat.le_trans (List.length_filter_le _ _) (by rw [List.length_take]; omega)
              clear hp2 hmn
              cases hu : (m.osd ⟨p, hp5⟩).up with
              | false =>
                rw [hu] at cu hstep
                have hst : Hid (((L.take (n + 1)).filter (upI m)).length = ((L.take n).filter (upI m)).length) := by
                  show _ = _
                  rw [hstep.out]
                  simp
                clear hstep hfat
                generalize ((L.take n).filter (upI m)).length = F at *
                go_wp2
                go_roundw
                case rel => exact ⟨n + 1, kq2, by omega, by go_num, by rw [hst.out], rfl⟩
                case measure => simp [intOf]; omega
              | true =>
                rw [hu] at cu hstep
                obtain ⟨hF, hFe⟩ := hfat.out hu
                have hst : Hid (((L.take (n + 1)).filter (upI m)).length = ((L.take n).filter (upI m)).length + 1) := by
                  show _ = _
                  rw [hstep.out]
                  simp
                clear hstep hfat
                cases bo with
                | none => have h1 := hA.nil rfl; omega
                | some bd =>
                  have ca := hA.at' bd rfl _ hF
                  rw [hFe] at ca
                  clear hFe
                  generalize ((L.take n).filter (upI m)).length = F at *
                  have hFI : (F : Int) < ((actM m g).length : Int) := by omega
                  have hFd : decide (((actM m g).length : Int) ≤ (F : Int)) = false := decide_eq_false (by omega)
                  have hFd' : decide ((actM m g).length ≤ F) = false := decide_eq_false (by omega)
                  generalize (actM m g).length = AL at *
                  go_wp2
                  refine wp_region_plan (fun W => W.cell? (ad.add n) = some (.int .i64 (p : Int)) ∧ W.cell? (bd.add F) = some (.int .i64 (p : Int))) (Plan.of [(0, true), (1, true), (2, false), (3, true), (4, true), (5, true), (6, true), (7, true), (8, true), (9, true), (10, true), (11, true), (12, true), (13, true), (14, true)] .done) (by kernel_rfl) (by kernel_rfl) (by kernel_rfl) (by kernel_rfl) ⟨cn, ca⟩ ?_
                  iterate 2
                    first
                      | (refine plan_pass _ rfl (by rfl) ?_)
                      | (refine plan_take _ _ rfl (.inl ⟨by rfl, fun W hS => by obtain ⟨z1, z2⟩ := hS; go_simp; try with_reducible rfl⟩) ?_)
                    try simp only [Act.put, List.setIfInBounds_toArray, List.set_cons_zero, List.set_cons_succ]
                  have hS := (⟨cn, ca⟩ : w5.cell? (ad.add n) = some (.int .i64 (p : Int)) ∧ w5.cell? (bd.add F) = some (.int .i64 (p : Int)))
                  refine plan_run _ rfl (fun K hK => ?_)
                  go_simp
                  refine hK.out _ _ hS ?_
                  clear hK K
                  iterate 12
                    first
                      | (refine plan_pass _ rfl (by rfl) ?_)
                      | (refine plan_take _ _ rfl (.inl ⟨by rfl, fun W hS => by obtain ⟨z1, z2⟩ := hS; go_simp; try with_reducible rfl⟩) ?_)
                    try simp only [Act.put, List.setIfInBounds_toArray, List.set_cons_zero, List.set_cons_succ]
                  refine plan_done ?_
                  go_wp2
                  go_roundw
                  case rel => exact ⟨n + 1, kq2 + 1, by omega, by go_num, by rw [hst.out]; first | rfl | go_num, by first | rfl | exact World.drewN_drewN _ _ _⟩
                  case measure => simp [intOf]; omega
          · have e5 : n = L.length := by omega
            subst e5
            rw [List.take_length, ← hactM.out]
            generalize (actM m g).length = AL at *
            go_wp2
            go_ret
            exact ⟨rfl, ⟨hS3.2.os, hS3.2.tape, hS3.2.output, hS3.2.size, hS3.2.block⟩⟩
  · obtain ⟨r1, r2⟩ := hraw.out hok
    rw [r2] at hact
    rw [r1] at hIx
    rw [r1]
    clear r1 r2 hraw hlen hmem hwt hun hactM
    have hcap := hIx.cap
    by_cases hI : isM m = true
    · have hgI : (4 : Int) ≤ (g : Int) := by
        have : ¬ g < 4 := fun h => hok ⟨hI, h⟩
        omega
      rw [hI] at his
      clear hok
      go_wp2_with (first
        | (refine load_map m (by first | rfl | (simp [Region.wanted, yielded]; done) | (simp [Region.wanted, yielded]; omega)) _ rfl w.heap.size rfl ?hg ?_; (case hg => exact hS.1))
        | (go_at_call 10; refine (his _).mono ?_; rintro e w3 ⟨rfl, hq⟩; replace hS := keep _ _ hS hq; clear hq))
      go_loopw [6] (fun i wr => i = .int .i64 0 ∧ wr = w3) (fun i _ => 0)
      case atStart => exact ⟨rfl, rfl⟩
      case round =>
        obtain ⟨rfl, rfl⟩ := hrel
        go_wp2_with (first
          | (refine load_map m (by rfl) _ rfl w.heap.size rfl ?hg ?_; (case hg => exact hS.1))
          | (go_at_call 12; refine (hact _).mono ?_; rintro e w5 ⟨bo, d, rfl, hA, hq⟩; replace hS := keep _ _ hS hq; clear hq))
        have hAc := hA.cap
        go_loopw [9, 10] (fun v i wr => v = .int .i64 0 ∧ i = .int .i64 0 ∧ wr = w5) (fun _ i _ => 0)
        case atStart => exact ⟨rfl, rfl, rfl⟩
        case round =>
          obtain ⟨rfl, rfl, rfl⟩ := hrel
          go_wp2
          go_ret
          exact ⟨rfl, hS.2⟩
    · have hI : isM m = false := by cases h : isM m with | true => exact absurd h hI | false => rfl
      rw [hI] at his
      clear hok
      by_cases hg4 : (4 : Int) ≤ (g : Int)
      · go_wp2_with (first
          | (refine load_map m (by first | rfl | (simp [Region.wanted, yielded]; done) | (simp [Region.wanted, yielded]; omega)) _ rfl w.heap.size rfl ?hg ?_; (case hg => exact hS.1))
          | (go_at_call 10; refine (his _).mono ?_; rintro e w3 ⟨rfl, hq⟩; replace hS := keep _ _ hS hq; clear hq))
        go_loopw [6] (fun i wr => i = .int .i64 0 ∧ wr = w3) (fun i _ => 0)
        case atStart => exact ⟨rfl, rfl⟩
        case round =>
          obtain ⟨rfl, rfl⟩ := hrel
          go_wp2_with (first
            | (refine load_map m (by rfl) _ rfl w.heap.size rfl ?hg ?_; (case hg => exact hS.1))
            | (go_at_call 12; refine (hact _).mono ?_; rintro e w5 ⟨bo, d, rfl, hA, hq⟩; replace hS := keep _ _ hS hq; clear hq))
          have hAc := hA.cap
          go_loopw [9, 10] (fun v i wr => v = .int .i64 0 ∧ i = .int .i64 0 ∧ wr = w5) (fun _ i _ => 0)
          case atStart => exact ⟨rfl, rfl, rfl⟩
          case round =>
            obtain ⟨rfl, rfl, rfl⟩ := hrel
            go_wp2
            go_ret
            exact ⟨rfl, hS.2⟩
      · have hg4' : (g : Int) < 4 := by omega
        clear hg4
        go_wp2_with (first
          | (refine load_map m (by first | rfl | (simp [Region.wanted, yielded]; done) | (simp [Region.wanted, yielded]; omega)) _ rfl w.heap.size rfl ?hg ?_; (case hg => exact hS.1))
          | (go_at_call 10; refine (his _).mono ?_; rintro e w3 ⟨rfl, hq⟩; replace hS := keep _ _ hS hq; clear hq))
        go_loopw [6] (fun i wr => i = .int .i64 0 ∧ wr = w3) (fun i _ => 0)
        case atStart => exact ⟨rfl, rfl⟩
        case round =>
          obtain ⟨rfl, rfl⟩ := hrel
          go_wp2_with (first
            | (refine load_map m (by rfl) _ rfl w.heap.size rfl ?hg ?_; (case hg => exact hS.1))
            | (go_at_call 12; refine (hact _).mono ?_; rintro e w5 ⟨bo, d, rfl, hA, hq⟩; replace hS := keep _ _ hS hq; clear hq))
          have hAc := hA.cap
          go_loopw [9, 10] (fun v i wr => v = .int .i64 0 ∧ i = .int .i64 0 ∧ wr = w5) (fun _ i _ => 0)
          case atStart => exact ⟨rfl, rfl, rfl⟩
          case round =>
            obtain ⟨rfl, rfl, rfl⟩ := hrel
            go_wp2
            go_ret
            exact ⟨rfl, hS.2⟩
end Go.Proofs.Ytmobdnaejfldnaa
