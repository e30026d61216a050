/- The contract of the document's Pick. -/
import Derived.Test.YtlbokkbngbpmiaaPackPlace
import Derived.Test.YtlbokkbngbpmiaaRefIs
import Derived.Test.YtlbokkbngbpmiaaRefStraws
import Derived.Test.YtlbokkbngbpmiaaPackMaps
import Derived.Test.YtlbokkbngbpmiaaPackTools
namespace Go.Proofs.Ytlbokkbngbpmiaa
set_option linter.unusedSimpArgs false
set_option linter.unusedVariables false
open Go.RowKit

theorem drawI_bd (g : Nat) (o t q : Int) : -4294967296 ≤ drawI g o t q ∧ drawI g o t q ≤ 0 := strawI_bd _ _

theorem bestTo_straw (m : MapV) (g : Nat) (q : Int) (n : Nat) : -4294967296 ≤ (bestTo m g q n).2 ∧ (bestTo m g q n).2 ≤ 0 := by
  induction n with
  | zero => exact ⟨by show (-4294967296 : Int) ≤ 0; omega, by show (0 : Int) ≤ 0; omega⟩
  | succ n ih =>
    by_cases h : n < 5
    · by_cases hw : (m.osd ⟨n, h⟩).wt < 1
      · rw [bestTo_light h hw]; exact ih
      · by_cases hb : (bestTo m g q n).1 < 0 ∨ (bestTo m g q n).2 < drawI g n q (m.osd ⟨n, h⟩).wt
        · rw [bestTo_new h hw hb]; exact drawI_bd _ _ _ _
        · rw [bestTo_old h hw hb]; exact ih
    · show -4294967296 ≤ (if h : n < 5 then _ else bestTo m g q n : Int × Int).2 ∧ (if h : n < 5 then _ else bestTo m g q n : Int × Int).2 ≤ 0
      rw [dif_neg h]
      exact ih

theorem cast_ne (a b : Nat) : ((a : Int) != (b : Int)) = (a != b) := by
  rw [Bool.eq_iff_iff]
  simp
  omega

theorem one_int (w : World) (t : TypeId) (n : Int) : ∀ j u, [Value.int .i64 n][j]? = some u → (w.alloc (.cells #[.int .i64 n] t)).cell? ((⟨w.heap.size, 0, none⟩ : Addr).add j) = some u := by
  intro j u hj
  have h := (Has.new w t #[.int .i64 n]).cell j
  rw [Addr.add_mid, Nat.zero_add, h]
  show ([Value.int .i64 n].toArray)[j]? = _
  rw [List.getElem?_toArray]
  exact hj

theorem one_int1 (n : Int) : ∀ u ∈ [Value.int .i64 n], u.oneCell' = true := by
  intro u hu
  rw [List.mem_singleton.1 hu]
  rfl

set_option maxRecDepth 100000 in
set_option maxHeartbeats 4000000 in
theorem refpick_any (m : MapV) (g : Nat) (w : World) (hm : MapOk m) (hg : g < 256) :
    Calls Try.prog 81 #[.agg (mapC m), .int .u8 g] w fun e w' => ∃ ao c, e = .returned (.slice ao (pickM m g).length c) ∧ Ix w' ao c (pickM m g) ∧ Below w.heap.size w w' := by
  obtain ⟨i0, hi, hz0, hz1, hz2⟩ := info_parts Try.infoInt
  have hH := Has.new w 106 (mapC m)
  have hb0 := (Below.refl w.heap.size w).alloc (Nat.le_refl _) (.cells (mapC m) 106)
  go_enter Try.func81, Try.ntmps81
  go_wp2_with (first
    | (refine load_map m (by rfl) _ rfl _ rfl ?hg ?_; (case hg => exact hH)))
  refine (refis_any m _ hm).mono ?_
  rintro e w1 ⟨rfl, hb1⟩
  replace hH := hH.later hb1
  replace hb1 := hb0.trans (hb1.mono hb0.size)
  clear hb0
  cases hI : isM m with
  | false =>
    have hp : pickM m g = [] := by unfold pickM; rw [hI, if_neg (by simp)]
    go_wp2
    go_ret
    exact ⟨none, 0, by rw [hp]; rfl, by rw [hp]; exact Ix.nothing _, hb1⟩
  | true =>
    by_cases hg4 : (4 : Int) ≤ (g : Int)
    · have hp : pickM m g = [] := by unfold pickM; rw [if_neg (by omega)]
      go_wp2
      go_ret
      exact ⟨none, 0, by rw [hp]; rfl, by rw [hp]; exact Ix.nothing _, hb1⟩
    · have hp : Hid (pickM m g = pickTo m g 3) := by show _ = _; unfold pickM; rw [if_pos ⟨hI, by omega⟩]
      have hg4' : (g : Int) < 4 := by omega
      clear hg4
      have hgs := hb1.size
      go_wp2
      go_loopw [5, 6] (fun v i wr => ∃ r : Nat, r ≤ 3 ∧ i = .int .i64 r ∧ wr.ownsRow w1.heap.size 3 1 v (pickTo m g r).length (intsC (pickTo m g r)) ∧ Below w1.heap.size w1 wr) (fun _ i _ => (3 - intOf i).toNat)
      case atStart => exact ⟨0, by decide, rfl, World.ownsRow_nil _ _ _ _, Below.refl _ _⟩
      case round =>
        obtain ⟨r, hr, rfl, hown, hb⟩ := hrel
        by_cases hlt : r < 3
        · have hrI : (r : Int) < 3 := by omega
          go_wp2
          obtain ⟨W, hW⟩ : ∃ W, W = wr := ⟨_, rfl⟩
          subst hW
          obtain ⟨hmem, hlen⟩ := pickTo_mem m g r
          have hlen3 : (pickTo m g r).length ≤ 3 := by omega
          have hpt : Hid (tryN m g r (pickTo m g r) (20 - 0) = pickTo m g (r + 1)) := rfl
          generalize pickTo m g r = out at *
          obtain ⟨_, ao, c, hv, hIx⟩ := ix_own hown
          subst hv
          have hcap := hIx.cap
          have hle := hIx.le
          have hnil := hIx.nil
          clear hIx
          go_loopw [5, 7] (fun v i wr => ∃ t : Nat, t ≤ 20 ∧ i = .int .i64 t ∧ v = .slice ao out.length c ∧ tryN m g r out (20 - t) = pickTo m g (r + 1) ∧ wr.ownsRow w1.heap.size 3 1 (.slice ao out.length c) out.length (intsC out) ∧ Below w1.heap.size w1 wr) (fun _ i _ => (20 - intOf i).toNat)
          case atStart => exact ⟨0, by decide, rfl, rfl, hpt.out, hown, hb⟩
          case round =>
            clear hown hb
            obtain ⟨t, ht, rfl, rfl, htry, hown, hb⟩ := hrel
            by_cases hlt2 : t < 20
            · have htI : (t : Int) < 20 := by omega
              obtain ⟨W2, hW2⟩ : ∃ W2, W2 = wr := ⟨_, rfl⟩
              subst hW2
              have hM2 := hH.later hb
              go_wp2
              go_loopw [8, 9, 10] (fun b s i wr => ∃ n : Nat, n ≤ 5 ∧ i = .int .i64 n ∧ b = .int .i64 (bestTo m g (r + t * 3) n).1 ∧ s = .int .i64 (bestTo m g (r + t * 3) n).2 ∧ wr = W2) (fun _ _ i _ => (5 - intOf i).toNat)
              case atStart => exact ⟨0, by decide, rfl, rfl, rfl, rfl⟩
              case round =>
                obtain ⟨n, hn, rfl, rfl, rfl, rfl⟩ := hrel
                by_cases hlt3 : n < 5
                · have hnI : (n : Int) < 5 := by omega
                  have c1 := hM2.cell (1 + n * 3 + 1)
                  rw [mapC_wt m ⟨n, hlt3⟩] at c1
                  have hwt := hm.wt ⟨n, hlt3⟩
                  have hbd := bestTo_bd m g (r + t * 3) n
                  have hsd := bestTo_straw m g (r + t * 3) n
                  have hdd := drawI_bd g n (r + t * 3) (m.osd ⟨n, hlt3⟩).wt
                  by_cases hw : (m.osd ⟨n, hlt3⟩).wt < 1
                  · have hstep : Hid _ := bestTo_light (g := g) (q := r + t * 3) hlt3 hw
                    go_wp2
                    go_roundw
                    case rel => exact ⟨n + 1, by omega, by go_num, by rw [hstep.out], by rw [hstep.out], by first | rfl | trivial⟩
                    case measure => simp [intOf]; omega
                  · have hw1 : 1 ≤ (m.osd ⟨n, hlt3⟩).wt := by omega
                    by_cases hbb : (bestTo m g (r + t * 3) n).1 < 0 ∨ (bestTo m g (r + t * 3) n).2 < drawI g n (r + t * 3) (m.osd ⟨n, hlt3⟩).wt
                    · have hstep : Hid _ := bestTo_new hlt3 hw hbb
                      clear hw
                      generalize (m.osd ⟨n, hlt3⟩).wt = T at *
                      have hdraw := fun w => refdraw_any g n (r + t * 3) T w hg hwt.1 hwt.2
                      generalize drawI g n (r + t * 3) T = D at *
                      generalize hBS : bestTo m g (r + t * 3) n = BS at *
                      obtain ⟨B, Sx⟩ := BS
                      simp only at hbd hsd hbb
                      clear hBS
                      rcases Classical.em (B < 0) with hB | hB
                      · go_wp2_with (go_at_call 88; refine (hdraw _).mono ?_; rintro e w' ⟨rfl, rfl⟩)
                        go_roundw
                        case rel => exact ⟨n + 1, by omega, by go_num, by rw [hstep.out], by rw [hstep.out], by first | rfl | trivial⟩
                        case measure => simp [intOf]; omega
                      · have hB' : 0 ≤ B := by omega
                        have hD : Sx < D := by omega
                        go_wp2_with (go_at_call 88; refine (hdraw _).mono ?_; rintro e w' ⟨rfl, rfl⟩)
                        go_roundw
                        case rel => exact ⟨n + 1, by omega, by go_num, by rw [hstep.out], by rw [hstep.out], by first | rfl | trivial⟩
                        case measure => simp [intOf]; omega
                    · have hstep : Hid _ := bestTo_old hlt3 hw hbb
                      clear hw
                      generalize (m.osd ⟨n, hlt3⟩).wt = T at *
                      have hdraw := fun w => refdraw_any g n (r + t * 3) T w hg hwt.1 hwt.2
                      generalize drawI g n (r + t * 3) T = D at *
                      generalize hBS : bestTo m g (r + t * 3) n = BS at *
                      obtain ⟨B, Sx⟩ := BS
                      simp only at hbd hsd hbb
                      clear hBS
                      have hB' : 0 ≤ B := by omega
                      have hD : D ≤ Sx := by omega
                      go_wp2_with (go_at_call 88; refine (hdraw _).mono ?_; rintro e w' ⟨rfl, rfl⟩)
                      go_roundw
                      case rel => exact ⟨n + 1, by omega, by go_num, by rw [hstep.out], by rw [hstep.out], by first | rfl | trivial⟩
                      case measure => simp [intOf]; omega
                · have e5 : n = 5 := by omega
                  subst e5
                  rw [show ((5 : Nat) : Int) = 5 from rfl]
                  have hbd := bestTo_bd m g (r + t * 3) 5
                  have htn : Hid _ := @tryN_no m g r out t hlt2
                  have hty : Hid _ := @tryN_yes m g r out t hlt2
                  have hbM : bestM m g (r + t * 3) = (bestTo m g (r + t * 3) 5).1 := rfl
                  rw [hbM] at htn hty
                  clear hbM
                  generalize bestTo m g (r + t * 3) 5 = BS at *
                  obtain ⟨b, s⟩ := BS
                  simp only at hbd htn hty ⊢
                  obtain ⟨W3, hW3⟩ : ∃ W3, W3 = wr := ⟨_, rfl⟩
                  subst hW3
                  by_cases hneg : b < 0
                  · have hno : Hid (tryN m g r out (20 - t) = tryN m g r out (20 - (t + 1))) := htn.out fun h => by have := h.1; omega
                    have hdec : decide (0 ≤ b) = false := decide_eq_false (by omega)
                    go_wp2
                    go_loopw [12, 13] (fun ok i wr => i = .int .i64 0 ∧ ok = .bool false ∧ wr = W3) (fun _ i _ => 0)
                    case atStart => exact ⟨rfl, rfl, rfl⟩
                    case round =>
                      obtain ⟨rfl, rfl, rfl⟩ := hrel
                      go_wp2
                      go_roundw
                      case rel => exact ⟨t + 1, by omega, by go_num, rfl, by rw [← hno.out]; exact htry, hown, hb⟩
                      case measure => simp [intOf]; omega
                  · have hb0' : 0 ≤ b := by omega
                    obtain ⟨bn, hbn⟩ := Int.eq_ofNat_of_zero_le hb0'
                    subst hbn
                    have hbn5 : bn < 5 := by omega
                    clear hneg
                    go_wp2
                    go_loopw [12, 13] (fun ok i wr => ∃ (n kq : Nat) (B : Bool), n ≤ out.length ∧ i = .int .i64 n ∧ ok = .bool B ∧ B = (out.take n).all (apartB m bn) ∧ wr = W3.drewN kq) (fun _ i _ => out.length - (intOf i).toNat)
                    case atStart => exact ⟨0, 0, true, Nat.zero_le _, rfl, rfl, by simp, rfl⟩
                    case round =>
                      obtain ⟨n, kq, B, hn, rfl, rfl, hBe, rfl⟩ := hrel
                      cases B with
                      | false =>
                        have hno : Hid (tryN m g r out (20 - t) = tryN m g r out (20 - (t + 1))) := by
                          refine htn.out fun h => ?_
                          have h1 : (out.take n).all (apartB m bn) = true := by
                            have h2 := h.2
                            unfold freeB at h2
                            rw [List.all_eq_true] at h2 ⊢
                            exact fun x hx => h2 x (List.mem_of_mem_take hx)
                          rw [h1] at hBe
                          cases hBe
                        clear hBe
                        go_wp2
                        go_roundw
                        case rel => exact ⟨t + 1, by omega, by go_num, rfl, by rw [← hno.out]; exact htry, hown, ⟨hb.os, hb.tape, hb.output, hb.size, hb.block⟩⟩
                        case measure => simp [intOf]; omega
                      | true =>
                        have hall : (out.take n).all (apartB m bn) = true := hBe.symm
                        clear hBe
                        by_cases hlt4 : n < out.length
                        · have hnI : (n : Int) < (out.length : Int) := by omega
                          have hmn := hmem out[n] (List.getElem_mem hlt4)
                          have hnext : Hid ((out.take (n + 1)).all (apartB m bn) = apartB m bn out[n]) := by
                            show _ = _
                            rw [List.take_succ_eq_append_getElem hlt4, List.all_append, hall]
                            simp
                          obtain ⟨_, ao', c', hv, hIx⟩ := ix_own hown
                          injection hv with h1 h2 h3
                          subst h1 h3
                          clear h2
                          obtain ⟨p, hp2⟩ := Int.eq_ofNat_of_zero_le hmn.1
                          have hp5 : p < 5 := by omega
                          have hpI : (p : Int) < 5 := by omega
                          have hbI : (bn : Int) < 5 := by omega
                          have ha : Hid (apartB m bn out[n] = ((p != bn) && ((m.osd ⟨p, hp5⟩).host != (m.osd ⟨bn, hbn5⟩).host))) := by
                            show _ = _
                            rw [hp2]
                            unfold apartB
                            rw [hostI_at m p hp5, hostI_at m bn hbn5]
                            congr 1
                            rw [Bool.eq_iff_iff]
                            simp
                            omega
                          cases ao with
                          | none => have := hIx.nil rfl; omega
                          | some ad =>
                            have ci := hIx.at' ad rfl n hlt4
                            rw [hp2] at ci
                            have cp := hM2.cell (1 + p * 3 + 2)
                            have cb := hM2.cell (1 + bn * 3 + 2)
                            rw [mapC_host m ⟨p, hp5⟩] at cp
                            rw [mapC_host m ⟨bn, hbn5⟩] at cb
                            generalize (m.osd ⟨p, hp5⟩).host = HP at *
                            generalize (m.osd ⟨bn, hbn5⟩).host = HB at *
                            clear hp2 hall hty htn htry hmem
                            by_cases hpb : p = bn
                            · have n1 : ((p : Int) != (bn : Int)) = false := by simp; omega
                              have n2 : (p != bn) = false := by simp; omega
                              have n3 : (p == bn) = true := by simp; omega
                              have hpb' : Hid (p = bn) := hpb
                              clear hpb
                              go_wp2
                              refine wp_region_plan (fun W => W.cell? (ad.add n) = some (.int .i64 (p : Int)) ∧ W.cell? ⟨w.heap.size, 1 + p * 3 + 2, none⟩ = some (.int .u8 HP) ∧ W.cell? ⟨w.heap.size, 1 + bn * 3 + 2, none⟩ = some (.int .u8 HB)) (Plan.of [(0, true), (1, true), (2, true), (3, true), (4, true), (5, true), (6, true), (7, true), (8, true), (9, true), (10, true), (11, true), (12, true), (13, true), (14, true), (15, true), (16, true), (17, true), (18, true), (19, true), (20, true), (21, true), (22, true)] .done) (by kernel_rfl) (by kernel_rfl) (by kernel_rfl) (by kernel_rfl) ⟨ci, cp, cb⟩ ?_
                              iterate 23
                                first
                                  | (refine plan_pass _ rfl (by rfl) ?_)
                                  | (refine plan_take _ _ rfl (.inl ⟨by rfl, fun W hS => by obtain ⟨z1, z2, z3⟩ := hS; go_simp; try with_reducible rfl⟩) ?_)
                                try simp only [Act.put, List.setIfInBounds_toArray, List.set_cons_zero, List.set_cons_succ]
                              refine plan_done ?_
                              go_wp2
                              go_roundw
                              case rel => exact ⟨n + 1, kq + 1, _, by omega, by go_num, rfl, by rw [hnext.out]; rw [ha.out, n2]; rfl, by first | rfl | exact World.drewN_drewN _ _ _⟩
                              case measure => simp [intOf]; omega
                            · have n1 : ((p : Int) != (bn : Int)) = true := by simp; omega
                              have n2 : (p != bn) = true := by simp; omega
                              have n3 : (p == bn) = false := by simp; omega
                              clear hpb
                              go_wp2
                              refine wp_region_plan (fun W => W.cell? (ad.add n) = some (.int .i64 (p : Int)) ∧ W.cell? ⟨w.heap.size, 1 + p * 3 + 2, none⟩ = some (.int .u8 HP) ∧ W.cell? ⟨w.heap.size, 1 + bn * 3 + 2, none⟩ = some (.int .u8 HB)) (Plan.of [(0, true), (1, true), (2, true), (3, true), (4, true), (5, true), (6, true), (7, true), (8, true), (9, true), (10, true), (11, true), (12, true), (13, true), (14, true), (15, true), (16, true), (17, true), (18, true), (19, true), (20, true), (21, true), (22, true)] .done) (by kernel_rfl) (by kernel_rfl) (by kernel_rfl) (by kernel_rfl) ⟨ci, cp, cb⟩ ?_
                              iterate 23
                                first
                                  | (refine plan_pass _ rfl (by rfl) ?_)
                                  | (refine plan_take _ _ rfl (.inl ⟨by rfl, fun W hS => by obtain ⟨z1, z2, z3⟩ := hS; go_simp; try with_reducible rfl⟩) ?_)
                                try simp only [Act.put, List.setIfInBounds_toArray, List.set_cons_zero, List.set_cons_succ]
                              refine plan_done ?_
                              go_wp2
                              go_roundw
                              case rel => exact ⟨n + 1, kq + 1, _, by omega, by go_num, rfl, by rw [hnext.out]; rw [ha.out, n2, Bool.true_and]; exact cast_ne _ _, by first | rfl | exact World.drewN_drewN _ _ _⟩
                              case measure => simp [intOf]; omega
                        · have e6 : n = out.length := by omega
                          subst e6
                          rw [List.take_length] at hall
                          have hyes : Hid _ := hty.out hb0' hall
                          have hend : Hid (pickTo m g (r + 1) = out ++ [(bn : Int)]) := by show _ = _; rw [← htry]; exact hyes.out
                          have hown4 : (W3.drewN kq).ownsRow w1.heap.size 3 1 (.slice ao out.length c) out.length (intsC out) := hown
                          have hb4 : Below w1.heap.size w1 (W3.drewN kq) := ⟨hb.os, hb.tape, hb.output, hb.size, hb.block⟩
                          clear hown hb hall hty htn htry
                          generalize W3.drewN kq = W4 at *
                          go_wp2_with (at_builtin; refine wpList_append_own _ rfl _ _ 22 rfl w1.heap.size 3 i0 (.int .i64 0) 1 8 Try.underlying22 hi hz0 hz1 hz2 rfl (by decide) _ out.length _ rfl (hown4.alloc _) ⟨W4.heap.size, 0, none⟩ 1 1 [.int .i64 bn] rfl rfl (one_int _ _ _) (one_int1 _) (by unfold maxLen; omega) (by omega) (by have := hb4.size; simp; omega) ?_)
                          intro v' w5 hown5 hgrow _
                          have hb5 : Below w1.heap.size w1 w5 := (hb4.alloc hb4.size _).grown hgrow (by have := hb4.size; simp; omega) (fun k hk => (hown4.lt k hk).1)
                          have hown6 : w5.ownsRow w1.heap.size 3 1 v' (pickTo m g (r + 1)).length (intsC (pickTo m g (r + 1))) := by
                            rw [hend.out]
                            unfold intsC at hown5 ⊢
                            rw [List.length_append, List.map_append]
                            exact hown5
                          clear hown4 hown5 hgrow hb4
                          go_wp2
                          go_roundw
                          case rel => exact ⟨r + 1, by omega, by go_num, hown6, hb5⟩
                          case measure => simp [intOf]; omega
            · have e6 : t = 20 := by omega
              subst e6
              have hend : out = pickTo m g (r + 1) := htry
              go_wp2
              go_roundw
              case rel => exact ⟨r + 1, by omega, by go_num, by rw [← hend]; exact hown, hb⟩
              case measure => simp [intOf]; omega
        · have e5 : r = 3 := by omega
          subst e5
          rw [← hp.out] at hown
          obtain ⟨_, ao, c, rfl, hIx⟩ := ix_own hown
          go_wp2
          go_ret
          exact ⟨ao, c, rfl, hIx, hb1.trans (hb.mono hb1.size)⟩
end Go.Proofs.Ytlbokkbngbpmiaa
