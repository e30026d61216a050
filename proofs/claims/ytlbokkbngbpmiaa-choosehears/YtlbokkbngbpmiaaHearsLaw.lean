/- paddocklaw9.ChooseHears returns true, for whatever group, two daemons of it and start, where package history answers as it has to. -/
import Derived.Test.YtlbokkbngbpmiaaHearFacts
import Derived.Test.YtlbokkbngbpmiaaFewLaw9
namespace Go.Proofs.Ytlbokkbngbpmiaa
set_option linter.unusedSimpArgs false
set_option linter.unusedVariables false
set_option maxRecDepth 100000
open Go.RowKit

theorem incW_ok {x : Nat} (h : x < 5) : IncOk (incW x) := ⟨by show 3 < 256; decide, by show x < 256; omega, by show (-9223372036854775808 : Int) ≤ 0; decide, by show (0 : Int) ≤ 9223372036854775807; decide⟩

set_option maxHeartbeats 16000000 in
theorem hears_walk {Is : World → Nat → List IncV → (Nat → Prop) → Prop} (S : HistSpec Is) (gr a b st : Nat) (w : World) (hgr : gr < 256) (ha : a < 256) (hbb : b < 256) (hst : st < 4294967296) :
    Calls Try.prog 6 #[.int .u8 gr, .int .u8 a, .int .u8 b, .int .u32 st] w fun e w' => e = .returned (.bool true) ∧ Below w.heap.size w w' := by
  obtain ⟨g, hg⟩ : ∃ g, gr % 4 = g := ⟨_, rfl⟩
  have hg4 : g < 4 := by omega
  have hg' : Hid _ := hg
  obtain ⟨ka, hka⟩ : ∃ g, a % 3 = g := ⟨_, rfl⟩
  have hka3 : ka < 3 := by omega
  have hka' : Hid _ := hka
  obtain ⟨kb, hkb⟩ : ∃ g, b % 3 = g := ⟨_, rfl⟩
  have hkb3 : kb < 3 := by omega
  have hkb' : Hid _ := hkb
  obtain ⟨s, hs⟩ : ∃ g, st % 4 = g := ⟨_, rfl⟩
  have hs4 : s < 4 := by omega
  have hs' : Hid _ := hs
  clear hg hka hkb hs
  go_enter Try.func6, Try.ntmps6
  go_wp2_with (first
    | (go_at_call 9; refine (known9_any S _).mono ?_; rintro e w1 ⟨rfl, hb⟩)
    | (refine wpList_val (.int .u8 (g : Int)) (by rfl) (run_rem_u8 _ _ _ _ rfl gr 4 g rfl rfl hgr (by decide) hg'.out) ?_))
  refine (S.new _).mono ?_
  rintro e w2 ⟨p, F, rfl, hH, hF0, hq⟩
  have hF : ∀ b, F b → w.heap.size ≤ b := fun b h => Nat.le_trans hb.size (hF0 b h)
  replace hb := hb.trans (hq.mono hb.size)
  clear hq hF0
  have hpt : ptr p = .pointer (some ⟨p, 0, none⟩) := rfl
  rw [hpt]
  have hac := S.acting g hH (by omega)
  rw [hpt] at hac
  go_wp2_with fail
  refine hac.mono ?_
  rintro e w3 ⟨fo, fc, rfl, hA, hq, hfr⟩
  have hFlt : ∀ b, F b → b < w2.heap.size := fun b h => S.lt hH b h
  replace hH := S.later hH hq
  replace hb := hb.trans (hq.mono hb.size)
  clear hq hac
  have hlen := now_first g hg4
  have hmem := now_mem [] g
  have hfacts : Hid (∀ {x y : Nat}, (nowH [] g).getD ka 0 = (x : Int) → (nowH [] g).getD kb 0 = (y : Int) → x ≠ y → HearFacts g x y (nowH [] g)) := fun hx hy hne => hear_is hg4 hka3 hkb3 hx hy hne
  generalize nowH [] g = A at *
  rw [hlen]
  have hAcap := hA.cap
  have hAle := hA.le
  cases fo with
  | none => have := hA.nil rfl; omega
  | some fd =>
    have hfd : w2.heap.size ≤ fd.block := hfr fd rfl
    have hfl : fd.block < w3.heap.size := hA.lt (by omega)
    have hkaA : ka < A.length := by omega
    have hkbA : kb < A.length := by omega
    obtain ⟨x, hx⟩ : ∃ x : Nat, A[ka] = (x : Int) := ⟨A[ka].toNat, by have := hmem _ (List.getElem_mem hkaA); omega⟩
    obtain ⟨y, hy⟩ : ∃ y : Nat, A[kb] = (y : Int) := ⟨A[kb].toNat, by have := hmem _ (List.getElem_mem hkbA); omega⟩
    have hx5 : x < 5 := by have := hmem _ (List.getElem_mem hkaA); omega
    have hy5 : y < 5 := by have := hmem _ (List.getElem_mem hkbA); omega
    have hcx : ∀ W, Ix W (some fd) fc A → W.cell? (fd.add ka) = some (.int .i64 (x : Int)) := fun W hW => by rw [← hx]; exact hW.at' fd rfl ka hkaA
    have hcy : ∀ W, Ix W (some fd) fc A → W.cell? (fd.add kb) = some (.int .i64 (y : Int)) := fun W hW => by rw [← hy]; exact hW.at' fd rfl kb hkbA
    have hHF : Hid (x ≠ y → HearFacts g x y A) := fun hne => hfacts.out (by rw [← hx]; simp [List.getD, hkaA]) (by rw [← hy]; simp [List.getD, hkbA]) hne
    have hkaI : (ka : Int) < 3 := by omega
    have hkbI : (kb : Int) < 3 := by omega
    clear hfacts hx hy
    have hAd := hA.drewN 1
    have hHd := S.later hH (Below.refl _ w3).drew
    go_wp2
    refine wp_region_plan (fun W => Ix W (some fd) fc A) (Plan.of [(0, true), (1, true), (2, true), (3, true), (8, true), (9, true), (10, true), (11, true)] (.either 4 (Plan.of [(5, true), (6, true), (7, true), (16, true), (12, false), (13, true), (14, true), (15, true), (17, true)] .done) 12 (Plan.of [(13, true), (14, true), (15, true), (4, false), (5, true), (6, true), (7, true), (16, true), (17, true)] .done))) (by kernel_rfl) (by kernel_rfl) (by kernel_rfl) (by kernel_rfl) hAd ?_
    iterate 8
      first
        | (refine plan_pass _ rfl (by rfl) ?_)
        | (refine plan_take _ _ rfl (.inl ⟨by rfl, fun W hS => by clear hS; go_simp; try with_reducible rfl⟩) ?_)
      try simp only [Act.put, List.setIfInBounds_toArray, List.set_cons_zero, List.set_cons_succ]
    rw [show IntKind.i64.wrap (a : Int) = (a : Int) by rw [IntKind.wrap_i64]; omega, show IntKind.i64.wrap (b : Int) = (b : Int) by rw [IntKind.wrap_i64]; omega]
    refine plan_either ?_ ?_
    · refine plan_run _ rfl (fun K hK => ?_)
      go_simp
      refine hK.out _ _ hAd ?_
      clear hK K
      refine plan_take _ _ rfl (.inl ⟨by rfl, fun W _ => run_rem_i64 _ _ _ _ rfl a 3 ka rfl rfl (by omega) (by decide) (hka'.out) W⟩) ?_
      try simp only [Act.put, List.setIfInBounds_toArray, List.set_cons_zero, List.set_cons_succ]
      iterate 1
        first
          | (refine plan_pass _ rfl (by rfl) ?_)
          | (refine plan_take _ _ rfl (.inl ⟨by rfl, fun W hS => by clear hS; go_simp; try with_reducible rfl⟩) ?_)
        try simp only [Act.put, List.setIfInBounds_toArray, List.set_cons_zero, List.set_cons_succ]
      iterate 1
        first
          | (refine plan_pass _ rfl (by rfl) ?_)
          | (refine plan_take _ _ rfl (.inl ⟨by rfl, fun W hS => by have z := hcx W hS; go_simp; try with_reducible rfl⟩) ?_)
        try simp only [Act.put, List.setIfInBounds_toArray, List.set_cons_zero, List.set_cons_succ]
      iterate 1
        first
          | (refine plan_pass _ rfl (by rfl) ?_)
          | (refine plan_take _ _ rfl (.inl ⟨by rfl, fun W hS => by clear hS; go_simp; try with_reducible rfl⟩) ?_)
        try simp only [Act.put, List.setIfInBounds_toArray, List.set_cons_zero, List.set_cons_succ]
      refine plan_run _ rfl (fun K hK => ?_)
      go_simp
      refine hK.out _ _ hAd ?_
      clear hK K
      refine plan_take _ _ rfl (.inl ⟨by rfl, fun W _ => run_rem_i64 _ _ _ _ rfl b 3 kb rfl rfl (by omega) (by decide) (hkb'.out) W⟩) ?_
      try simp only [Act.put, List.setIfInBounds_toArray, List.set_cons_zero, List.set_cons_succ]
      iterate 1
        first
          | (refine plan_pass _ rfl (by rfl) ?_)
          | (refine plan_take _ _ rfl (.inl ⟨by rfl, fun W hS => by clear hS; go_simp; try with_reducible rfl⟩) ?_)
        try simp only [Act.put, List.setIfInBounds_toArray, List.set_cons_zero, List.set_cons_succ]
      iterate 1
        first
          | (refine plan_pass _ rfl (by rfl) ?_)
          | (refine plan_take _ _ rfl (.inl ⟨by rfl, fun W hS => by have z := hcy W hS; go_simp; try with_reducible rfl⟩) ?_)
        try simp only [Act.put, List.setIfInBounds_toArray, List.set_cons_zero, List.set_cons_succ]
      iterate 1
        first
          | (refine plan_pass _ rfl (by rfl) ?_)
          | (refine plan_take _ _ rfl (.inl ⟨by rfl, fun W hS => by clear hS; go_simp; try with_reducible rfl⟩) ?_)
        try simp only [Act.put, List.setIfInBounds_toArray, List.set_cons_zero, List.set_cons_succ]
      refine plan_done ?_
      by_cases hxy : x = y
      · subst hxy
        go_wp2
        go_ret
        exact ⟨rfl, hb.drew⟩
      · have hxyI : ((x : Int) == (y : Int)) = false := by rw [beq_eq_false_iff_ne]; omega
        have hxyN : (x == y) = false := by rw [beq_eq_false_iff_ne]; exact hxy
        have hK := hHF.out hxy
        have hAdd2 := S.add 2 (incW x) hHd (by decide) (incW_ok hx5)
        rw [hK.add2, hpt] at hAdd2
        have hbx := inc_two 3 x
        have hby := inc_two 3 y
        have hx5I : (x : Int) < 5 := by omega
        have hy5I : (y : Int) < 5 := by omega
        go_wp2_with (first
          | (refine wpList_build_two9 (by first | rfl | simp [Region.wanted, yielded]) 73 0 1 _ _ rfl (.int .u8 ((3 : Nat) : Int)) (.int .u8 (x : Int)) rfl rfl (incC (incW x)) hbx ?_))
        refine hAdd2.mono ?_
        rintro e w4 ⟨rfl, ⟨F2, hH2, hF2⟩, hoff⟩
        have hA4 := hoff.ix hAd (fun ad had hf => by obtain rfl := Option.some.inj had; have := hFlt _ hf; omega)
        have hb4 : Below w.heap.size w w4 := hb.drew.trans (hoff.below hF hb.size)
        have hF4 : ∀ b, F2 b → w.heap.size ≤ b := fun b h => by
          rcases hF2 b h with h | h
          · exact hF b h
          · have h' : w3.heap.size ≤ b := h; have := hb.size; omega
        have hn2 : ¬ F2 fd.block := fun h => by
          rcases hF2 _ h with h | h
          · have := hFlt _ h; omega
          · have h' : w3.heap.size ≤ fd.block := h; omega
        have hAdd3 := S.add 3 (incW y) hH2 (by decide) (incW_ok hy5)
        rw [hK.add3, hpt] at hAdd3
        clear hAdd2 hoff hF2 hAd hHd hA hH hb hHF hcx hcy
        go_wp2_with (first
          | (refine wpList_build_two9 (by first | rfl | simp [Region.wanted, yielded]) 73 0 1 _ _ rfl (.int .u8 ((3 : Nat) : Int)) (.int .u8 (y : Int)) rfl rfl (incC (incW y)) hby ?_))
        refine hAdd3.mono ?_
        rintro e w5 ⟨rfl, ⟨F5, hH5, hF5⟩, hoff⟩
        have hA5 := hoff.ix hA4 (fun ad had hf => by obtain rfl := Option.some.inj had; exact hn2 hf)
        have hb5 : Below w.heap.size w w5 := hb4.trans (hoff.below hF4 hb4.size)
        clear hAdd3 hoff hF5 hA4 hH2 hb4 hF4 hn2
        have hany0 : Hid _ := hK.any0
        have hany1 : Hid _ := hK.any1
        clear hK hbx hby
        go_wp2
        go_loopw [14, 15] (fun v i wr => ∃ n : Nat, n ≤ 5 ∧ i = .int .i64 n ∧ wr.ownsRow w5.heap.size 3 1 v (othL A n).length (intsC (othL A n)) ∧ Below w5.heap.size w5 wr) (fun _ i _ => (5 - intOf i).toNat)
        case atStart => exact ⟨0, by decide, rfl, World.ownsRow_nil _ _ _ _, Below.refl _ _⟩
        case round =>
          obtain ⟨n, hn, rfl, hown, hbn⟩ := hrel
          by_cases hlt : n < 5
          · have hnI : (n : Int) < 5 := by omega
            have hol := othL_len A n
            obtain ⟨W2, hW2⟩ : ∃ W2, W2 = wr := ⟨_, rfl⟩
            subst hW2
            have hAn := hA5.later hbn
            go_wp2
            go_loopw [16, 17] (fun bv kv wz => ∃ k : Nat, k ≤ 3 ∧ kv = .int .i64 k ∧ bv = .bool ((A.take k).any fun z => z == (n : Int)) ∧ wz = W2) (fun _ kv _ => (3 - intOf kv).toNat)
            case atStart => exact ⟨0, by decide, rfl, rfl, rfl⟩
            case round =>
              obtain ⟨k, hk, rfl, rfl, hwz⟩ := hrel
              replace hwz := hwz.symm
              subst hwz
              by_cases hlk : k < 3
              · have hkI : (k : Int) < 3 := by omega
                have hkA : k < A.length := by omega
                have cz := hAn.at' fd rfl k hkA
                have hnext : Hid (((A.take (k + 1)).any fun z => z == (n : Int)) = (((A.take k).any fun z => z == (n : Int)) || (A[k] == (n : Int)))) := by
                  show _ = _
                  rw [List.take_succ_eq_append_getElem hkA, List.any_append]
                  simp
                generalize A[k] = z at *
                cases hbv : ((A.take k).any fun z => z == (n : Int)) with
                | true =>
                  rw [hbv] at hnext
                  go_wp2
                  go_roundw
                  case rel => first | exact ⟨k + 1, by omega, by go_num, by rw [hnext.out]; rfl, rfl⟩ | exact ⟨k + 1, by omega, by go_num, by rw [hnext.out]; rfl, trivial⟩ | exact ⟨k + 1, by omega, by go_num, by rw [hnext.out]; rfl⟩
                  case measure => simp [intOf]; omega
                | false =>
                  rw [hbv] at hnext
                  go_wp2
                  go_roundw
                  case rel => first | exact ⟨k + 1, by omega, by go_num, by rw [hnext.out]; rfl, rfl⟩ | exact ⟨k + 1, by omega, by go_num, by rw [hnext.out]; rfl, trivial⟩ | exact ⟨k + 1, by omega, by go_num, by rw [hnext.out]; rfl⟩ | exact ⟨k + 1, by omega, by go_num, by rw [hnext.out, Bool.false_or], rfl⟩ | exact ⟨k + 1, by omega, by go_num, by rw [hnext.out, Bool.false_or], trivial⟩
                  case measure => simp [intOf]; omega
              · have hk3 : k = 3 := by omega
                subst hk3
                have htk : A.take 3 = A := by rw [← hlen]; exact List.take_length
                rw [htk]
                clear hAn
                cases hbv : (A.any fun z => z == (n : Int)) with
                | true =>
                  have hnx : Hid _ := othL_yes hbv
                  go_wp2
                  go_roundw
                  case rel => exact ⟨n + 1, by omega, by go_num, by rw [hnx.out]; exact hown, hbn⟩
                  case measure => simp [intOf]; omega
                | false =>
                  have hnx : Hid _ := othL_no hbv
                  have hN := Has.new W2 3 #[.int .i64 (n : Int)]
                  have hIx : Ix (W2.alloc (.cells #[.int .i64 (n : Int)] 3)) (some ⟨W2.heap.size, 0, none⟩) 1 [(n : Int)] := ix_new [(n : Int)] W2 (by show 1 ≤ 1000; decide)
                  have hown2 := hown.alloc (.cells #[.int .i64 (n : Int)] 3)
                  have hbn2 := hbn.alloc hbn.size (.cells #[.int .i64 (n : Int)] 3)
                  obtain ⟨v3, w7, hr3, hown3, hg3⟩ := run_appendI _ 22 w5.heap.size _ (othL A n) [(n : Int)] hown2 _ 1 hIx (by show _ + 1 ≤ 1000; omega) hbn2.size
                  have hb7 := hbn2.grown hg3 hbn2.size (fun k hk => (hown2.lt k hk).1)
                  rw [← hnx.out] at hown3
                  go_wp2_with (first
                    | (refine wpList_appendI (by rfl) _ _ 22 22 rfl _ (.slice (some ⟨W2.heap.size, 0, none⟩) 1 1) rfl rfl v3 w7 ?hg ?_; (case hg => exact hr3)))
                  go_roundw
                  case rel => exact ⟨n + 1, by omega, by go_num, hown3, hb7⟩
                  case measure => simp [intOf]; omega
          · have hn5 : n = 5 := by omega
            subst hn5
            obtain ⟨_, oo, oc, rfl, hO⟩ := ix_own hown
            have hol := othL_len A 5
            generalize othL A 5 = O at *
            have hHn := S.later hH5 hbn
            have hbw : Below w.heap.size w wr := hb5.trans (hbn.mono hb5.size)
            have hLk := Lacks_any S g oo oc O s hHn (by omega) hO (by omega) (by omega)
            have hlall := lacks_all [incW x, incW y] g s
            have hpos : Hid (s ≤ 1 → 0 < (lacksM (ivals [incW x, incW y] g) O s).length) := fun h => by
              have : s = 0 ∨ s = 1 := by omega
              rcases this with rfl | rfl
              · exact lacks_pos hany0.out
              · exact lacks_pos hany1.out
            have htwo : Hid (∀ v ∈ lacksM (ivals [incW x, incW y] g) O s, 2 ≤ v.2.length ∧ s ≤ v.1) := fun v hv => lacks_two hv
            have hll : (lacksM (ivals [incW x, incW y] g) O s).length ≤ 60 := by
              have h1 := List.length_filter_le (lackB O s) (ivals [incW x, incW y] g).dropLast
              have h2 := ivals_len [incW x, incW y] g
              rw [List.length_dropLast] at h1
              have h3 : [incW x, incW y].length = 2 := rfl
              show (List.filter _ _).length ≤ 60
              omega
            rw [hpt] at hLk
            generalize lacksM (ivals [incW x, incW y] g) O s = L at *
            clear hown hany0 hany1
            go_wp2_with (first
              | (refine wpList_val (.int .u32 (s : Int)) (by rfl) (run_rem_u32c _ _ _ _ rfl st 4 s rfl rfl hst (by decide) hs'.out) ?_))
            refine hLk.mono ?_
            rintro e w8 ⟨ro, rc, rfl, hR, hq⟩
            replace hHn := S.later hHn hq
            replace hbw := hbw.trans (hq.mono hbw.size)
            have hRc := hR.cap
            have hRl := hR.le
            clear hq hLk hO
            obtain ⟨ln, hln⟩ : ∃ ln, L.length = ln := ⟨_, rfl⟩
            rw [hln]
            rw [hln] at hRl hll hpos
            replace hln : Hid (L.length = ln) := hln
            go_wp2
            go_loopw [20] (fun i wz => ∃ n : Nat, n ≤ ln ∧ i = .int .i64 n ∧ wz = w8) (fun i _ => ln - (intOf i).toNat)
            case atStart => exact ⟨0, Nat.zero_le _, rfl, rfl⟩
            case round =>
              obtain ⟨q, hq, rfl, hwz⟩ := hrel
              replace hwz := hwz.symm
              subst hwz
              by_cases hlq' : q < ln
              · have hqI : (q : Int) < (ln : Int) := by omega
                have hlq : q < L.length := by rw [hln.out]; exact hlq'
                cases ro with
                | none => have := hR.nil rfl; omega
                | some rd =>
                  obtain ⟨c0, bo, d, c1, hI⟩ := iv_get9 hR q hlq
                  obtain ⟨h2, hsv⟩ := htwo.out _ (List.getElem_mem hlq)
                  have hIc := hI.cap
                  have hIl := hI.le
                  generalize L[q] = v at *
                  have h2J : (2 : Int) ≤ ((v.2.length : Nat) : Int) := by omega
                  have hsI : (s : Int) ≤ ((v.1 : Nat) : Int) := by omega
                  generalize v.2.length = vl at *
                  generalize v.1 = vs at *
                  go_wp2
                  go_roundw
                  case rel => first | exact ⟨q + 1, by omega, by go_num, rfl⟩ | exact ⟨q + 1, by omega, by go_num, trivial⟩ | exact ⟨q + 1, by omega, by go_num⟩
                  case measure => simp [intOf]; omega
              · have hqI : ¬ (q : Int) < (ln : Int) := by omega
                have hal : ∀ W : World, Ix (W.alloc (.cells #[.int .i64 0, .int .i64 1, .int .i64 2, .int .i64 3, .int .i64 4] 3)) (some ⟨W.heap.size, 0, none⟩) 5 [0, 1, 2, 3, 4] := fun W => ix_new [0, 1, 2, 3, 4] W (by decide)
                have hq9 := (Below.refl w8.heap.size w8).alloc (Nat.le_refl _) (.cells #[.int .i64 0, .int .i64 1, .int .i64 2, .int .i64 3, .int .i64 4] 3)
                have hE := Lacks_any S g _ 5 [0, 1, 2, 3, 4] s (S.later hHn hq9) (by omega) (hal w8) (by decide) (by omega)
                rw [hlall, hpt] at hE
                have hbz := hbw.trans (hq9.mono hbw.size)
                clear hq9
                by_cases hs1 : s ≤ 1
                · have hLp : (0 : Int) < (ln : Int) := by have := hpos.out hs1; omega
                  go_wp2_with fail
                  refine hE.mono ?_
                  rintro e w9 ⟨rD, cD, rfl, hRD, hq⟩
                  have hRDc := hRD.cap
                  replace hbz := hbz.trans (hq.mono hbz.size)
                  go_wp2
                  go_ret
                  exact ⟨rfl, hbz⟩
                · have hs1I : (1 : Int) < (s : Int) := by omega
                  cases hL0 : decide ((0 : Int) < (ln : Int)) with
                  | true =>
                    have hLp : (0 : Int) < (ln : Int) := of_decide_eq_true hL0
                    go_wp2_with fail
                    refine hE.mono ?_
                    rintro e w9 ⟨rD, cD, rfl, hRD, hq⟩
                    have hRDc := hRD.cap
                    replace hbz := hbz.trans (hq.mono hbz.size)
                    go_wp2
                    go_ret
                    exact ⟨rfl, hbz⟩
                  | false =>
                    have hLp : ¬ (0 : Int) < (ln : Int) := of_decide_eq_false hL0
                    go_wp2_with fail
                    refine hE.mono ?_
                    rintro e w9 ⟨rD, cD, rfl, hRD, hq⟩
                    have hRDc := hRD.cap
                    replace hbz := hbz.trans (hq.mono hbz.size)
                    go_wp2
                    go_ret
                    exact ⟨rfl, hbz⟩
    · refine plan_run _ rfl (fun K hK => ?_)
      go_simp
      refine hK.out _ _ hAd ?_
      clear hK K
      refine plan_take _ _ rfl (.inl ⟨by rfl, fun W _ => run_rem_i64 _ _ _ _ rfl b 3 kb rfl rfl (by omega) (by decide) (hkb'.out) W⟩) ?_
      try simp only [Act.put, List.setIfInBounds_toArray, List.set_cons_zero, List.set_cons_succ]
      iterate 1
        first
          | (refine plan_pass _ rfl (by rfl) ?_)
          | (refine plan_take _ _ rfl (.inl ⟨by rfl, fun W hS => by clear hS; go_simp; try with_reducible rfl⟩) ?_)
        try simp only [Act.put, List.setIfInBounds_toArray, List.set_cons_zero, List.set_cons_succ]
      iterate 1
        first
          | (refine plan_pass _ rfl (by rfl) ?_)
          | (refine plan_take _ _ rfl (.inl ⟨by rfl, fun W hS => by have z := hcy W hS; go_simp; try with_reducible rfl⟩) ?_)
        try simp only [Act.put, List.setIfInBounds_toArray, List.set_cons_zero, List.set_cons_succ]
      refine plan_run _ rfl (fun K hK => ?_)
      go_simp
      refine hK.out _ _ hAd ?_
      clear hK K
      refine plan_take _ _ rfl (.inl ⟨by rfl, fun W _ => run_rem_i64 _ _ _ _ rfl a 3 ka rfl rfl (by omega) (by decide) (hka'.out) W⟩) ?_
      try simp only [Act.put, List.setIfInBounds_toArray, List.set_cons_zero, List.set_cons_succ]
      iterate 1
        first
          | (refine plan_pass _ rfl (by rfl) ?_)
          | (refine plan_take _ _ rfl (.inl ⟨by rfl, fun W hS => by clear hS; go_simp; try with_reducible rfl⟩) ?_)
        try simp only [Act.put, List.setIfInBounds_toArray, List.set_cons_zero, List.set_cons_succ]
      iterate 1
        first
          | (refine plan_pass _ rfl (by rfl) ?_)
          | (refine plan_take _ _ rfl (.inl ⟨by rfl, fun W hS => by have z := hcx W hS; go_simp; try with_reducible rfl⟩) ?_)
        try simp only [Act.put, List.setIfInBounds_toArray, List.set_cons_zero, List.set_cons_succ]
      iterate 2
        first
          | (refine plan_pass _ rfl (by rfl) ?_)
          | (refine plan_take _ _ rfl (.inl ⟨by rfl, fun W hS => by clear hS; go_simp; try with_reducible rfl⟩) ?_)
        try simp only [Act.put, List.setIfInBounds_toArray, List.set_cons_zero, List.set_cons_succ]
      refine plan_done ?_
      by_cases hxy : x = y
      · subst hxy
        go_wp2
        go_ret
        exact ⟨rfl, hb.drew⟩
      · have hxyI : ((x : Int) == (y : Int)) = false := by rw [beq_eq_false_iff_ne]; omega
        have hxyN : (x == y) = false := by rw [beq_eq_false_iff_ne]; exact hxy
        have hK := hHF.out hxy
        have hAdd2 := S.add 2 (incW x) hHd (by decide) (incW_ok hx5)
        rw [hK.add2, hpt] at hAdd2
        have hbx := inc_two 3 x
        have hby := inc_two 3 y
        have hx5I : (x : Int) < 5 := by omega
        have hy5I : (y : Int) < 5 := by omega
        go_wp2_with (first
          | (refine wpList_build_two9 (by first | rfl | simp [Region.wanted, yielded]) 73 0 1 _ _ rfl (.int .u8 ((3 : Nat) : Int)) (.int .u8 (x : Int)) rfl rfl (incC (incW x)) hbx ?_))
        refine hAdd2.mono ?_
        rintro e w4 ⟨rfl, ⟨F2, hH2, hF2⟩, hoff⟩
        have hA4 := hoff.ix hAd (fun ad had hf => by obtain rfl := Option.some.inj had; have := hFlt _ hf; omega)
        have hb4 : Below w.heap.size w w4 := hb.drew.trans (hoff.below hF hb.size)
        have hF4 : ∀ b, F2 b → w.heap.size ≤ b := fun b h => by
          rcases hF2 b h with h | h
          · exact hF b h
          · have h' : w3.heap.size ≤ b := h; have := hb.size; omega
        have hn2 : ¬ F2 fd.block := fun h => by
          rcases hF2 _ h with h | h
          · have := hFlt _ h; omega
          · have h' : w3.heap.size ≤ fd.block := h; omega
        have hAdd3 := S.add 3 (incW y) hH2 (by decide) (incW_ok hy5)
        rw [hK.add3, hpt] at hAdd3
        clear hAdd2 hoff hF2 hAd hHd hA hH hb hHF hcx hcy
        go_wp2_with (first
          | (refine wpList_build_two9 (by first | rfl | simp [Region.wanted, yielded]) 73 0 1 _ _ rfl (.int .u8 ((3 : Nat) : Int)) (.int .u8 (y : Int)) rfl rfl (incC (incW y)) hby ?_))
        refine hAdd3.mono ?_
        rintro e w5 ⟨rfl, ⟨F5, hH5, hF5⟩, hoff⟩
        have hA5 := hoff.ix hA4 (fun ad had hf => by obtain rfl := Option.some.inj had; exact hn2 hf)
        have hb5 : Below w.heap.size w w5 := hb4.trans (hoff.below hF4 hb4.size)
        clear hAdd3 hoff hF5 hA4 hH2 hb4 hF4 hn2
        have hany0 : Hid _ := hK.any0
        have hany1 : Hid _ := hK.any1
        clear hK hbx hby
        go_wp2
        go_loopw [14, 15] (fun v i wr => ∃ n : Nat, n ≤ 5 ∧ i = .int .i64 n ∧ wr.ownsRow w5.heap.size 3 1 v (othL A n).length (intsC (othL A n)) ∧ Below w5.heap.size w5 wr) (fun _ i _ => (5 - intOf i).toNat)
        case atStart => exact ⟨0, by decide, rfl, World.ownsRow_nil _ _ _ _, Below.refl _ _⟩
        case round =>
          obtain ⟨n, hn, rfl, hown, hbn⟩ := hrel
          by_cases hlt : n < 5
          · have hnI : (n : Int) < 5 := by omega
            have hol := othL_len A n
            obtain ⟨W2, hW2⟩ : ∃ W2, W2 = wr := ⟨_, rfl⟩
            subst hW2
            have hAn := hA5.later hbn
            go_wp2
            go_loopw [16, 17] (fun bv kv wz => ∃ k : Nat, k ≤ 3 ∧ kv = .int .i64 k ∧ bv = .bool ((A.take k).any fun z => z == (n : Int)) ∧ wz = W2) (fun _ kv _ => (3 - intOf kv).toNat)
            case atStart => exact ⟨0, by decide, rfl, rfl, rfl⟩
            case round =>
              obtain ⟨k, hk, rfl, rfl, hwz⟩ := hrel
              replace hwz := hwz.symm
              subst hwz
              by_cases hlk : k < 3
              · have hkI : (k : Int) < 3 := by omega
                have hkA : k < A.length := by omega
                have cz := hAn.at' fd rfl k hkA
                have hnext : Hid (((A.take (k + 1)).any fun z => z == (n : Int)) = (((A.take k).any fun z => z == (n : Int)) || (A[k] == (n : Int)))) := by
                  show _ = _
                  rw [List.take_succ_eq_append_getElem hkA, List.any_append]
                  simp
                generalize A[k] = z at *
                cases hbv : ((A.take k).any fun z => z == (n : Int)) with
                | true =>
                  rw [hbv] at hnext
                  go_wp2
                  go_roundw
                  case rel => first | exact ⟨k + 1, by omega, by go_num, by rw [hnext.out]; rfl, rfl⟩ | exact ⟨k + 1, by omega, by go_num, by rw [hnext.out]; rfl, trivial⟩ | exact ⟨k + 1, by omega, by go_num, by rw [hnext.out]; rfl⟩
                  case measure => simp [intOf]; omega
                | false =>
                  rw [hbv] at hnext
                  go_wp2
                  go_roundw
                  case rel => first | exact ⟨k + 1, by omega, by go_num, by rw [hnext.out]; rfl, rfl⟩ | exact ⟨k + 1, by omega, by go_num, by rw [hnext.out]; rfl, trivial⟩ | exact ⟨k + 1, by omega, by go_num, by rw [hnext.out]; rfl⟩ | exact ⟨k + 1, by omega, by go_num, by rw [hnext.out, Bool.false_or], rfl⟩ | exact ⟨k + 1, by omega, by go_num, by rw [hnext.out, Bool.false_or], trivial⟩
                  case measure => simp [intOf]; omega
              · have hk3 : k = 3 := by omega
                subst hk3
                have htk : A.take 3 = A := by rw [← hlen]; exact List.take_length
                rw [htk]
                clear hAn
                cases hbv : (A.any fun z => z == (n : Int)) with
                | true =>
                  have hnx : Hid _ := othL_yes hbv
                  go_wp2
                  go_roundw
                  case rel => exact ⟨n + 1, by omega, by go_num, by rw [hnx.out]; exact hown, hbn⟩
                  case measure => simp [intOf]; omega
                | false =>
                  have hnx : Hid _ := othL_no hbv
                  have hN := Has.new W2 3 #[.int .i64 (n : Int)]
                  have hIx : Ix (W2.alloc (.cells #[.int .i64 (n : Int)] 3)) (some ⟨W2.heap.size, 0, none⟩) 1 [(n : Int)] := ix_new [(n : Int)] W2 (by show 1 ≤ 1000; decide)
                  have hown2 := hown.alloc (.cells #[.int .i64 (n : Int)] 3)
                  have hbn2 := hbn.alloc hbn.size (.cells #[.int .i64 (n : Int)] 3)
                  obtain ⟨v3, w7, hr3, hown3, hg3⟩ := run_appendI _ 22 w5.heap.size _ (othL A n) [(n : Int)] hown2 _ 1 hIx (by show _ + 1 ≤ 1000; omega) hbn2.size
                  have hb7 := hbn2.grown hg3 hbn2.size (fun k hk => (hown2.lt k hk).1)
                  rw [← hnx.out] at hown3
                  go_wp2_with (first
                    | (refine wpList_appendI (by rfl) _ _ 22 22 rfl _ (.slice (some ⟨W2.heap.size, 0, none⟩) 1 1) rfl rfl v3 w7 ?hg ?_; (case hg => exact hr3)))
                  go_roundw
                  case rel => exact ⟨n + 1, by omega, by go_num, hown3, hb7⟩
                  case measure => simp [intOf]; omega
          · have hn5 : n = 5 := by omega
            subst hn5
            obtain ⟨_, oo, oc, rfl, hO⟩ := ix_own hown
            have hol := othL_len A 5
            generalize othL A 5 = O at *
            have hHn := S.later hH5 hbn
            have hbw : Below w.heap.size w wr := hb5.trans (hbn.mono hb5.size)
            have hLk := Lacks_any S g oo oc O s hHn (by omega) hO (by omega) (by omega)
            have hlall := lacks_all [incW x, incW y] g s
            have hpos : Hid (s ≤ 1 → 0 < (lacksM (ivals [incW x, incW y] g) O s).length) := fun h => by
              have : s = 0 ∨ s = 1 := by omega
              rcases this with rfl | rfl
              · exact lacks_pos hany0.out
              · exact lacks_pos hany1.out
            have htwo : Hid (∀ v ∈ lacksM (ivals [incW x, incW y] g) O s, 2 ≤ v.2.length ∧ s ≤ v.1) := fun v hv => lacks_two hv
            have hll : (lacksM (ivals [incW x, incW y] g) O s).length ≤ 60 := by
              have h1 := List.length_filter_le (lackB O s) (ivals [incW x, incW y] g).dropLast
              have h2 := ivals_len [incW x, incW y] g
              rw [List.length_dropLast] at h1
              have h3 : [incW x, incW y].length = 2 := rfl
              show (List.filter _ _).length ≤ 60
              omega
            rw [hpt] at hLk
            generalize lacksM (ivals [incW x, incW y] g) O s = L at *
            clear hown hany0 hany1
            go_wp2_with (first
              | (refine wpList_val (.int .u32 (s : Int)) (by rfl) (run_rem_u32c _ _ _ _ rfl st 4 s rfl rfl hst (by decide) hs'.out) ?_))
            refine hLk.mono ?_
            rintro e w8 ⟨ro, rc, rfl, hR, hq⟩
            replace hHn := S.later hHn hq
            replace hbw := hbw.trans (hq.mono hbw.size)
            have hRc := hR.cap
            have hRl := hR.le
            clear hq hLk hO
            obtain ⟨ln, hln⟩ : ∃ ln, L.length = ln := ⟨_, rfl⟩
            rw [hln]
            rw [hln] at hRl hll hpos
            replace hln : Hid (L.length = ln) := hln
            go_wp2
            go_loopw [20] (fun i wz => ∃ n : Nat, n ≤ ln ∧ i = .int .i64 n ∧ wz = w8) (fun i _ => ln - (intOf i).toNat)
            case atStart => exact ⟨0, Nat.zero_le _, rfl, rfl⟩
            case round =>
              obtain ⟨q, hq, rfl, hwz⟩ := hrel
              replace hwz := hwz.symm
              subst hwz
              by_cases hlq' : q < ln
              · have hqI : (q : Int) < (ln : Int) := by omega
                have hlq : q < L.length := by rw [hln.out]; exact hlq'
                cases ro with
                | none => have := hR.nil rfl; omega
                | some rd =>
                  obtain ⟨c0, bo, d, c1, hI⟩ := iv_get9 hR q hlq
                  obtain ⟨h2, hsv⟩ := htwo.out _ (List.getElem_mem hlq)
                  have hIc := hI.cap
                  have hIl := hI.le
                  generalize L[q] = v at *
                  have h2J : (2 : Int) ≤ ((v.2.length : Nat) : Int) := by omega
                  have hsI : (s : Int) ≤ ((v.1 : Nat) : Int) := by omega
                  generalize v.2.length = vl at *
                  generalize v.1 = vs at *
                  go_wp2
                  go_roundw
                  case rel => first | exact ⟨q + 1, by omega, by go_num, rfl⟩ | exact ⟨q + 1, by omega, by go_num, trivial⟩ | exact ⟨q + 1, by omega, by go_num⟩
                  case measure => simp [intOf]; omega
              · have hqI : ¬ (q : Int) < (ln : Int) := by omega
                have hal : ∀ W : World, Ix (W.alloc (.cells #[.int .i64 0, .int .i64 1, .int .i64 2, .int .i64 3, .int .i64 4] 3)) (some ⟨W.heap.size, 0, none⟩) 5 [0, 1, 2, 3, 4] := fun W => ix_new [0, 1, 2, 3, 4] W (by decide)
                have hq9 := (Below.refl w8.heap.size w8).alloc (Nat.le_refl _) (.cells #[.int .i64 0, .int .i64 1, .int .i64 2, .int .i64 3, .int .i64 4] 3)
                have hE := Lacks_any S g _ 5 [0, 1, 2, 3, 4] s (S.later hHn hq9) (by omega) (hal w8) (by decide) (by omega)
                rw [hlall, hpt] at hE
                have hbz := hbw.trans (hq9.mono hbw.size)
                clear hq9
                by_cases hs1 : s ≤ 1
                · have hLp : (0 : Int) < (ln : Int) := by have := hpos.out hs1; omega
                  go_wp2_with fail
                  refine hE.mono ?_
                  rintro e w9 ⟨rD, cD, rfl, hRD, hq⟩
                  have hRDc := hRD.cap
                  replace hbz := hbz.trans (hq.mono hbz.size)
                  go_wp2
                  go_ret
                  exact ⟨rfl, hbz⟩
                · have hs1I : (1 : Int) < (s : Int) := by omega
                  cases hL0 : decide ((0 : Int) < (ln : Int)) with
                  | true =>
                    have hLp : (0 : Int) < (ln : Int) := of_decide_eq_true hL0
                    go_wp2_with fail
                    refine hE.mono ?_
                    rintro e w9 ⟨rD, cD, rfl, hRD, hq⟩
                    have hRDc := hRD.cap
                    replace hbz := hbz.trans (hq.mono hbz.size)
                    go_wp2
                    go_ret
                    exact ⟨rfl, hbz⟩
                  | false =>
                    have hLp : ¬ (0 : Int) < (ln : Int) := of_decide_eq_false hL0
                    go_wp2_with fail
                    refine hE.mono ?_
                    rintro e w9 ⟨rD, cD, rfl, hRD, hq⟩
                    have hRDc := hRD.cap
                    replace hbz := hbz.trans (hq.mono hbz.size)
                    go_wp2
                    go_ret
                    exact ⟨rfl, hbz⟩
end Go.Proofs.Ytlbokkbngbpmiaa
