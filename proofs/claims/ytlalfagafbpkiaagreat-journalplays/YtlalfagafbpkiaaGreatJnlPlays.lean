/- JournalPlays' walk. -/
import Derived.Test.YtlalfagafbpkiaaGreatGrp42
namespace Go.Proofs.YtlalfagafbpkiaaGreat
set_option linter.unusedSimpArgs false
set_option linter.unusedVariables false
set_option maxRecDepth 100000
open Go.RowKit Go.MapKept

set_option maxHeartbeats 64000000 in
theorem plays_walk (sc : Nat) (ao : Option Addr) (ac : Nat) (l : List StepV) (w : World) (hsc : sc < 256) (hSl : Sl w ao ac 5 (l.map stepL)) (hl : ∀ x ∈ l, StepOk w 140737488351232 x) :
    Calls Tryz.prog 3 #[.int .u8 (sc : Int), .slice ao l.length ac] w fun e w' => e = .returned (.bool true) ∧ Below w.heap.size w w' := by
  have hle : l.length ≤ ac := by have := hSl.le; rwa [List.length_map] at this
  have hcap := hSl.cap
  obtain ⟨r, hr⟩ : ∃ r, sc % 60 = r := ⟨_, rfl⟩
  have hr1 : r < 60 := by omega
  replace hr : Hid _ := hr
  obtain ⟨n, hn⟩ : ∃ n, r + 8 = n := ⟨_, rfl⟩
  have hnI : (r : Int) + 8 = (n : Int) := by omega
  have hn8 : 8 ≤ n := by omega
  have hn67 : n ≤ 67 := by omega
  obtain ⟨B, hB⟩ : ∃ B, limitM n = B := ⟨_, rfl⟩
  have hBI : 64 * ((n : Int) / 2 - 4) = (B : Int) := by unfold limitM at hB; omega
  have hB1 : B ≤ 1900 := by unfold limitM at hB; omega
  obtain ⟨L, hL⟩ : ∃ L, l.length = L := ⟨_, rfl⟩
  rw [hL] at hle ⊢
  go_enter Tryz.func3, Tryz.ntmps3
  go_wp2_with fail
  refine (known_any w).mono ?_
  rintro e w1 ⟨rfl, hB1'⟩
  by_cases h1 : L ≤ 30
  case neg =>
    have h1I : (30 : Int) < (L : Int) := by omega
    clear hn hB hBI hnI
    go_wp2_with fail
    go_ret
    exact ⟨rfl, hB1'⟩
  have h1I : ¬ (30 : Int) < (L : Int) := by omega
  clear hn
  go_wp2_with (first
    | (refine wpList_val (.int .u8 (r : Int)) (by rfl) (run_rem_u8 _ _ _ _ rfl sc 60 r rfl rfl hsc (by decide) hr.out) ?_)
    | fail)
  refine (new_on w n w1 hB1' (by omega) (by omega)).mono ?_
  rintro e w2 ⟨p, kb, mb, rfl, H2, hq2, hF2⟩
  clear hq2 hF2 hB1' h1I hnI
  go_wp2_with fail
  refine (format_on w p kb mb n w2 H2 hn8).mono ?_
  rintro e w3 ⟨j, rfl, H3, hj, ho3⟩
  clear H2 hj ho3
  replace hB : Hid _ := hB
  go_wp2_with fail
  go_loopw [7, 10, 11] (fun jv mv iv wr => ∃ (q N j : Nat) (lo : Option Addr) (lc : Nat) (ml : List (List UInt8)) (mo : Option Addr) (mc : Nat), q ≤ L ∧ N ≤ q + 1 ∧ iv = .int .i64 (q : Nat) ∧ jv = .pointer (some ⟨j, 0, none⟩) ∧ mv = .slice mo ml.length mc ∧ JL w wr j p kb mb n lo lc ml N ∧ Strs wr mo mc ml ∧ (∀ ad, mo = some ad → ad.block < wr.heap.size ∧ ¬ FJ j p kb mb lo ad.block)) (fun _ _ iv _ => L - (intOf iv).toNat)
  case atStart => exact ⟨0, 1, j, none, 0, [], none, 0, Nat.zero_le _, by omega, rfl, rfl, rfl, H3, Strs.nothing _, fun ad had => by cases had⟩
  case round =>
    obtain ⟨q, N, j', lo, lc, ml, mo, mc, hq, hN, rfl, rfl, rfl, H, hm, hmF⟩ := hrel
    clear H3
    by_cases hlt : q < L
    case neg =>
      have hltI : ¬ (q : Int) < (L : Int) := by omega
      have hBw := H.below
      clear H hm hmF hBI
      go_wp2_with fail
      go_ret
      exact ⟨rfl, hBw⟩
    have hltI : (q : Int) < (L : Int) := by omega
    have hql : q < l.length := by omega
    have hcm := hm.cap
    have hcm2 := hm.le
    cases ao with
    | none => have := hSl.nil rfl; omega
    | some ad =>
      have hst := step_at (hSl.later H.below) q hql
      have hx0 := hl l[q] (List.getElem_mem hql)
      obtain ⟨x, hxe⟩ : ∃ x, l[q] = x := ⟨_, rfl⟩
      rw [hxe] at hst hx0
      clear hxe hql
      have hx := hx0.later H.below
      obtain ⟨w4, hw4, hX, hq4⟩ := new_var wr 33 (stepL step0).toArray (stepL x).toArray
      have H4 := H.later hq4
      have hm4 := hm.later hq4
      have hx4 := hx.later hq4
      have hz4 : wr.heap.size < w4.heap.size := hX.lt
      have hmF4 : ∀ ad, mo = some ad → ad.block < w4.heap.size ∧ ¬ FJ j' p kb mb lo ad.block := fun ad had => ⟨by have := (hmF ad had).1; omega, (hmF ad had).2⟩
      have hgF : ¬ FJ j' p kb mb lo wr.heap.size := fun hf => absurd (H.ok.lt _ hf) (Nat.lt_irrefl _)
      obtain ⟨gs, hgs⟩ : ∃ g, wr.heap.size = g := ⟨_, rfl⟩
      have hgw : w.heap.size ≤ gs := by rw [← hgs]; exact H.below.size
      have c0 : w4.cell? ⟨wr.heap.size, 0, none⟩ = some (.int .i64 x.what) := (hX.cell 0).trans rfl
      have c1 : w4.cell? ⟨wr.heap.size, 1, none⟩ = some (.string (mkS x.s)) := (hX.cell 1).trans rfl
      have c2 : w4.cell? ⟨wr.heap.size, 2, none⟩ = some (.slice x.lo x.l.length x.lc) := (hX.cell 2).trans rfl
      have c3 : w4.cell? ⟨wr.heap.size, 3, none⟩ = some (.int .i64 x.pw) := (hX.cell 3).trans rfl
      have c4 : w4.cell? ⟨wr.heap.size, 4, none⟩ = some (.slice x.co x.cs.length x.cc) := (hX.cell 4).trans rfl
      have hsz : (mkS x.s).size = x.s.length := mkS_size x.s
      have hsM := hx.s
      have hlM := hx.l.le
      have hlC := hx.l.cap
      have hcM := hx.cs.le
      have hcC := hx.cs.cap
      replace hX : Hid (Has w4 wr.heap.size 33 (stepL x).toArray) := hX
      clear hx H hm hmF
      replace hgs : Hid _ := hgs
      by_cases g1 : x.s.length ≤ 3000
      case neg =>
        have g1I : (3000 : Int) < (x.s.length : Int) := by omega
        have hBw := H4.below
        clear hBI
        go_wp2_with (first
          | (refine wpList_load_any (by rfl) 33 _ rfl _ rfl (stepL x) _ ?hg Tryz.underlying33 rfl (step_size x) ?_; (case hg => exact hst))
          | (refine wpList_alloc_has (by rfl) 33 rfl _ step_zero ?_)
          | (refine wpList_store_has (by rfl) 33 _ _ rfl wr.heap.size rfl (stepL x).toArray rfl 33 (stepL step0).toArray (step_size _) rfl (step_one _) ?hg ?_; (case hg => exact Has.new _ _ _); rw [hw4]; clear hw4)
          | fail)
        go_ret
        exact ⟨rfl, hBw⟩
      have g1I : ¬ (3000 : Int) < (x.s.length : Int) := by omega
      by_cases g2 : x.l.length ≤ 20
      case neg =>
        have g2I : (20 : Int) < (x.l.length : Int) := by omega
        have hBw := H4.below
        clear hBI
        go_wp2_with (first
          | (refine wpList_load_any (by rfl) 33 _ rfl _ rfl (stepL x) _ ?hg Tryz.underlying33 rfl (step_size x) ?_; (case hg => exact hst))
          | (refine wpList_alloc_has (by rfl) 33 rfl _ step_zero ?_)
          | (refine wpList_store_has (by rfl) 33 _ _ rfl wr.heap.size rfl (stepL x).toArray rfl 33 (stepL step0).toArray (step_size _) rfl (step_one _) ?hg ?_; (case hg => exact Has.new _ _ _); rw [hw4]; clear hw4)
          | fail)
        go_ret
        exact ⟨rfl, hBw⟩
      have g2I : ¬ (20 : Int) < (x.l.length : Int) := by omega
      have hwe := weight_any x.lo x.lc x.l w4 hx4.l (by omega) (fun s hs => by have := hx4.each s hs; omega)
      replace hwe : Hid _ := hwe
      obtain ⟨T, hT⟩ : ∃ T, takenM x.l = T := ⟨_, rfl⟩
      rw [hT] at hwe
      replace hT : Hid _ := hT
      go_wp2_with (first
        | (refine wpList_load_any (by rfl) 33 _ rfl _ rfl (stepL x) _ ?hg Tryz.underlying33 rfl (step_size x) ?_; (case hg => exact hst))
        | (refine wpList_alloc_has (by rfl) 33 rfl _ step_zero ?_)
        | (refine wpList_store_has (by rfl) 33 _ _ rfl wr.heap.size rfl (stepL x).toArray rfl 33 (stepL step0).toArray (step_size _) rfl (step_one _) ?hg ?_; (case hg => exact Has.new _ _ _); rw [hw4]; clear hw4)
        | fail)
      refine Calls.mono hwe.out ?_
      rintro e w5 ⟨rfl, h9⟩
      have h9' := h9.symm; subst h9'
      clear h9 hwe
      by_cases g3 : T ≤ 6000
      case neg =>
        have g3I : (6000 : Int) < (T : Int) := by omega
        have hBw := H4.below
        clear hBI
        go_wp2_with fail
        go_ret
        exact ⟨rfl, hBw⟩
      have g3I : ¬ (6000 : Int) < (T : Int) := by omega
      by_cases g4 : x.cs.length ≤ 100
      case neg =>
        have g4I : (100 : Int) < (x.cs.length : Int) := by omega
        have hBw := H4.below
        clear hBI
        go_wp2_with fail
        go_ret
        exact ⟨rfl, hBw⟩
      have g4I : ¬ (100 : Int) < (x.cs.length : Int) := by omega
      have hsw : w.heap.size ≤ w4.heap.size := H4.below.size
      by_cases k5 : x.what = 5
      case pos =>
        rw [k5] at c0
        clear hBI hst
        go_wp2_with fail
        refine (crash_ne w p kb mb n (fun E => GoodL n E ml N) x.co x.cs.length x.cc x.cs w4 H4.ok.cut (fun k hk => H4.new k (.inr (.inl hk))) H4.below hx0.cs rfl).mono ?_
        rintro e w5 ⟨rfl, E, hE, H5, ho5⟩
        have hm5 : Strs w5 mo mc ml := hm4.same (fun ad had => ho5.block _ (hmF4 ad had).1 (fun hf => (hmF4 ad had).2 (.inr (.inl hf))))
        clear H4 c0 c1 c2 c3 c4 hm4
        go_wp2_with fail
        refine (open_on w p kb mb n E ml N w5 H5 hE).mono ?_
        rintro e w6 ⟨j6, lo6, lc6, bo, bc, rfl, H6, hF6, hS6, hb6, hq6⟩
        have hm6 := hm5.later hq6
        have htx := texts_any bo mo bc mc ml ml w6 hS6 hm6
        replace htx : Hid _ := htx
        have hmF6 : ∀ ad, mo = some ad → ad.block < w6.heap.size ∧ ¬ FJ j6 p kb mb lo6 ad.block := fun ad had => ⟨Nat.lt_of_lt_of_le (Nat.lt_of_lt_of_le (hmF4 ad had).1 ho5.size) hq6.size, fun hf => by
          rcases hF6 _ hf with h9 | h9
          · exact (hmF4 ad had).2 (.inr (.inl h9))
          · have := (hmF4 ad had).1; have := ho5.size; omega⟩
        have hbc := hS6.le
        have hbc2 := hS6.cap
        clear H5 hF6 hS6 hb6 hm5 hE
        go_wp2_with fail
        refine Calls.mono htx.out ?_
        rintro e w7 ⟨rfl, hb7⟩
        simp only [decide_true]
        have H7 := H6.later hb7
        have hm7 := hm6.later hb7
        have hmF7 : ∀ ad, mo = some ad → ad.block < w7.heap.size ∧ ¬ FJ j6 p kb mb lo6 ad.block := fun ad had => ⟨Nat.lt_of_lt_of_le (hmF6 ad had).1 hb7.size, (hmF6 ad had).2⟩
        clear htx hb7 H6 hm6
        go_wp2_with fail
        go_roundw
        case rel => exact ⟨q + 1, N, j6, lo6, lc6, ml, mo, mc, by omega, by omega, by go_num, rfl, rfl, H7, hm7, hmF7⟩
        case measure => simp [intOf]; omega
      have k5I : ¬ x.what = (5 : Int) := k5
      have hgsw : w.heap.size ≤ wr.heap.size := by rw [hgs.out]; exact hgw
      have hxF : x.l ≠ [] → ∀ ad, x.lo = some ad → ad.block < w4.heap.size ∧ ¬ FJ j' p kb mb lo ad.block := fun hne ad had => by
        have h9 := hx0.l.block_lt hne ad had
        exact ⟨by omega, fun hf => by have := H4.new _ hf; omega⟩
      by_cases k6 : 5 < x.what
      case neg =>
        have k6I : ¬ (5 : Int) < x.what := k6
        have k7I : x.what < (5 : Int) := by omega
        have hca := call_any j' p kb mb n 0 lo lc ml N x mo mc w4 H4.ok (by omega) hx4 g1 g2 (by rw [hT.out]; exact g3) hm4 hn67 hxF
        rw [hB.out] at hca
        replace hca : Hid _ := hca
        go_wp2_with (first
          | (refine wpList_load_has (by rfl) 33 _ rfl wr.heap.size rfl 33 (stepL x).toArray _ Tryz.underlying33 rfl (step_size x) ?hg ?_; (case hg => exact hX.out))
          | fail)
        refine Calls.mono hca.out ?_
        rintro e w5 ⟨f, no, nc, mu, mn, rfl, hC⟩
        have hX5 : Has w5 wr.heap.size 33 (stepL x).toArray := hC.off.has hX.out hgF
        have c0 : w5.cell? ⟨wr.heap.size, 0, none⟩ = some (.int .i64 x.what) := (hX5.cell 0).trans rfl
        have hS5 := hC.strs
        have hlies := hC.lies
        have hoff := hC.off
        have hsz5 : w4.heap.size ≤ w5.heap.size := hoff.size
        have hbel5 : Below w.heap.size w w5 := H4.below.trans (hoff.below H4.new hsw)
        have htold := hC.told
        obtain ⟨nw, hnw⟩ : ∃ k, nowM x ml = k := ⟨_, rfl⟩
        rw [hnw] at htold hS5 ⊢
        clear hC hX5 hst hBI c1 c2 c3 c4 hca
        have hnc := hS5.cap
        have hnl := hS5.le
        rcases htold with ⟨rfl, rfl, lo6, lc6, left6, hl6, H6, hF6, hno6⟩ | ⟨rfl, rfl, H6⟩ | ⟨_, h9, _⟩
        · obtain rfl : left6 = 0 := Nat.le_zero.1 hl6
          have hJ : JL w w5 j' p kb mb n lo6 lc6 nw (N + 1) := ⟨H6, fun k hk => (hF6 k hk).elim (H4.new k) (fun z => Nat.le_trans hsw z), hbel5⟩
          clear H6 hF6 hl6
          go_wp2_with fail
          refine (all_on w j' p kb mb n lo6 lc6 nw (N + 1) w5 hJ).mono ?_
          rintro e w6 ⟨bo, bc, rfl, hS6, hbo, H7, hb6⟩
          have hm6 := hS5.later hb6
          have htx := texts_any bo no bc nc nw nw w6 hS6 hm6
          replace htx : Hid _ := htx
          clear hS6 hbo hJ
          go_wp2_with fail
          refine Calls.mono htx.out ?_
          rintro e w7 ⟨rfl, hb7⟩
          simp only [decide_true]
          have H8 := H7.later hb7
          have hm7 := hm6.later hb7
          have hmF7 : ∀ ad, no = some ad → ad.block < w7.heap.size ∧ ¬ FJ j' p kb mb lo6 ad.block := fun ad had => ⟨Nat.lt_of_lt_of_le (hlies ad had).2 (Nat.le_trans hb6.size hb7.size), hno6 ad had⟩
          clear htx hb7 H7 hm6 hb6
          go_wp2_with fail
          go_roundw
          case rel => exact ⟨q + 1, N + 1, j', lo6, lc6, nw, no, nc, by omega, by omega, by go_num, rfl, rfl, H8, hm7, hmF7⟩
          case measure => simp [intOf]; omega
        · have hJ : JL w w5 j' p kb mb n lo lc ml N := ⟨H6, H4.new, hbel5⟩
          have hm5 : Strs w5 mo mc ml := hm4.same (fun ad had => hoff.block _ (hmF4 ad had).1 (hmF4 ad had).2)
          clear H6
          go_wp2_with fail
          refine (all_on w j' p kb mb n lo lc ml N w5 hJ).mono ?_
          rintro e w6 ⟨bo, bc, rfl, hS6, hbo, H7, hb6⟩
          have hm6 := hm5.later hb6
          have htx := texts_any bo mo bc mc ml ml w6 hS6 hm6
          replace htx : Hid _ := htx
          clear hS6 hbo hJ hm5
          go_wp2_with fail
          refine Calls.mono htx.out ?_
          rintro e w7 ⟨rfl, hb7⟩
          simp only [decide_true]
          have H8 := H7.later hb7
          have hm7 := hm6.later hb7
          have hmF7 : ∀ ad, mo = some ad → ad.block < w7.heap.size ∧ ¬ FJ j' p kb mb lo ad.block := fun ad had => ⟨Nat.lt_of_lt_of_le (hmF4 ad had).1 (Nat.le_trans hsz5 (Nat.le_trans hb6.size hb7.size)), (hmF4 ad had).2⟩
          clear htx hb7 H7 hm6 hb6
          go_wp2_with fail
          go_roundw
          case rel => exact ⟨q + 1, N, j', lo, lc, ml, mo, mc, by omega, by omega, by go_num, rfl, rfl, H8, hm7, hmF7⟩
          case measure => simp [intOf]; omega
        · exact absurd rfl h9
      have k7I : ¬ x.what < (5 : Int) := by omega
      obtain ⟨k, hk⟩ : ∃ k, x.pw.tmod 30 = k := ⟨_, rfl⟩
      have hk1 : -30 < k ∧ k < 30 := by
        have a := Int.lt_tmod_of_pos x.pw (show (0 : Int) < 30 by decide)
        have b := Int.tmod_lt_of_pos x.pw (show (0 : Int) < 30 by decide)
        rw [hk] at a b
        exact ⟨by omega, b⟩
      obtain ⟨a, ha⟩ : ∃ a : Nat, max (1 : Int) k = (a : Int) := ⟨(max (1 : Int) k).toNat, by omega⟩
      have ha1 : a ≤ 1000 := by omega
      replace hk : Hid _ := hk
      have hpw := power_face j' p kb mb n a lo lc ml N w4 H4.ok ha1
      replace hpw : Hid _ := hpw
      clear hst
      go_wp2_with (first
        | (refine wpList_val (.int .i64 k) (by rfl) (run_rem_int _ _ _ _ rfl x.pw 30 k rfl rfl (by decide) (by decide) hk.out) ?_)
        | fail)
      refine Calls.mono hpw.out ?_
      rintro e w5 ⟨rfl, H5, hb5⟩
      have hpF : ∀ g, ¬ FJ j' p kb mb lo g → g ≠ p := fun g hg hgp => hg (.inr (.inl (.inl hgp)))
      have hX5 : Has w5 wr.heap.size 33 (stepL x).toArray := hb5.has hX.out (hpF _ hgF)
      have hbel5 : Below w.heap.size w w5 := H4.below.trans ((OffF.but hb5).below (fun k hk => by rw [hk]; exact H4.new _ (.inr (.inl (.inl rfl)))) hsw)
      have hx5 := hx0.later hbel5
      have hm5 : Strs w5 mo mc ml := hm4.same (fun ad had => hb5.block _ (hmF4 ad had).1 (hpF _ (hmF4 ad had).2))
      have hmF5 : ∀ ad, mo = some ad → ad.block < w5.heap.size ∧ ¬ FJ j' p kb mb lo ad.block := fun ad had => ⟨Nat.lt_of_lt_of_le (hmF4 ad had).1 hb5.size, (hmF4 ad had).2⟩
      have hxF5 : x.l ≠ [] → ∀ ad, x.lo = some ad → ad.block < w5.heap.size ∧ ¬ FJ j' p kb mb lo ad.block := fun hne ad had => ⟨Nat.lt_of_lt_of_le (hxF hne ad had).1 hb5.size, (hxF hne ad had).2⟩
      have hsw5 : w.heap.size ≤ w5.heap.size := hbel5.size
      have hca := call_any j' p kb mb n a lo lc ml N x mo mc w5 H5 (by omega) hx5 g1 g2 (by rw [hT.out]; exact g3) hm5 hn67 hxF5
      rw [hB.out] at hca
      replace hca : Hid _ := hca
      replace hX5 : Hid (Has w5 wr.heap.size 33 (stepL x).toArray) := hX5
      clear c0 c1 c2 c3 c4 hpw hx4 hxF ha hBI
      go_wp2_with (first
        | (refine wpList_load_has (by rfl) 33 _ rfl wr.heap.size rfl 33 (stepL x).toArray _ Tryz.underlying33 rfl (step_size x) ?hg ?_; (case hg => exact hX5.out))
        | fail)
      refine Calls.mono hca.out ?_
      rintro e w6 ⟨f, no, nc, mu, mn, rfl, hC⟩
      have hX6 : Has w6 wr.heap.size 33 (stepL x).toArray := hC.off.has hX5.out hgF
      have c0 : w6.cell? ⟨wr.heap.size, 0, none⟩ = some (.int .i64 x.what) := (hX6.cell 0).trans rfl
      have c4 : w6.cell? ⟨wr.heap.size, 4, none⟩ = some (.slice x.co x.cs.length x.cc) := (hX6.cell 4).trans rfl
      have c3 : True := trivial
      have hS6 := hC.strs
      have hlies := hC.lies
      have hoff := hC.off
      have hsz6 : w5.heap.size ≤ w6.heap.size := hoff.size
      have hbel6 : Below w.heap.size w w6 := hbel5.trans (hoff.below H4.new hsw5)
      have htold := hC.told
      have hm6 : Strs w6 mo mc ml := hm5.same (fun ad had => hoff.block _ (hmF5 ad had).1 (hmF5 ad had).2)
      have hmF6 : ∀ ad, mo = some ad → ad.block < w6.heap.size ∧ ¬ DF p kb mb ad.block := fun ad had => ⟨Nat.lt_of_lt_of_le (hmF5 ad had).1 hsz6, fun hf => (hmF5 ad had).2 (.inr (.inl hf))⟩
      have hnF6 : ∀ ad, no = some ad → ad.block < w6.heap.size ∧ ¬ DF p kb mb ad.block := fun ad had => ⟨(hlies ad had).2, fun hf => by have := H5.lt _ (.inr (.inl hf)); have := (hlies ad had).1; omega⟩
      obtain ⟨nw, hnw⟩ : ∃ k, nowM x ml = k := ⟨_, rfl⟩
      rw [hnw] at htold hS6 ⊢
      have hnc := hS6.cap
      have hnl := hS6.le
      have hjF : ∀ k, DF p kb mb k → k ≠ j' := by
        obtain ⟨D0, h0, J0, _⟩ := H5.ok
        exact fun k hk hkj => J0.jF (hkj ▸ hk)
      clear hC hX5 hca
      rcases htold with ⟨rfl, rfl, lo6, lc6, left6, hl6, H6, hF6, hno6⟩ | ⟨rfl, rfl, H6⟩ | ⟨rfl, hl6, hc6, h6, hJ6⟩
      · have hcut := H6.cut
        clear H6 hF6
        go_wp2_with fail
        refine (crash_ne w p kb mb n (fun E => GoodL n E nw (N + 1)) x.co x.cs.length x.cc x.cs w6 hcut (fun k hk => H4.new k (.inr (.inl hk))) hbel6 hx0.cs rfl).mono ?_
        rintro e w8 ⟨rfl, E, hE, H8, ho8⟩
        have hs8 : Strs w8 no nc nw := (hS6).same (fun ad had => ho8.block _ (hnF6 ad had).1 (hnF6 ad had).2)
        have hne8 : w5.heap.size ≤ w8.heap.size := Nat.le_trans hsz6 ho8.size
        clear c0 c3 c4
        go_wp2_with fail
        refine (open_on w p kb mb n E nw (N + 1) w8 H8 hE).mono ?_
        rintro e w9 ⟨j9, lo9, lc9, bo, bc, rfl, H9, hF9, hS9, hb9, hq9⟩
        have hs9 := hs8.later hq9
        have htx := texts_any bo no bc nc nw nw w9 hS9 hs9
        replace htx : Hid _ := htx
        have hbc := hS9.le
        have hbc2 := hS9.cap
        go_wp2_with fail
        refine Calls.mono htx.out ?_
        rintro e w10 ⟨rfl, hb10⟩
        simp only [decide_true]
        have H10 := H9.later hb10
        have hS10 := hS9.later hb10
        have hF10 : ∀ ad, bo = some ad → ad.block < w10.heap.size ∧ ¬ FJ j9 p kb mb lo9 ad.block := fun ad had => ⟨Nat.lt_of_lt_of_le (hb9 ad had).2.1 hb10.size, (hb9 ad had).2.2⟩
        clear htx hb10 H9 hS9 hs9 hs8
        go_wp2_with fail
        go_roundw
        case rel => exact ⟨q + 1, N + 1, j9, lo9, lc9, nw, bo, bc, by omega, by omega, by go_num, rfl, rfl, H10, hS10, hF10⟩
        case measure => simp [intOf]; omega
      · have hcut := H6.cut
        clear H6
        go_wp2_with fail
        refine (crash_ne w p kb mb n (fun E => GoodL n E ml N) x.co x.cs.length x.cc x.cs w6 hcut (fun k hk => H4.new k (.inr (.inl hk))) hbel6 hx0.cs rfl).mono ?_
        rintro e w8 ⟨rfl, E, hE, H8, ho8⟩
        have hs8 : Strs w8 mo mc ml := (hm6).same (fun ad had => ho8.block _ (hmF6 ad had).1 (hmF6 ad had).2)
        have hne8 : w5.heap.size ≤ w8.heap.size := Nat.le_trans hsz6 ho8.size
        clear c0 c3 c4
        go_wp2_with fail
        refine (open_on w p kb mb n E ml (N) w8 H8 hE).mono ?_
        rintro e w9 ⟨j9, lo9, lc9, bo, bc, rfl, H9, hF9, hS9, hb9, hq9⟩
        have hs9 := hs8.later hq9
        have htx := texts_any bo mo bc mc ml ml w9 hS9 hs9
        replace htx : Hid _ := htx
        have hbc := hS9.le
        have hbc2 := hS9.cap
        go_wp2_with fail
        refine Calls.mono htx.out ?_
        rintro e w10 ⟨rfl, hb10⟩
        simp only [decide_true]
        have H10 := H9.later hb10
        have hS10 := hS9.later hb10
        have hF10 : ∀ ad, bo = some ad → ad.block < w10.heap.size ∧ ¬ FJ j9 p kb mb lo9 ad.block := fun ad had => ⟨Nat.lt_of_lt_of_le (hb9 ad had).2.1 hb10.size, (hb9 ad had).2.2⟩
        clear htx hb10 H9 hS9 hs9 hs8
        go_wp2_with fail
        go_roundw
        case rel => exact ⟨q + 1, N, j9, lo9, lc9, ml, bo, bc, by omega, by omega, by go_num, rfl, rfl, H10, hS10, hF10⟩
        case measure => simp [intOf]; omega
      · have hpw6 : Has w6 j' 53 (jnlC p h6 lo ml.length lc true) := hJ6
        have hbk := jbroken_any j' p h6 lo ml.length lc true w6 hJ6
        have hab := append_broken j' p ml.length lc h6 lo [120] w6 hJ6
        replace hab : Calls Tryz.prog 15 #[.pointer (some ⟨j', 0, none⟩), .string { data := #[120] }] w6 _ := hab
        replace hbk : Hid _ := hbk
        replace hab : Hid _ := hab
        go_wp2_with fail
        refine Calls.mono hbk.out ?_
        rintro e w7 ⟨rfl, h9⟩
        have h9' := h9.symm; subst h9'
        clear h9 hbk
        go_wp2_with fail
        refine Calls.mono hab.out ?_
        rintro e w7 ⟨rfl, hJ7, hb7⟩
        have hgj : wr.heap.size ≠ j' := fun z => hgF (.inl z)
        have hX7 : Has w7 wr.heap.size 33 (stepL x).toArray := hb7.has hX6 hgj
        clear c0 c4 hX6
        have c0 : w7.cell? ⟨wr.heap.size, 0, none⟩ = some (.int .i64 x.what) := (hX7.cell 0).trans rfl
        have c4 : w7.cell? ⟨wr.heap.size, 4, none⟩ = some (.slice x.co x.cs.length x.cc) := (hX7.cell 4).trans rfl
        obtain ⟨d6, hd6, hp6, hE6⟩ := hc6
        have hcut : DCut w7 p kb mb n (fun E => GoodL n E ml (N + 1) ∨ GoodL n E nw (N + 1)) := ⟨d6, hd6.offs (OffF.but hb7) (fun z => hjF p (.inl rfl) z) (fun z => hjF kb (.inr (.inl rfl)) z) (fun z => hjF mb (.inr (.inr rfl)) z), hp6, hE6⟩
        have hbel7 : Below w.heap.size w w7 := hbel6.trans ((OffF.but hb7).below (fun k hk => by rw [hk]; exact H4.new _ (.inl rfl)) (Nat.le_trans hsw5 hsz6))
        have hm7 : Strs w7 mo mc ml := hm6.same (fun ad had => hb7.block _ (hmF6 ad had).1 (fun z => (hmF5 ad had).2 (.inl z)))
        have hn7 : Strs w7 no nc nw := hS6.same (fun ad had => hb7.block _ (hnF6 ad had).1 (fun z => by have := H5.lt _ (.inl rfl); have := (hlies ad had).1; omega))
        have hmF7 : ∀ ad, mo = some ad → ad.block < w7.heap.size ∧ ¬ DF p kb mb ad.block := fun ad had => ⟨Nat.lt_of_lt_of_le (hmF6 ad had).1 hb7.size, (hmF6 ad had).2⟩
        have hnF7 : ∀ ad, no = some ad → ad.block < w7.heap.size ∧ ¬ DF p kb mb ad.block := fun ad had => ⟨Nat.lt_of_lt_of_le (hnF6 ad had).1 hb7.size, (hnF6 ad had).2⟩
        clear hJ6 hpw6 hJ7 hab hX7 hd6 hE6 hS6 hm6
        go_wp2_with fail
        refine (crash_ne w p kb mb n (fun E => GoodL n E ml (N + 1) ∨ GoodL n E nw (N + 1)) x.co x.cs.length x.cc x.cs w7 hcut (fun k hk => H4.new k (.inr (.inl hk))) hbel7 hx0.cs rfl).mono ?_
        rintro e w8 ⟨rfl, E, hE, H8, ho8⟩
        have hs8 : Strs w8 mo mc ml := hm7.same (fun ad had => ho8.block _ (hmF7 ad had).1 (hmF7 ad had).2)
        have hn8 : Strs w8 no nc nw := hn7.same (fun ad had => ho8.block _ (hnF7 ad had).1 (hnF7 ad had).2)
        clear hm7 hn7 hcut
        rcases hE with hE | hE
        · clear c0 c3 c4
          go_wp2_with fail
          refine (open_on w p kb mb n E ml (N + 1) w8 H8 hE).mono ?_
          rintro e w9 ⟨j9, lo9, lc9, bo, bc, rfl, H9, hF9, hS9, hb9, hq9⟩
          have hs9 := hs8.later hq9
          have htx := texts_any bo mo bc mc ml ml w9 hS9 hs9
          replace htx : Hid _ := htx
          have hbc := hS9.le
          have hbc2 := hS9.cap
          go_wp2_with fail
          refine Calls.mono htx.out ?_
          rintro e w10 ⟨rfl, hb10⟩
          simp only [decide_true]
          have H10 := H9.later hb10
          have hS10 := hS9.later hb10
          have hF10 : ∀ ad, bo = some ad → ad.block < w10.heap.size ∧ ¬ FJ j9 p kb mb lo9 ad.block := fun ad had => ⟨Nat.lt_of_lt_of_le (hb9 ad had).2.1 hb10.size, (hb9 ad had).2.2⟩
          clear htx hb10 H9 hS9 hs9 hs8
          go_wp2_with fail
          go_roundw
          case rel => exact ⟨q + 1, N + 1, j9, lo9, lc9, ml, bo, bc, by omega, by omega, by go_num, rfl, rfl, H10, hS10, hF10⟩
          case measure => simp [intOf]; omega
        · have hE : GoodL n E nw (N + 1) := hE
          clear c0 c3 c4
          go_wp2_with fail
          refine (open_on w p kb mb n E nw (N + 1) w8 H8 hE).mono ?_
          rintro e w9 ⟨j9, lo9, lc9, bo, bc, rfl, H9, hF9, hS9, hb9, hq9⟩
          have hs9 := hs8.later hq9
          have htx := texts_any bo mo bc mc nw ml w9 hS9 hs9
          replace htx : Hid _ := htx
          have hbc := hS9.le
          have hbc2 := hS9.cap
          have hn9 := hn8.later hq9
          clear hn8
          by_cases hnl : nw = ml
          · rw [decide_eq_true hnl] at htx
            clear hn9 hnl hnw
            go_wp2_with fail
            refine Calls.mono htx.out ?_
            rintro e w10 ⟨rfl, hb10⟩
            have H10 := H9.later hb10
            have hS10 := hS9.later hb10
            have hF10 : ∀ ad, bo = some ad → ad.block < w10.heap.size ∧ ¬ FJ j9 p kb mb lo9 ad.block := fun ad had => ⟨Nat.lt_of_lt_of_le (hb9 ad had).2.1 hb10.size, (hb9 ad had).2.2⟩
            clear htx hb10 H9 hS9 hs9 hs8
            go_wp2_with fail
            go_roundw
            case rel => exact ⟨q + 1, N + 1, j9, lo9, lc9, nw, bo, bc, by omega, by omega, by go_num, rfl, rfl, H10, hS10, hF10⟩
            case measure => simp [intOf]; omega
          · rw [decide_eq_false hnl] at htx
            clear hnl hnw
            go_wp2_with fail
            refine Calls.mono htx.out ?_
            rintro e w10 ⟨rfl, hb10⟩
            have H10' := H9.later hb10
            have hS10' := hS9.later hb10
            have htx2 := texts_any bo no bc nc nw nw w10 hS10' (hn9.later hb10)
            replace htx2 : Hid _ := htx2
            clear htx H9 hS9 hs9 hn9 hs8
            go_wp2_with fail
            refine Calls.mono htx2.out ?_
            rintro e w11 ⟨rfl, hb11⟩
            simp only [decide_true]
            have H11 := H10'.later hb11
            have hS11 := hS10'.later hb11
            have hF11 : ∀ ad, bo = some ad → ad.block < w11.heap.size ∧ ¬ FJ j9 p kb mb lo9 ad.block := fun ad had => ⟨Nat.lt_of_lt_of_le (hb9 ad had).2.1 (Nat.le_trans hb10.size hb11.size), (hb9 ad had).2.2⟩
            clear htx2 hb10 hb11 H10' hS10'
            go_wp2_with fail
            go_roundw
            case rel => exact ⟨q + 1, N + 1, j9, lo9, lc9, nw, bo, bc, by omega, by omega, by go_num, rfl, rfl, H11, hS11, hF11⟩
            case measure => simp [intOf]; omega
end Go.Proofs.YtlalfagafbpkiaaGreat
