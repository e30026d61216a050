/- paddocklaw5.HistorySame returns true, for whatever rows of increments and of epochs, where package history answers as it has to. -/
import Derived.Test.YtmfgmdglpeadbaaIvSame
import Derived.Test.YtmfgmdglpeadbaaMapsFold
import Derived.Test.YtmfgmdglpeadbaaPackMaps
import Derived.Test.YtmfgmdglpeadbaaPackTools
namespace Go.Proofs.Ytmfgmdglpeadbaa
set_option linter.unusedSimpArgs false
set_option linter.unusedVariables false
open Go.RowKit

theorem takeH_max (l : List IncV) (i : Nat) : (takeH l i).length ≤ i := by
  induction i with
  | zero => exact Nat.le_refl _
  | succ i ih =>
    by_cases h : i < l.length
    · rw [takeH_succ h]
      rcases add_next (takeH l i) l[i] with ⟨e, _⟩ | ⟨e, _⟩
      · rw [e]; simp; omega
      · rw [e]; show (takeH l i).length ≤ i + 1; omega
    · have : takeH l (i + 1) = takeH l i := by
        unfold takeH
        rw [List.take_of_length_le (by omega), List.take_of_length_le (by omega)]
      rw [this]; omega

def byteR (os : List Nat) : List (List Value) := os.map fun x => [.int .u8 (x : Nat)]

theorem byteR_len (os : List Nat) : (byteR os).length = os.length := by unfold byteR; rw [List.length_map]

theorem byteR_at {w : World} {ad : Addr} {c : Nat} {os : List Nat} (h : Sl w (some ad) c 1 (byteR os)) (i : Nat) (hi : i < os.length) : w.cell? (ad.add i) = some (.int .u8 (os[i] : Nat)) := by
  have h0 := h.at' ad rfl i (by rw [byteR_len]; exact hi) 0 (by decide)
  unfold byteR at h0
  rw [List.getElem_map, Nat.mul_one, Nat.add_zero] at h0
  exact h0

/-- What a history that has a prefix makes of an increment of the whole. -/
theorem add_part {xs : List IncV} (hg : Good xs) {k j : Nat} (hk : k ≤ xs.length) (hj : j < xs.length) :
    (j < k ∧ addH (xs.take k) (j + 2) xs[j] = (51, xs.take k)) ∨ (k < j ∧ addH (xs.take k) (j + 2) xs[j] = (50, xs.take k)) ∨ (j = k ∧ addH (xs.take k) (j + 2) xs[j] = (0, xs.take (k + 1))) := by
  have hl : (xs.take k).length = k := by rw [List.length_take]; omega
  rcases Nat.lt_trichotomy j k with h | h | h
  · exact .inl ⟨h, addH_old (by omega)⟩
  · subst h
    refine .inr (.inr ⟨rfl, ?_⟩)
    have hm : mapH (xs.take j) (xs.take j).length = mapH xs j := by
      rw [hl]
      unfold mapH
      rw [List.take_take, Nat.min_self]
    rw [addH_yes (by omega) (by rw [hm]; exact (hg j hj).1), List.take_succ_eq_append_getElem hj]
  · exact .inr (.inl ⟨h, addH_gap (by omega)⟩)

set_option maxRecDepth 100000 in
set_option maxHeartbeats 8000000 in
theorem hsame_walk {Is : World → Nat → List IncV → (Nat → Prop) → Prop} (S : HistSpec Is) (ao oo : Option Addr) (c oc : Nat) (l : List IncV) (os : List Nat) (w : World) (hS : Sl w ao c 3 (incR l)) (hl : ∀ x ∈ l, IncOk x) (hO : Sl w oo oc 1 (byteR os)) (ho : ∀ x ∈ os, x < 256) :
    Calls Try.prog 5 #[.slice ao l.length c, .slice oo os.length oc] w fun e w' => e = .returned (.bool true) ∧ Below w.heap.size w w' := by
  obtain ⟨i0, hi, hz0, hz1, hz2⟩ := info_parts Try.infoIncH
  have hcap := hS.cap
  have hle := hS.le
  rw [incR_len] at hle
  have ocap := hO.cap
  have ole := hO.le
  rw [byteR_len] at ole
  by_cases h20 : 20 < l.length
  · have h20' : (20 : Int) < (l.length : Int) := by omega
    go_enter Try.func5, Try.ntmps5
    go_wp2_with (first
      | (go_at_call 9; refine (hknown_any S _).mono ?_; rintro e w1 ⟨rfl, hb⟩))
    go_ret
    exact ⟨rfl, hb⟩
  · have h20' : (l.length : Int) ≤ 20 := by omega
    by_cases h60 : 60 < os.length
    · have h60' : (60 : Int) < (os.length : Int) := by omega
      go_enter Try.func5, Try.ntmps5
      go_wp2_with (first
        | (go_at_call 9; refine (hknown_any S _).mono ?_; rintro e w1 ⟨rfl, hb⟩))
      go_ret
      exact ⟨rfl, hb⟩
    · have h60' : (os.length : Int) ≤ 60 := by omega
      go_enter Try.func5, Try.ntmps5
      go_wp2_with (first
        | (go_at_call 9; refine (hknown_any S _).mono ?_; rintro e w1 ⟨rfl, hb⟩))
      refine (S.new _).mono ?_
      rintro e w2 ⟨p, F, rfl, hH, hF0, hq⟩
      have hF : ∀ b, F b → w.heap.size ≤ b := fun b h => Nat.le_trans hb.size (hF0 b h)
      replace hb := hb.trans (hq.mono hb.size)
      clear hq hF0
      have hpt : ptr p = .pointer (some ⟨p, 0, none⟩) := rfl
      rw [hpt]
      go_wp2_with fail
      refine (S.new _).mono ?_
      rintro e w3 ⟨p2, G, rfl, hC, hG0, hq⟩
      have hdis : ∀ b, G b → ¬ F b := fun b h1 h2 => by have := S.lt hH b h2; have := hG0 b h1; omega
      have hG : ∀ b, G b → w.heap.size ≤ b := fun b h => Nat.le_trans hb.size (hG0 b h)
      replace hH := S.later hH hq
      replace hb := hb.trans (hq.mono hb.size)
      clear hq hG0
      have hpt2 : ptr p2 = .pointer (some ⟨p2, 0, none⟩) := rfl
      rw [hpt2]
      go_wp2
      go_loopw [7] (fun i wr => ∃ (n : Nat) (F : Nat → Prop), n ≤ l.length ∧ i = .int .i64 n ∧ Is wr p (takeH l n) F ∧ Is wr p2 [] G ∧ (∀ b, G b → ¬ F b) ∧ (∀ b, F b → w.heap.size ≤ b) ∧ Below w.heap.size w wr) (fun i _ => l.length - (intOf i).toNat)
      case atStart => exact ⟨0, F, Nat.zero_le _, rfl, hH, hC, hdis, hF, hb⟩
      case round =>
        clear hH hF hb hC hdis
        obtain ⟨n, F1, hn, rfl, hH, hC, hdis, hF, hb⟩ := hrel
        by_cases hlt : n < l.length
        · have hnI : (n : Int) < (l.length : Int) := by omega
          have hxn := hl l[n] (List.getElem_mem hlt)
          have hts : Hid _ := takeH_succ hlt
          have hln := takeH_max l n
          cases ao with
          | none => have h1 := hS.nil rfl; omega
          | some ad =>
            have hci : ∀ W, Below w.heap.size w W → ∀ j v, (incC l[n]).toList[j]? = some v → W.cell? ((ad.add (n * 3)).add j) = some v := fun W hW => incR_at (hS.later hW) n hlt
            generalize l[n] = x at *
            generalize takeH l n = xs at *
            obtain ⟨m, hm⟩ : ∃ m, m = xs.length + 1 := ⟨_, rfl⟩
            have hm' : Hid (m = xs.length + 1) := hm
            have hmb : m < 1000 := by omega
            have hraw : Hid _ := u32_next hmb
            have hlast := fun {w} (h : Is w p xs F1) => S.last h
            rw [← hm] at hlast
            have hadd := fun {w} (h : Is w p xs F1) => S.add (m + 1) x h (by omega) hxn
            rw [show m + 1 = xs.length + 2 by omega] at hadd
            have hmi : ((xs.length + 2 : Nat) : Int) = ((m + 1 : Nat) : Int) := by omega
            rw [hmi] at hadd
            clear hm hmi
            go_wp2
            refine wp_region_plan (fun W => Below w.heap.size w W) (Plan.of [(0, true), (1, true), (4, true), (5, true), (6, true), (7, true), (2, false), (3, true), (8, false)] .done) (by kernel_rfl) (by kernel_rfl) (by kernel_rfl) (by kernel_rfl) hb.drew ?_
            iterate 5
              first
                | (refine plan_pass _ rfl (by rfl) ?_)
                | (refine plan_take _ _ rfl (.inl ⟨by rfl, fun W hS => by clear hS; go_simp; try with_reducible rfl⟩) ?_)
              try simp only [Act.put, List.setIfInBounds_toArray, List.set_cons_zero, List.set_cons_succ]
            refine plan_take _ _ rfl (yields_inc_at x (by rfl) _ rfl (ad.add (n * 3)) rfl hci) ?_
            try simp only [Act.put, List.setIfInBounds_toArray, List.set_cons_zero, List.set_cons_succ]
            refine plan_run _ rfl (fun K hK => ?_)
            go_simp
            have hH2 := S.drewN hH 1
            have hC2 := S.drewN hC 1
            refine (hlast hH2).mono ?_
            rintro e w3 ⟨rfl, hq⟩
            replace hH2 := S.later hH2 hq
            replace hC2 := S.later hC2 hq
            have hb2 := hb.drew.trans (hq.mono hb.size)
            refine hK.out _ _ hb2 ?_
            clear hK K hq hH hb hC
            first
              | (refine plan_pass _ rfl (by rfl) ?_)
              | (refine plan_take _ _ rfl (.inl ⟨by rfl, fun W hS => by clear hS; go_simp; try with_reducible rfl⟩) ?_)
            try simp only [Act.put, List.setIfInBounds_toArray, List.set_cons_zero, List.set_cons_succ]
            refine plan_run _ rfl (fun K hK => ?_)
            go_simp
            rw [hraw.out]
            refine (hadd hH2).mono ?_
            rintro e w4 ⟨rfl, ⟨F2, hH3, hF2⟩, hoff⟩
            have hC3 := S.off hC2 hoff hdis
            have hdis2 : ∀ b, G b → ¬ F2 b := fun b h1 h2 => by
              rcases hF2 b h2 with h | h
              · exact hdis b h1 h
              · have := S.lt hC2 b h1; omega
            obtain ⟨hb3, hF3⟩ := off_step hb2 hF hoff hF2
            refine hK.out _ _ hb3 ?_
            clear hK K hoff hH2 hF hF2 hb2 hlast hadd hdis hC2
            refine plan_done ?_
            rw [← hts.out] at hH3
            go_wp2
            go_roundw
            case rel => exact ⟨n + 1, F2, by omega, by go_num, hH3, hC3, hdis2, hF3, hb3⟩
            case measure => simp [intOf]; omega
        · have e5 : n = l.length := by omega
          subst e5
          have hgood := S.good hH
          have hln := takeH_max l l.length
          generalize takeH l l.length = xs at *
          obtain ⟨N, hN⟩ : ∃ N, N = xs.length := ⟨_, rfl⟩
          have hN' : Hid (N = xs.length) := hN
          have hNb : N ≤ 20 := by omega
          have hNI : (N : Int) ≤ 20 := by omega
          have hlA := fun {w} (h : Is w p xs F1) => S.last h
          rw [← hN] at hlA
          have hlB : ∀ {w k G}, k ≤ N → Is w p2 (xs.take k) G → Calls Try.prog _ #[ptr p2] w fun en w' => en = .returned (.int .u32 (k + 1 : Nat)) ∧ Below w.heap.size w w' := fun {w k G} hk h => by
            have := S.last h
            rw [List.length_take, Nat.min_eq_left (by omega)] at this
            exact this
          have hiA : ∀ {w} j (hj : j < xs.length), Is w p xs F1 → Calls Try.prog _ #[ptr p, .int .u32 (j + 2 : Nat)] w fun en w' => en = .returned (.tuple #[.agg (incC xs[j]), .bool true]) ∧ Below w.heap.size w w' := fun {w} j hj h => by
            have := S.inc (j + 2) h (by omega)
            rw [incE_yes hj] at this
            exact this
          have hxsN : xs.length ≤ 20 := by omega
          have hpart : Hid (∀ k j (hk : k ≤ xs.length) (hj : j < xs.length), _) := fun k j hk hj => add_part hgood (k := k) (j := j) hk hj
          have hincs : Hid (∀ j (hj : j < xs.length), IncOk xs[j]) := fun j hj => (hgood j hj).2
          clear hN
          go_wp2
          go_loopw [8] (fun i wr => ∃ (n k : Nat) (G : Nat → Prop), n ≤ os.length ∧ k ≤ N ∧ i = .int .i64 n ∧ Is wr p xs F1 ∧ Is wr p2 (xs.take k) G ∧ (∀ b, G b → ¬ F1 b) ∧ (∀ b, G b → w.heap.size ≤ b) ∧ Below w.heap.size w wr) (fun i _ => os.length - (intOf i).toNat)
          case atStart => exact ⟨0, 0, G, Nat.zero_le _, Nat.zero_le _, rfl, hH, hC, hdis, hG, hb⟩
          case round =>
            clear hH hC hdis hG hb
            obtain ⟨n, k, G1, hn, hk, rfl, hH, hC, hdis, hG, hb⟩ := hrel
            by_cases hlt2 : n < os.length
            · have hnI : (n : Int) < (os.length : Int) := by omega
              go_wp2_with fail
              refine (hlA hH).mono ?_
              rintro e w4 ⟨rfl, hq⟩
              replace hH := S.later hH hq
              replace hC := S.later hC hq
              replace hb := hb.trans (hq.mono hb.size)
              clear hq
              by_cases hN0 : N = 0
              · have hN1 : (N : Int) + 1 ≤ 1 := by omega
                have hN0h : Hid (N = 0) := hN0
                clear hN0
                go_wp2_with fail
                clear hN1
                refine (hlB hk hC).mono ?_
                rintro e w10 ⟨rfl, hq⟩
                replace hH := S.later hH hq
                replace hC := S.later hC hq
                replace hb := hb.trans (hq.mono hb.size)
                clear hq
                go_wp2
                go_loopw [14] (fun i wr => ∃ (j : Nat) (G : Nat → Prop), j ≤ N ∧ i = .int .u32 (j + 2 : Nat) ∧ Is wr p xs F1 ∧ Is wr p2 (xs.take j) G ∧ (∀ b, G b → ¬ F1 b) ∧ (∀ b, G b → w.heap.size ≤ b) ∧ Below w.heap.size w wr) (fun i _ => (30 - intOf i).toNat)
                case atStart => exact ⟨k, G1, hk, rfl, hH, hC, hdis, hG, hb⟩
                case round =>
                  clear hH hC hdis hG hb
                  obtain ⟨j, G3, hj, rfl, hH, hC, hdis, hG, hb⟩ := hrel
                  go_wp2_with fail
                  refine (hlA hH).mono ?_
                  rintro e w11 ⟨rfl, hq⟩
                  replace hH := S.later hH hq
                  replace hC := S.later hC hq
                  replace hb := hb.trans (hq.mono hb.size)
                  clear hq
                  by_cases hjN : j < N
                  · exact absurd hjN (by have := hN0h.out; omega)
                  · have hjI : (N : Int) ≤ (j : Int) := by omega
                    have ejN : j = N := by omega
                    have htk : xs.take j = xs := List.take_of_length_le (by have := hN'.out; omega)
                    rw [htk] at hC
                    clear htk ejN
                    have hlast2 := fun {w} (h : Is w p2 xs G3) => S.last h
                    have hmapA := fun {w} (h : Is w p xs F1) => S.map (N + 1) h (by omega)
                    have hmapB := fun {w} (h : Is w p2 xs G3) => S.map (N + 1) h (by omega)
                    have hme : mapE xs (N + 1) = (mapH xs N, true) := by rw [mapE_yes ⟨by omega, by have := hN'.out; omega⟩, Nat.add_sub_cancel]
                    rw [hme] at hmapA hmapB
                    rw [← hN'.out] at hlast2
                    have hMok := okH hgood N (by have := hN'.out; omega)
                    have hfold : foldM xs = (mapH xs N, true) := by rw [foldM_good hgood, ← hN'.out]
                    have hss : sameM (mapH xs N) (mapH xs N) = true := (sameM_is _ _).2 rfl
                    generalize mapH xs N = M at *
                    clear hme
                    go_wp2_with fail
                    refine (hlA hH).mono ?_
                    rintro e w12 ⟨rfl, hq⟩
                    replace hH := S.later hH hq
                    replace hC := S.later hC hq
                    replace hb := hb.trans (hq.mono hb.size)
                    clear hq
                    go_wp2_with fail
                    refine (hmapA hH).mono ?_
                    rintro e w13 ⟨rfl, hq⟩
                    replace hH := S.later hH hq
                    replace hC := S.later hC hq
                    replace hb := hb.trans (hq.mono hb.size)
                    clear hq hmapA
                    have hM1 := (Has.new w13 44 (mapC zeroM)).row (mapC M)
                    have hbb := below_setRow ((Below.refl w13.heap.size w13).alloc (Nat.le_refl _) (.cells (mapC zeroM) 44)) (Nat.le_refl _) (mapC M)
                    replace hH := S.later hH hbb
                    replace hC := S.later hC hbb
                    replace hb := hb.trans (hbb.mono hb.size)
                    clear hbb
                    go_wp2_with (first
                      | (refine alloc_map (by rfl) rfl ?_)
                      | (refine store_map M zeroM (by rfl) _ _ rfl _ rfl rfl ?hg ?_; (case hg => exact Has.new _ _ _); generalize (w13.alloc (.cells (mapC zeroM) 44)).setRow w13.heap.size (mapC M) = w14 at *))
                    refine (hlast2 hC).mono ?_
                    rintro e w15 ⟨rfl, hq⟩
                    replace hH := S.later hH hq
                    replace hC := S.later hC hq
                    replace hM1 := hM1.later hq
                    replace hb := hb.trans (hq.mono hb.size)
                    clear hq hlast2
                    go_wp2_with fail
                    refine (hmapB hC).mono ?_
                    rintro e w16 ⟨rfl, hq⟩
                    replace hH := S.later hH hq
                    replace hC := S.later hC hq
                    replace hM1 := hM1.later hq
                    replace hb := hb.trans (hq.mono hb.size)
                    clear hq hmapB
                    have hM2 := (Has.new w16 44 (mapC zeroM)).row (mapC M)
                    have hbb := below_setRow ((Below.refl w16.heap.size w16).alloc (Nat.le_refl _) (.cells (mapC zeroM) 44)) (Nat.le_refl _) (mapC M)
                    replace hH := S.later hH hbb
                    replace hC := S.later hC hbb
                    replace hM1 := hM1.later hbb
                    replace hb := hb.trans (hbb.mono hb.size)
                    clear hbb
                    go_wp2_with (first
                      | (refine alloc_map (by rfl) rfl ?_)
                      | (refine store_map M zeroM (by rfl) _ _ rfl _ rfl rfl ?hg ?_; (case hg => exact Has.new _ _ _); generalize (w16.alloc (.cells (mapC zeroM) 44)).setRow w16.heap.size (mapC M) = w17 at *))
                    go_loopw [21, 22] (fun v i wr => ∃ j : Nat, j ≤ N ∧ i = .int .u32 (j + 2 : Nat) ∧ wr.ownsRow w17.heap.size 32 3 v (xs.take j).length (incR (xs.take j)).flatten ∧ Below w17.heap.size w17 wr) (fun _ i _ => (30 - intOf i).toNat)
                    case atStart => exact ⟨0, Nat.zero_le _, rfl, World.ownsRow_nil _ _ _ _, Below.refl _ _⟩
                    case round =>
                      obtain ⟨j2, hj2, rfl, hown, hbD⟩ := hrel
                      have hH3 := S.later hH hbD
                      go_wp2_with fail
                      refine (hlA hH3).mono ?_
                      rintro e w18 ⟨rfl, hq⟩
                      replace hown := own_below hown hq
                      replace hbD := hbD.trans (hq.mono hbD.size)
                      clear hq hH3
                      by_cases hjN2 : j2 < N
                      · exact absurd hjN2 (by have := hN0h.out; omega)
                      · have hjI2 : (N : Int) ≤ (j2 : Int) := by omega
                        have htk : xs.take j2 = xs := List.take_of_length_le (by have := hN'.out; omega)
                        rw [htk] at hown
                        obtain ⟨hzz, go, gc, rfl, hGd⟩ := inc_own hown
                        clear hzz htk hown
                        have hfo := fold_any go gc xs w18 hGd (fun x hx => by obtain ⟨i, hi, rfl⟩ := List.getElem_of_mem hx; exact hincs.out i hi) (by omega)
                        rw [hfold] at hfo
                        have hee : errI true = 0 := rfl
                        simp only [hee] at hfo
                        replace hH := S.later hH hbD
                        replace hC := S.later hC hbD
                        replace hM1 := hM1.later hbD
                        replace hM2 := hM2.later hbD
                        replace hb := hb.trans (hbD.mono hb.size)
                        clear hbD
                        go_wp2_with fail
                        refine hfo.mono ?_
                        rintro e w22 ⟨rfl, hq⟩
                        replace hH := S.later hH hq
                        replace hC := S.later hC hq
                        replace hM1 := hM1.later hq
                        replace hM2 := hM2.later hq
                        replace hb := hb.trans (hq.mono hb.size)
                        clear hq hfo hGd
                        have hM3 := (Has.new w22 44 (mapC zeroM)).row (mapC M)
                        have hbb := below_setRow ((Below.refl w22.heap.size w22).alloc (Nat.le_refl _) (.cells (mapC zeroM) 44)) (Nat.le_refl _) (mapC M)
                        replace hH := S.later hH hbb
                        replace hC := S.later hC hbb
                        replace hM1 := hM1.later hbb
                        replace hM2 := hM2.later hbb
                        replace hb := hb.trans (hbb.mono hb.size)
                        clear hbb
                        go_wp2_with (first
                          | (refine alloc_map (by rfl) rfl ?_)
                          | (refine store_map M zeroM (by rfl) _ _ rfl _ rfl rfl ?hg ?_; (case hg => exact Has.new _ _ _); generalize (w22.alloc (.cells (mapC zeroM) 44)).setRow w22.heap.size (mapC M) = w23 at *))
                        have hS6 : (Is w23 p xs F1 ∧ Is w23 p2 xs G3 ∧ Has w23 w13.heap.size 44 (mapC M) ∧ Has w23 w16.heap.size 44 (mapC M) ∧ Has w23 w22.heap.size 44 (mapC M) ∧ Below w.heap.size w w23) := ⟨hH, hC, hM1, hM2, hM3, hb⟩
                        have keep : ∀ W W' : World, (Is W p xs F1 ∧ Is W p2 xs G3 ∧ Has W w13.heap.size 44 (mapC M) ∧ Has W w16.heap.size 44 (mapC M) ∧ Has W w22.heap.size 44 (mapC M) ∧ Below w.heap.size w W) → Below W.heap.size W W' → (Is W' p xs F1 ∧ Is W' p2 xs G3 ∧ Has W' w13.heap.size 44 (mapC M) ∧ Has W' w16.heap.size 44 (mapC M) ∧ Has W' w22.heap.size 44 (mapC M) ∧ Below w.heap.size w W') :=
                          fun W W' h hq => ⟨S.later h.1 hq, S.later h.2.1 hq, h.2.2.1.later hq, h.2.2.2.1.later hq, h.2.2.2.2.1.later hq, h.2.2.2.2.2.trans (hq.mono h.2.2.2.2.2.size)⟩
                        have keepD : ∀ (W : World) (n : Nat), (Is W p xs F1 ∧ Is W p2 xs G3 ∧ Has W w13.heap.size 44 (mapC M) ∧ Has W w16.heap.size 44 (mapC M) ∧ Has W w22.heap.size 44 (mapC M) ∧ Below w.heap.size w W) → (Is (W.drewN n) p xs F1 ∧ Is (W.drewN n) p2 xs G3 ∧ Has (W.drewN n) w13.heap.size 44 (mapC M) ∧ Has (W.drewN n) w16.heap.size 44 (mapC M) ∧ Has (W.drewN n) w22.heap.size 44 (mapC M) ∧ Below w.heap.size w (W.drewN n)) :=
                          fun W n h => ⟨S.drewN h.1 n, S.drewN h.2.1 n, h.2.2.1.drewN n, h.2.2.2.1.drewN n, h.2.2.2.2.1.drewN n, ⟨h.2.2.2.2.2.os, h.2.2.2.2.2.tape, h.2.2.2.2.2.output, h.2.2.2.2.2.size, h.2.2.2.2.2.block⟩⟩
                        clear hH hC hM1 hM2 hM3 hb
                        go_loopw [27] (fun i wr => ∃ g : Nat, g ≤ 4 ∧ i = .int .u8 g ∧ Is wr p xs F1 ∧ Is wr p2 xs G3 ∧ Has wr w13.heap.size 44 (mapC M) ∧ Has wr w16.heap.size 44 (mapC M) ∧ Has wr w22.heap.size 44 (mapC M) ∧ Below w.heap.size w wr) (fun i _ => (4 - intOf i).toNat)
                        case atStart => exact ⟨0, by decide, rfl, hS6⟩
                        case round =>
                          clear hS6
                          obtain ⟨g, hg, rfl, hS6⟩ := hrel
                          by_cases hlt4 : g < 4
                          · have hgI : (g : Int) < 4 := by omega
                            have hvA := fun {w} (h : Is w p xs F1) => S.intervals g h (by omega)
                            have hvB := fun {w} (h : Is w p2 xs G3) => S.intervals g h (by omega)
                            generalize ivals xs g = V at *
                            go_wp2_with fail
                            refine (hvA hS6.1).mono ?_
                            rintro e w24 ⟨vo, vc, rfl, hV1, hq⟩
                            replace hS6 := keep _ _ hS6 hq
                            clear hq
                            go_wp2_with fail
                            refine (hvB hS6.2.1).mono ?_
                            rintro e w25 ⟨uo, uc, rfl, hV2, hq⟩
                            replace hS6 := keep _ _ hS6 hq
                            replace hV1 := hV1.later hq
                            clear hq
                            go_wp2_with fail
                            refine (ivs_same vo uo vc uc V w25 hV1 hV2).mono ?_
                            rintro e w26 ⟨rfl, nq, rfl⟩
                            replace hS6 := keepD _ nq hS6
                            clear hV1 hV2 hvA hvB
                            go_wp2
                            go_roundw
                            case rel => exact ⟨g + 1, by omega, by go_num, hS6⟩
                            case measure => simp [intOf]; omega
                          · have e4 : g = 4 := by omega
                            subst e4
                            rw [show ((4 : Nat) : Int) = 4 from rfl]
                            go_wp2_with (first
                              | (refine load_map M (by first | rfl | simp [Region.wanted, yielded]) _ rfl w13.heap.size rfl ?hg ?_; (case hg => exact hS6.2.2.1))
                              | (refine load_map M (by first | rfl | simp [Region.wanted, yielded]) _ rfl w16.heap.size rfl ?hg ?_; (case hg => exact hS6.2.2.2.1))
                              | (refine load_map M (by first | rfl | simp [Region.wanted, yielded]) _ rfl w22.heap.size rfl ?hg ?_; (case hg => exact hS6.2.2.2.2.1))
                              | (refine bin_map M M hMok hMok (by first | rfl | simp [Region.wanted, yielded]) _ _ _ rfl rfl rfl ?_; rw [hss]))
                            go_ret
                            exact ⟨rfl, hS6.2.2.2.2.2⟩
              · have hN1 : (1 : Int) < ((N + 1 : Nat) : Int) := by omega
                cases oo with
                | none => have h1 := hO.nil rfl; omega
                | some od =>
                  have co := byteR_at (hO.later hb) n hlt2
                  have hvb := ho os[n] (List.getElem_mem hlt2)
                  generalize os[n] = v at *
                  obtain ⟨r, hr⟩ : ∃ r, r = v % N := ⟨_, rfl⟩
                  have hrN : r < N := by rw [hr]; exact Nat.mod_lt _ (by omega)
                  have hmod : (v : Int).tmod (N : Int) = (r : Int) := by rw [hr]; rfl
                  have hw1 : IntKind.u32.wrap (N : Int) = (N : Int) := by
                    simp [IntKind.wrap, IntKind.bits, IntKind.signed]
                    omega
                  have hw2 : IntKind.u32.wrap (v : Int) = (v : Int) := by
                    simp [IntKind.wrap, IntKind.bits, IntKind.signed]
                    omega
                  have hw3 : Hid (IntKind.u32.wrap ((r : Int) + 2) = ((r + 2 : Nat) : Int)) := by
                    show _ = _
                    simp [IntKind.wrap, IntKind.bits, IntKind.signed]
                    omega
                  have hNz : ¬ ((N : Int) = 0) := by omega
                  clear hr
                  go_wp2
                  have hS5 : (w4.drew.cell? (od.add n) = some (.int .u8 v)) := co
                  refine wp_region_plan (fun W => W.cell? (od.add n) = some (.int .u8 v)) (Plan.of [(0, true), (1, true), (2, true), (3, true), (4, true), (5, true), (6, false), (7, true), (8, true), (9, true), (10, true)] .done) (by kernel_rfl) (by kernel_rfl) (by kernel_rfl) (by kernel_rfl) hS5 ?_
                  iterate 6
                    first
                      | (refine plan_pass _ rfl (by rfl) ?_)
                      | (refine plan_take _ _ rfl (.inl ⟨by rfl, fun W hS => by have z1 := hS; go_simp; try with_reducible rfl⟩) ?_)
                    try simp only [Act.put, List.setIfInBounds_toArray, List.set_cons_zero, List.set_cons_succ]
                  refine plan_run _ rfl (fun K hK => ?_)
                  go_simp
                  refine (hlA (S.drewN hH 1)).mono ?_
                  rintro e w5 ⟨rfl, hq⟩
                  replace hS5 : (w5.cell? (od.add n) = some (.int .u8 v)) := by rw [hq.cell (World.block_lt_of_cell? w4.drew _ hS5)]; exact hS5
                  replace hH := S.later (S.drewN hH 1) hq
                  replace hC := S.later (S.drewN hC 1) hq
                  replace hb := hb.drew.trans (hq.mono hb.size)
                  refine hK.out _ _ hS5 ?_
                  clear hK K hq
                  iterate 4
                    first
                      | (refine plan_pass _ rfl (by rfl) ?_)
                      | (refine plan_take _ _ rfl (.inl ⟨by rfl, fun W hS => by have z1 := hS; go_simp; try with_reducible rfl⟩) ?_)
                    try simp only [Act.put, List.setIfInBounds_toArray, List.set_cons_zero, List.set_cons_succ]
                  refine plan_done ?_
                  have hrx : r < xs.length := by have := hN'.out; omega
                  have hcase := hpart.out k r (by have := hN'.out; omega) hrx
                  have hir := hiA r hrx hH
                  have hxr := hincs.out r hrx
                  clear hS5 co hmod hw1 hw2 hNz hN0
                  generalize xs[r] = x at *
                  go_wp2_with fail
                  rw [hw3.out]
                  refine hir.mono ?_
                  rintro e w6 ⟨rfl, hq⟩
                  replace hH := S.later hH hq
                  replace hC := S.later hC hq
                  replace hb := hb.trans (hq.mono hb.size)
                  clear hq hir hw3
                  have hX := (Has.new w6 32 (incC ⟨0, 0, 0⟩)).row (incC x)
                  have hbb := below_setRow ((Below.refl w6.heap.size w6).alloc (Nat.le_refl _) (.cells (incC ⟨0, 0, 0⟩) 32)) (Nat.le_refl _) (incC x)
                  replace hH := S.later hH hbb
                  replace hC := S.later hC hbb
                  replace hb := hb.trans (hbb.mono hb.size)
                  clear hbb
                  go_wp2_with (first
                    | (refine alloc_inc (by rfl) rfl ?_)
                    | (refine store_inc x ⟨0, 0, 0⟩ (by rfl) _ _ rfl _ rfl rfl ?hg ?_; (case hg => exact Has.new _ _ _); generalize (w6.alloc (.cells (incC ⟨0, 0, 0⟩) 32)).setRow w6.heap.size (incC x) = w7 at *))
                  refine (hlB hk hC).mono ?_
                  rintro e w8 ⟨rfl, hq⟩
                  replace hH := S.later hH hq
                  replace hC := S.later hC hq
                  replace hX := hX.later hq
                  replace hb := hb.trans (hq.mono hb.size)
                  clear hq
                  have hadd := S.add (r + 2) x hC (by omega) hxr
                  rcases hcase with ⟨hc1, hc2⟩ | ⟨hc1, hc2⟩ | ⟨hc1, hc2⟩
                  · have hne : (((r + 2 : Nat) : Int) == (k : Int) + 1 + 1) = false := by rw [beq_eq_false_iff_ne]; omega
                    have hne2 : ((r : Int) + 2 == (k : Int) + 1 + 1) = false := by rw [beq_eq_false_iff_ne]; omega
                    rw [hc2] at hadd
                    go_wp2_with (first
                      | (refine load_inc x (by rfl) _ rfl w6.heap.size rfl ?hg ?_; (case hg => exact hX)))
                    refine hadd.mono ?_
                    rintro e w9 ⟨rfl, ⟨G2, hC2, hG2⟩, hoff⟩
                    have hH2 := S.off hH hoff (fun b h1 h2 => hdis b h2 h1)
                    have hdis2 : ∀ b, G2 b → ¬ F1 b := fun b h1 h2 => by
                      rcases hG2 b h1 with h | h
                      · exact hdis b h h2
                      · have := S.lt hH b h2; omega
                    obtain ⟨hb9, hG9⟩ := off_step hb hG hoff hG2
                    clear hadd hoff hH hC hdis hG hG2 hb hX
                    go_wp2
                    go_roundw
                    case rel => exact ⟨n + 1, k, G2, by omega, by omega, by go_num, hH2, hC2, hdis2, hG9, hb9⟩
                    case measure => simp [intOf]; omega
                  · have hne : (((r + 2 : Nat) : Int) == (k : Int) + 1 + 1) = false := by rw [beq_eq_false_iff_ne]; omega
                    have hne2 : ((r : Int) + 2 == (k : Int) + 1 + 1) = false := by rw [beq_eq_false_iff_ne]; omega
                    rw [hc2] at hadd
                    go_wp2_with (first
                      | (refine load_inc x (by rfl) _ rfl w6.heap.size rfl ?hg ?_; (case hg => exact hX)))
                    refine hadd.mono ?_
                    rintro e w9 ⟨rfl, ⟨G2, hC2, hG2⟩, hoff⟩
                    have hH2 := S.off hH hoff (fun b h1 h2 => hdis b h2 h1)
                    have hdis2 : ∀ b, G2 b → ¬ F1 b := fun b h1 h2 => by
                      rcases hG2 b h1 with h | h
                      · exact hdis b h h2
                      · have := S.lt hH b h2; omega
                    obtain ⟨hb9, hG9⟩ := off_step hb hG hoff hG2
                    clear hadd hoff hH hC hdis hG hG2 hb hX
                    go_wp2
                    go_roundw
                    case rel => exact ⟨n + 1, k, G2, by omega, by omega, by go_num, hH2, hC2, hdis2, hG9, hb9⟩
                    case measure => simp [intOf]; omega
                  · have hne : (((r + 2 : Nat) : Int) == (k : Int) + 1 + 1) = true := by rw [beq_iff_eq]; omega
                    have hne2 : ((r : Int) + 2 == (k : Int) + 1 + 1) = true := by rw [beq_iff_eq]; omega
                    have hkN : k + 1 ≤ N := by omega
                    rw [hc2] at hadd
                    clear hc1 hc2
                    go_wp2_with (first
                      | (refine load_inc x (by rfl) _ rfl w6.heap.size rfl ?hg ?_; (case hg => exact hX)))
                    refine hadd.mono ?_
                    rintro e w9 ⟨rfl, ⟨G2, hC2, hG2⟩, hoff⟩
                    have hH2 := S.off hH hoff (fun b h1 h2 => hdis b h2 h1)
                    have hdis2 : ∀ b, G2 b → ¬ F1 b := fun b h1 h2 => by
                      rcases hG2 b h1 with h | h
                      · exact hdis b h h2
                      · have := S.lt hH b h2; omega
                    obtain ⟨hb9, hG9⟩ := off_step hb hG hoff hG2
                    clear hadd hoff hH hC hdis hG hG2 hb hX
                    go_wp2
                    go_roundw
                    case rel => exact ⟨n + 1, k + 1, G2, by omega, by omega, by go_num, hH2, hC2, hdis2, hG9, hb9⟩
                    case measure => simp [intOf]; omega
            · have e6 : n = os.length := by omega
              subst e6
              go_wp2_with fail
              refine (hlB hk hC).mono ?_
              rintro e w10 ⟨rfl, hq⟩
              replace hH := S.later hH hq
              replace hC := S.later hC hq
              replace hb := hb.trans (hq.mono hb.size)
              clear hq
              go_wp2
              go_loopw [14] (fun i wr => ∃ (j : Nat) (G : Nat → Prop), j ≤ N ∧ i = .int .u32 (j + 2 : Nat) ∧ Is wr p xs F1 ∧ Is wr p2 (xs.take j) G ∧ (∀ b, G b → ¬ F1 b) ∧ (∀ b, G b → w.heap.size ≤ b) ∧ Below w.heap.size w wr) (fun i _ => (30 - intOf i).toNat)
              case atStart => exact ⟨k, G1, hk, rfl, hH, hC, hdis, hG, hb⟩
              case round =>
                clear hH hC hdis hG hb
                obtain ⟨j, G3, hj, rfl, hH, hC, hdis, hG, hb⟩ := hrel
                go_wp2_with fail
                refine (hlA hH).mono ?_
                rintro e w11 ⟨rfl, hq⟩
                replace hH := S.later hH hq
                replace hC := S.later hC hq
                replace hb := hb.trans (hq.mono hb.size)
                clear hq
                by_cases hjN : j < N
                · have hjI : (j : Int) < (N : Int) := by omega
                  have hjx : j < xs.length := by have := hN'.out; omega
                  have hcase : addH (xs.take j) (j + 2) xs[j] = (0, xs.take (j + 1)) := by
                    rcases hpart.out j j (by omega) hjx with ⟨h1, _⟩ | ⟨h1, _⟩ | ⟨_, h2⟩
                    · omega
                    · omega
                    · exact h2
                  have hij := hiA j hjx hH
                  have hxj := hincs.out j hjx
                  generalize xs[j] = x at *
                  go_wp2_with fail
                  refine hij.mono ?_
                  rintro e w12 ⟨rfl, hq⟩
                  replace hH := S.later hH hq
                  replace hC := S.later hC hq
                  replace hb := hb.trans (hq.mono hb.size)
                  clear hq hij
                  have hX := (Has.new w12 32 (incC ⟨0, 0, 0⟩)).row (incC x)
                  have hbb := below_setRow ((Below.refl w12.heap.size w12).alloc (Nat.le_refl _) (.cells (incC ⟨0, 0, 0⟩) 32)) (Nat.le_refl _) (incC x)
                  replace hH := S.later hH hbb
                  replace hC := S.later hC hbb
                  replace hb := hb.trans (hbb.mono hb.size)
                  clear hbb
                  go_wp2_with (first
                    | (refine alloc_inc (by rfl) rfl ?_)
                    | (refine store_inc x ⟨0, 0, 0⟩ (by rfl) _ _ rfl _ rfl rfl ?hg ?_; (case hg => exact Has.new _ _ _); generalize (w12.alloc (.cells (incC ⟨0, 0, 0⟩) 32)).setRow w12.heap.size (incC x) = w13 at *)
                    | (refine load_inc x (by rfl) _ rfl w12.heap.size rfl ?hg ?_; (case hg => exact hX)))
                  have hadd := S.add (j + 2) x hC (by omega) hxj
                  rw [hcase] at hadd
                  refine hadd.mono ?_
                  rintro e w14 ⟨rfl, ⟨G4, hC2, hG4⟩, hoff⟩
                  have hH2 := S.off hH hoff (fun b h1 h2 => hdis b h2 h1)
                  have hdis2 : ∀ b, G4 b → ¬ F1 b := fun b h1 h2 => by
                    rcases hG4 b h1 with h | h
                    · exact hdis b h h2
                    · have := S.lt hH b h2; omega
                  obtain ⟨hb9, hG9⟩ := off_step hb hG hoff hG4
                  clear hadd hoff hH hC hdis hG hG4 hb hX hcase
                  go_wp2
                  go_roundw
                  case rel => exact ⟨j + 1, G4, by omega, by go_num, hH2, hC2, hdis2, hG9, hb9⟩
                  case measure => simp [intOf]; omega
                · have hjI : (N : Int) ≤ (j : Int) := by omega
                  have ejN : j = N := by omega
                  have htk : xs.take j = xs := List.take_of_length_le (by have := hN'.out; omega)
                  rw [htk] at hC
                  clear htk ejN
                  have hlast2 := fun {w} (h : Is w p2 xs G3) => S.last h
                  have hmapA := fun {w} (h : Is w p xs F1) => S.map (N + 1) h (by omega)
                  have hmapB := fun {w} (h : Is w p2 xs G3) => S.map (N + 1) h (by omega)
                  have hme : mapE xs (N + 1) = (mapH xs N, true) := by rw [mapE_yes ⟨by omega, by have := hN'.out; omega⟩, Nat.add_sub_cancel]
                  rw [hme] at hmapA hmapB
                  rw [← hN'.out] at hlast2
                  have hMok := okH hgood N (by have := hN'.out; omega)
                  have hfold : foldM xs = (mapH xs N, true) := by rw [foldM_good hgood, ← hN'.out]
                  have hss : sameM (mapH xs N) (mapH xs N) = true := (sameM_is _ _).2 rfl
                  generalize mapH xs N = M at *
                  clear hme
                  go_wp2_with fail
                  refine (hlA hH).mono ?_
                  rintro e w12 ⟨rfl, hq⟩
                  replace hH := S.later hH hq
                  replace hC := S.later hC hq
                  replace hb := hb.trans (hq.mono hb.size)
                  clear hq
                  go_wp2_with fail
                  refine (hmapA hH).mono ?_
                  rintro e w13 ⟨rfl, hq⟩
                  replace hH := S.later hH hq
                  replace hC := S.later hC hq
                  replace hb := hb.trans (hq.mono hb.size)
                  clear hq hmapA
                  have hM1 := (Has.new w13 44 (mapC zeroM)).row (mapC M)
                  have hbb := below_setRow ((Below.refl w13.heap.size w13).alloc (Nat.le_refl _) (.cells (mapC zeroM) 44)) (Nat.le_refl _) (mapC M)
                  replace hH := S.later hH hbb
                  replace hC := S.later hC hbb
                  replace hb := hb.trans (hbb.mono hb.size)
                  clear hbb
                  go_wp2_with (first
                    | (refine alloc_map (by rfl) rfl ?_)
                    | (refine store_map M zeroM (by rfl) _ _ rfl _ rfl rfl ?hg ?_; (case hg => exact Has.new _ _ _); generalize (w13.alloc (.cells (mapC zeroM) 44)).setRow w13.heap.size (mapC M) = w14 at *))
                  refine (hlast2 hC).mono ?_
                  rintro e w15 ⟨rfl, hq⟩
                  replace hH := S.later hH hq
                  replace hC := S.later hC hq
                  replace hM1 := hM1.later hq
                  replace hb := hb.trans (hq.mono hb.size)
                  clear hq hlast2
                  go_wp2_with fail
                  refine (hmapB hC).mono ?_
                  rintro e w16 ⟨rfl, hq⟩
                  replace hH := S.later hH hq
                  replace hC := S.later hC hq
                  replace hM1 := hM1.later hq
                  replace hb := hb.trans (hq.mono hb.size)
                  clear hq hmapB
                  have hM2 := (Has.new w16 44 (mapC zeroM)).row (mapC M)
                  have hbb := below_setRow ((Below.refl w16.heap.size w16).alloc (Nat.le_refl _) (.cells (mapC zeroM) 44)) (Nat.le_refl _) (mapC M)
                  replace hH := S.later hH hbb
                  replace hC := S.later hC hbb
                  replace hM1 := hM1.later hbb
                  replace hb := hb.trans (hbb.mono hb.size)
                  clear hbb
                  go_wp2_with (first
                    | (refine alloc_map (by rfl) rfl ?_)
                    | (refine store_map M zeroM (by rfl) _ _ rfl _ rfl rfl ?hg ?_; (case hg => exact Has.new _ _ _); generalize (w16.alloc (.cells (mapC zeroM) 44)).setRow w16.heap.size (mapC M) = w17 at *))
                  go_loopw [21, 22] (fun v i wr => ∃ j : Nat, j ≤ N ∧ i = .int .u32 (j + 2 : Nat) ∧ wr.ownsRow w17.heap.size 32 3 v (xs.take j).length (incR (xs.take j)).flatten ∧ Below w17.heap.size w17 wr) (fun _ i _ => (30 - intOf i).toNat)
                  case atStart => exact ⟨0, Nat.zero_le _, rfl, World.ownsRow_nil _ _ _ _, Below.refl _ _⟩
                  case round =>
                    obtain ⟨j2, hj2, rfl, hown, hbD⟩ := hrel
                    have hH3 := S.later hH hbD
                    go_wp2_with fail
                    refine (hlA hH3).mono ?_
                    rintro e w18 ⟨rfl, hq⟩
                    replace hown := own_below hown hq
                    replace hbD := hbD.trans (hq.mono hbD.size)
                    clear hq hH3
                    by_cases hjN2 : j2 < N
                    · have hjI2 : (j2 : Int) < (N : Int) := by omega
                      have hjx : j2 < xs.length := by have := hN'.out; omega
                      have hij := hiA j2 hjx (S.later hH hbD)
                      have htks : Hid (xs.take (j2 + 1) = xs.take j2 ++ [xs[j2]]) := List.take_succ_eq_append_getElem hjx
                      have htl : (xs.take j2).length ≤ 20 := by rw [List.length_take]; omega
                      generalize xs[j2] = x at *
                      generalize xs.take j2 = ys at *
                      go_wp2_with fail
                      refine hij.mono ?_
                      rintro e w19 ⟨rfl, hq⟩
                      replace hown := own_below hown hq
                      replace hbD := hbD.trans (hq.mono hbD.size)
                      clear hq hij
                      have hX := (Has.new w19 32 (incC ⟨0, 0, 0⟩)).row (incC x)
                      have hbb := below_setRow ((Below.refl w19.heap.size w19).alloc (Nat.le_refl _) (.cells (incC ⟨0, 0, 0⟩) 32)) (Nat.le_refl _) (incC x)
                      replace hown := own_below hown hbb
                      replace hbD := hbD.trans (hbb.mono hbD.size)
                      clear hbb
                      have hc3 : (incC x).size = 3 := rfl
                      have hszD := hbD.size
                      go_wp2_with (first
                        | (refine alloc_inc (by rfl) rfl ?_)
                        | (refine store_inc x ⟨0, 0, 0⟩ (by rfl) _ _ rfl _ rfl rfl ?hg ?_; (case hg => exact Has.new _ _ _); generalize (w19.alloc (.cells (incC ⟨0, 0, 0⟩) 32)).setRow w19.heap.size (incC x) = w20 at *)
                        | (refine load_inc x (by rfl) _ rfl w19.heap.size rfl ?hg ?_; (case hg => exact hX))
                        | (at_builtin; refine wpList_append_own _ rfl _ _ 28 rfl w17.heap.size 32 i0 (.agg (incC ⟨0, 0, 0⟩)) 3 16 Try.underlying28 hi hz0 hz1 hz2 rfl (by decide) _ ys.length _ rfl (hown.alloc _) ⟨w20.heap.size, 0, none⟩ 1 1 (incC x).toList rfl rfl (row_new _ _ _) (inc_cells1 _) (by unfold maxLen; omega) (by omega) (by simp; omega) ?_))
                      intro v' w21 hown5 hgrow _
                      have hb5 : Below w17.heap.size w17 w21 := (hbD.alloc hbD.size _).grown hgrow (by simp; omega) (fun k hk => (hown.lt k hk).1)
                      have hown6 := inc_row_own (cs := ys) hown5 rfl rfl
                      rw [← htks.out] at hown6
                      clear hown hown5 hgrow hX hbD
                      go_wp2
                      go_roundw
                      case rel => exact ⟨j2 + 1, by omega, by go_num, hown6, hb5⟩
                      case measure => simp [intOf]; omega
                    · have hjI2 : (N : Int) ≤ (j2 : Int) := by omega
                      have htk : xs.take j2 = xs := List.take_of_length_le (by have := hN'.out; omega)
                      rw [htk] at hown
                      obtain ⟨hzz, go, gc, rfl, hGd⟩ := inc_own hown
                      clear hzz htk hown
                      have hfo := fold_any go gc xs w18 hGd (fun x hx => by obtain ⟨i, hi, rfl⟩ := List.getElem_of_mem hx; exact hincs.out i hi) (by omega)
                      rw [hfold] at hfo
                      have hee : errI true = 0 := rfl
                      simp only [hee] at hfo
                      replace hH := S.later hH hbD
                      replace hC := S.later hC hbD
                      replace hM1 := hM1.later hbD
                      replace hM2 := hM2.later hbD
                      replace hb := hb.trans (hbD.mono hb.size)
                      clear hbD
                      go_wp2_with fail
                      refine hfo.mono ?_
                      rintro e w22 ⟨rfl, hq⟩
                      replace hH := S.later hH hq
                      replace hC := S.later hC hq
                      replace hM1 := hM1.later hq
                      replace hM2 := hM2.later hq
                      replace hb := hb.trans (hq.mono hb.size)
                      clear hq hfo hGd
                      have hM3 := (Has.new w22 44 (mapC zeroM)).row (mapC M)
                      have hbb := below_setRow ((Below.refl w22.heap.size w22).alloc (Nat.le_refl _) (.cells (mapC zeroM) 44)) (Nat.le_refl _) (mapC M)
                      replace hH := S.later hH hbb
                      replace hC := S.later hC hbb
                      replace hM1 := hM1.later hbb
                      replace hM2 := hM2.later hbb
                      replace hb := hb.trans (hbb.mono hb.size)
                      clear hbb
                      go_wp2_with (first
                        | (refine alloc_map (by rfl) rfl ?_)
                        | (refine store_map M zeroM (by rfl) _ _ rfl _ rfl rfl ?hg ?_; (case hg => exact Has.new _ _ _); generalize (w22.alloc (.cells (mapC zeroM) 44)).setRow w22.heap.size (mapC M) = w23 at *))
                      have hS6 : (Is w23 p xs F1 ∧ Is w23 p2 xs G3 ∧ Has w23 w13.heap.size 44 (mapC M) ∧ Has w23 w16.heap.size 44 (mapC M) ∧ Has w23 w22.heap.size 44 (mapC M) ∧ Below w.heap.size w w23) := ⟨hH, hC, hM1, hM2, hM3, hb⟩
                      have keep : ∀ W W' : World, (Is W p xs F1 ∧ Is W p2 xs G3 ∧ Has W w13.heap.size 44 (mapC M) ∧ Has W w16.heap.size 44 (mapC M) ∧ Has W w22.heap.size 44 (mapC M) ∧ Below w.heap.size w W) → Below W.heap.size W W' → (Is W' p xs F1 ∧ Is W' p2 xs G3 ∧ Has W' w13.heap.size 44 (mapC M) ∧ Has W' w16.heap.size 44 (mapC M) ∧ Has W' w22.heap.size 44 (mapC M) ∧ Below w.heap.size w W') :=
                        fun W W' h hq => ⟨S.later h.1 hq, S.later h.2.1 hq, h.2.2.1.later hq, h.2.2.2.1.later hq, h.2.2.2.2.1.later hq, h.2.2.2.2.2.trans (hq.mono h.2.2.2.2.2.size)⟩
                      have keepD : ∀ (W : World) (n : Nat), (Is W p xs F1 ∧ Is W p2 xs G3 ∧ Has W w13.heap.size 44 (mapC M) ∧ Has W w16.heap.size 44 (mapC M) ∧ Has W w22.heap.size 44 (mapC M) ∧ Below w.heap.size w W) → (Is (W.drewN n) p xs F1 ∧ Is (W.drewN n) p2 xs G3 ∧ Has (W.drewN n) w13.heap.size 44 (mapC M) ∧ Has (W.drewN n) w16.heap.size 44 (mapC M) ∧ Has (W.drewN n) w22.heap.size 44 (mapC M) ∧ Below w.heap.size w (W.drewN n)) :=
                        fun W n h => ⟨S.drewN h.1 n, S.drewN h.2.1 n, h.2.2.1.drewN n, h.2.2.2.1.drewN n, h.2.2.2.2.1.drewN n, ⟨h.2.2.2.2.2.os, h.2.2.2.2.2.tape, h.2.2.2.2.2.output, h.2.2.2.2.2.size, h.2.2.2.2.2.block⟩⟩
                      clear hH hC hM1 hM2 hM3 hb
                      go_loopw [27] (fun i wr => ∃ g : Nat, g ≤ 4 ∧ i = .int .u8 g ∧ Is wr p xs F1 ∧ Is wr p2 xs G3 ∧ Has wr w13.heap.size 44 (mapC M) ∧ Has wr w16.heap.size 44 (mapC M) ∧ Has wr w22.heap.size 44 (mapC M) ∧ Below w.heap.size w wr) (fun i _ => (4 - intOf i).toNat)
                      case atStart => exact ⟨0, by decide, rfl, hS6⟩
                      case round =>
                        clear hS6
                        obtain ⟨g, hg, rfl, hS6⟩ := hrel
                        by_cases hlt4 : g < 4
                        · have hgI : (g : Int) < 4 := by omega
                          have hvA := fun {w} (h : Is w p xs F1) => S.intervals g h (by omega)
                          have hvB := fun {w} (h : Is w p2 xs G3) => S.intervals g h (by omega)
                          generalize ivals xs g = V at *
                          go_wp2_with fail
                          refine (hvA hS6.1).mono ?_
                          rintro e w24 ⟨vo, vc, rfl, hV1, hq⟩
                          replace hS6 := keep _ _ hS6 hq
                          clear hq
                          go_wp2_with fail
                          refine (hvB hS6.2.1).mono ?_
                          rintro e w25 ⟨uo, uc, rfl, hV2, hq⟩
                          replace hS6 := keep _ _ hS6 hq
                          replace hV1 := hV1.later hq
                          clear hq
                          go_wp2_with fail
                          refine (ivs_same vo uo vc uc V w25 hV1 hV2).mono ?_
                          rintro e w26 ⟨rfl, nq, rfl⟩
                          replace hS6 := keepD _ nq hS6
                          clear hV1 hV2 hvA hvB
                          go_wp2
                          go_roundw
                          case rel => exact ⟨g + 1, by omega, by go_num, hS6⟩
                          case measure => simp [intOf]; omega
                        · have e4 : g = 4 := by omega
                          subst e4
                          rw [show ((4 : Nat) : Int) = 4 from rfl]
                          go_wp2_with (first
                            | (refine load_map M (by first | rfl | simp [Region.wanted, yielded]) _ rfl w13.heap.size rfl ?hg ?_; (case hg => exact hS6.2.2.1))
                            | (refine load_map M (by first | rfl | simp [Region.wanted, yielded]) _ rfl w16.heap.size rfl ?hg ?_; (case hg => exact hS6.2.2.2.1))
                            | (refine load_map M (by first | rfl | simp [Region.wanted, yielded]) _ rfl w22.heap.size rfl ?hg ?_; (case hg => exact hS6.2.2.2.2.1))
                            | (refine bin_map M M hMok hMok (by first | rfl | simp [Region.wanted, yielded]) _ _ _ rfl rfl rfl ?_; rw [hss]))
                          go_ret
                          exact ⟨rfl, hS6.2.2.2.2.2⟩
end Go.Proofs.Ytmfgmdglpeadbaa
