/- paddocklaw5.HistoryMaps returns true, for whatever row of increments and epoch, where package history answers as it has to. -/
import Derived.Test.YtmfgmdglpeadbaaIncRows
import Derived.Test.YtmfgmdglpeadbaaMapsFold
import Derived.Test.YtmfgmdglpeadbaaPackTools
import Derived.Test.YtmfgmdglpeadbaaPackMaps
namespace Go.Proofs.Ytmfgmdglpeadbaa
set_option linter.unusedSimpArgs false
set_option linter.unusedVariables false
open Go.RowKit

theorem takeH_len (l : List IncV) (i : Nat) : (takeH l i).length ≤ i := by
  induction i with
  | zero => exact Nat.le_refl _
  | succ i ih =>
    by_cases h : i < l.length
    · rw [takeH_succ h]
      rcases add_next (takeH l i) l[i] with ⟨e, _⟩ | ⟨e, _⟩
      · rw [e]; simp; omega
      · rw [e]; show (takeH l i).length ≤ i + 1; omega
    · have : takeH l (i + 1) = takeH l i := by
        unfold takeH
        rw [List.take_of_length_le (by omega), List.take_of_length_le (by omega)]
      rw [this]; omega

theorem sl_take {w : World} {ao : Option Addr} {c k : Nat} {xs : List IncV} (h : Sl w ao c 3 (incR xs)) (hk : k ≤ xs.length) : Sl w ao c 3 (incR (xs.take k)) := by
  have hl := h.le
  rw [incR_len] at hl
  refine ⟨by rw [incR_len, List.length_take]; omega, h.cap, h.nil, incR_each _, fun ad had i hi j hj => ?_⟩
  rw [incR_len, List.length_take] at hi
  have := h.at' ad had i (by rw [incR_len]; omega) j hj
  rw [this]
  simp [incR]

set_option maxRecDepth 100000 in
set_option maxHeartbeats 4000000 in
theorem hmaps_walk {Is : World → Nat → List IncV → (Nat → Prop) → Prop} (S : HistSpec Is) (ao : Option Addr) (c : Nat) (l : List IncV) (q : Nat) (w : World) (hS : Sl w ao c 3 (incR l)) (hl : ∀ x ∈ l, IncOk x) (hq' : q < 256) :
    Calls Try.prog 8 #[.slice ao l.length c, .int .u8 q] w fun e w' => e = .returned (.bool true) ∧ Below w.heap.size w w' := by
  obtain ⟨i0, hi, hz0, hz1, hz2⟩ := info_parts Try.infoIncH
  have hcap := hS.cap
  have hle := hS.le
  rw [incR_len] at hle
  by_cases h30 : 30 < l.length
  · have h30' : (30 : Int) < (l.length : Int) := by omega
    go_enter Try.func8, Try.ntmps8
    go_wp2_with (first
      | (go_at_call 9; refine (hknown_any S _).mono ?_; rintro e w1 ⟨rfl, hb⟩))
    go_ret
    exact ⟨rfl, hb⟩
  · have h30' : (l.length : Int) ≤ 30 := by omega
    go_enter Try.func8, Try.ntmps8
    go_wp2_with (first
      | (go_at_call 9; refine (hknown_any S _).mono ?_; rintro e w1 ⟨rfl, hb⟩))
    refine (S.new _).mono ?_
    rintro e w2 ⟨p, F, rfl, hH, hF0, hq⟩
    have hF : ∀ b, F b → w.heap.size ≤ b := fun b h => Nat.le_trans hb.size (hF0 b h)
    replace hb := hb.trans (hq.mono hb.size)
    clear hq hF0
    have hpt : ptr p = .pointer (some ⟨p, 0, none⟩) := rfl
    rw [hpt]
    go_wp2
    go_loopw [6, 7] (fun v i wr => ∃ (n : Nat) (F : Nat → Prop), n ≤ l.length ∧ i = .int .i64 n ∧ Is wr p (takeH l n) F ∧ (∀ b, F b → w.heap.size ≤ b) ∧ wr.ownsRow w.heap.size 32 3 v (takeH l n).length (incR (takeH l n)).flatten ∧ (∀ k, v.ownBlock = some k → ¬ F k) ∧ Below w.heap.size w wr) (fun _ i _ => l.length - (intOf i).toNat)
    case atStart => exact ⟨0, F, Nat.zero_le _, rfl, hH, hF, World.ownsRow_nil _ _ _ _, (fun k hk => by cases hk), hb⟩
    case round =>
      clear hH hF hb
      obtain ⟨n, F1, hn, rfl, hH, hF, hown, hnF, hb⟩ := hrel
      by_cases hlt : n < l.length
      · have hnI : (n : Int) < (l.length : Int) := by omega
        have hxn := hl l[n] (List.getElem_mem hlt)
        have hcase := add_next (takeH l n) l[n]
        have hts : Hid _ := takeH_succ hlt
        have hln := takeH_len l n
        cases ao with
        | none => have h1 := hS.nil rfl; omega
        | some ad =>
          have hci : ∀ W, Below w.heap.size w W → ∀ j v, (incC l[n]).toList[j]? = some v → W.cell? ((ad.add (n * 3)).add j) = some v := fun W hW => incR_at (hS.later hW) n hlt
          generalize l[n] = x at *
          generalize takeH l n = xs at *
          obtain ⟨m, hm⟩ : ∃ m, m = xs.length + 1 := ⟨_, rfl⟩
          have hm' : Hid (m = xs.length + 1) := hm
          have hmb : m < 1000 := by omega
          have hraw : Hid _ := u32_next hmb
          have hlast := fun {w} (h : Is w p xs F1) => S.last h
          rw [← hm] at hlast
          have hadd := fun {w} (h : Is w p xs F1) => S.add (m + 1) x h (by omega) hxn
          rw [show m + 1 = xs.length + 2 by omega] at hadd
          have hmi : ((xs.length + 2 : Nat) : Int) = ((m + 1 : Nat) : Int) := by omega
          rw [hmi] at hadd
          clear hm hmi
          go_wp2
          refine wp_region_plan (fun W => Below w.heap.size w W) (Plan.of [(0, true), (1, true), (4, true), (5, true), (6, true), (7, true), (2, false), (3, true), (8, false), (9, true)] .done) (by kernel_rfl) (by kernel_rfl) (by kernel_rfl) (by kernel_rfl) hb.drew ?_
          iterate 5
            first
              | (refine plan_pass _ rfl (by rfl) ?_)
              | (refine plan_take _ _ rfl (.inl ⟨by rfl, fun W hS => by clear hS; go_simp; try with_reducible rfl⟩) ?_)
            try simp only [Act.put, List.setIfInBounds_toArray, List.set_cons_zero, List.set_cons_succ]
          refine plan_take _ _ rfl (yields_inc_at x (by rfl) _ rfl (ad.add (n * 3)) rfl hci) ?_
          try simp only [Act.put, List.setIfInBounds_toArray, List.set_cons_zero, List.set_cons_succ]
          refine plan_run _ rfl (fun K hK => ?_)
          go_simp
          have hH2 := S.drewN hH 1
          refine (hlast hH2).mono ?_
          rintro e w3 ⟨rfl, hq⟩
          replace hH2 := S.later hH2 hq
          have hown2 := own_below hown.drew hq
          have hb2 := hb.drew.trans (hq.mono hb.size)
          refine hK.out _ _ hb2 ?_
          clear hK K hq hH hown hb
          first
            | (refine plan_pass _ rfl (by rfl) ?_)
            | (refine plan_take _ _ rfl (.inl ⟨by rfl, fun W hS => by clear hS; go_simp; try with_reducible rfl⟩) ?_)
          try simp only [Act.put, List.setIfInBounds_toArray, List.set_cons_zero, List.set_cons_succ]
          refine plan_run _ rfl (fun K hK => ?_)
          go_simp
          rw [hraw.out]
          refine (hadd hH2).mono ?_
          rintro e w4 ⟨rfl, ⟨F2, hH3, hF2⟩, hoff⟩
          have hown3 := hoff.own hown2 hnF
          have hnF2 : ∀ k, u6.ownBlock = some k → ¬ F2 k := fun k hk h => by
            rcases hF2 k h with h | h
            · exact hnF k hk h
            · have := (hown2.lt k hk).2; omega
          obtain ⟨hb3, hF3⟩ := off_step hb2 hF hoff hF2
          refine hK.out _ _ hb3 ?_
          clear hK K hoff hH2 hown2 hnF hF hF2 hb2 hlast hadd
          rcases hcase with ⟨he, _⟩ | ⟨he, _⟩
          · rw [he] at hH3 hts
            rw [he]
            replace hts : Hid (takeH l (n + 1) = xs ++ [x]) := hts.out
            first
              | (refine plan_pass _ rfl (by rfl) ?_)
              | (refine plan_take _ _ rfl (.inl ⟨by rfl, fun W hS => by clear hS; go_simp; try with_reducible rfl⟩) ?_)
            try simp only [Act.put, List.setIfInBounds_toArray, List.set_cons_zero, List.set_cons_succ]
            refine plan_done ?_
            have hci4 := hci _ hb3
            have hc3 : (incC x).size = 3 := rfl
            go_wp2_with (first
              | (refine load_inc_on x (by rfl) _ rfl _ rfl hci4 ?_)
              | (at_builtin; refine wpList_append_own_at _ rfl _ _ 28 rfl w.heap.size 32 i0 (.agg (incC ⟨0, 0, 0⟩)) 3 16 Try.underlying28 hi hz0 hz1 hz2 rfl (by decide) _ xs.length _ rfl (hown3.alloc _) ⟨w4.heap.size, 0, none⟩ 1 1 (incC x).toList rfl rfl (row_new _ _ _) (inc_cells1 _) (by unfold maxLen; omega) (by omega) (by have := hb3.size; simp; omega) ?_))
            intro v' w5 hown5 hgrow _ hat
            have hb5 : Below w.heap.size w w5 := (hb3.alloc hb3.size _).grown hgrow (by have := hb3.size; simp; omega) (fun k hk => (hown3.lt k hk).1)
            have hH5 : Is w5 p (xs ++ [x]) F2 := by
              refine S.kept (S.later hH3 ((Below.refl _ _).alloc (Nat.le_refl _) _)) fun b hb => hgrow.block b ?_ ?_
              · have := S.lt hH3 b hb
                simp
                omega
              · exact fun e => hnF2 b e.symm hb
            have hnF5 : ∀ k, v'.ownBlock = some k → ¬ F2 k := fun k hk h => by
              rcases hat with e | e
              · exact hnF2 k (by rw [← e]; exact hk) h
              · rw [e] at hk
                have h1 := Option.some.inj hk
                have h2 := S.lt hH3 k h
                first
                  | omega
                  | (simp at h1; omega)
            have hown6 := inc_row_own (cs := xs) hown5 rfl rfl
            rw [← hts.out] at hown6 hH5
            clear hown3 hown5 hgrow hat hH3
            go_wp2
            go_roundw
            case rel => exact ⟨n + 1, F2, by omega, by go_num, hH5, hF3, hown6, hnF5, hb5⟩
            case measure => simp [intOf]; omega
          · rw [he] at hH3 hts
            rw [he]
            first
              | (refine plan_pass _ rfl (by rfl) ?_)
              | (refine plan_take _ _ rfl (.inl ⟨by rfl, fun W hS => by clear hS; go_simp; try with_reducible rfl⟩) ?_)
            try simp only [Act.put, List.setIfInBounds_toArray, List.set_cons_zero, List.set_cons_succ]
            refine plan_done ?_
            replace hH3 : Is w4 p xs F2 := hH3
            replace hts : Hid (takeH l (n + 1) = xs) := hts.out
            rw [← hts.out] at hH3 hown3
            go_wp2
            go_roundw
            case rel => exact ⟨n + 1, F2, by omega, by go_num, hH3, hF3, hown3, hnF2, hb3⟩
            case measure => simp [intOf]; omega
      · have e5 : n = l.length := by omega
        subst e5
        have hgood := S.good hH
        have hln := takeH_len l l.length
        generalize takeH l l.length = xs at *
        obtain ⟨hzz, go, gc, rfl, hG⟩ := inc_own hown
        clear hzz hown hnF
        have hGc := hG.cap
        have hGl := hG.le
        rw [incR_len] at hGl
        obtain ⟨k, hk⟩ : ∃ k, k = q % (xs.length + 1) := ⟨_, rfl⟩
        have hkl : k ≤ xs.length := by have := Nat.mod_lt q (show 0 < xs.length + 1 by omega); omega
        have hkI : (k : Int) ≤ (xs.length : Int) := by omega
        have hk30 : (k : Int) ≤ 30 := by omega
        have hk' : Hid (q % (xs.length + 1) = k) := hk.symm
        clear hk
        have hmap := fun {w} (h : Is w p xs F1) => S.map (k + 1) h (by omega)
        rw [mapE_yes ⟨by omega, by omega⟩, Nat.add_sub_cancel] at hmap
        have hok := okH hgood k hkl
        have hfold : foldM (xs.take k) = (mapH xs k, true) := by
          rw [foldM_good (hgood.take k), List.length_take, Nat.min_eq_left hkl]
          unfold mapH
          rw [List.take_take, Nat.min_self]
        have hss : sameM (mapH xs k) (mapH xs k) = true := (sameM_is _ _).2 rfl
        have hinc : ∀ x ∈ xs.take k, IncOk x := fun x hx => by
          obtain ⟨i, hi, rfl⟩ := List.getElem_of_mem (List.mem_of_mem_take hx)
          exact (hgood i hi).2
        generalize mapH xs k = M at *
        have hM := fun w7 => (Has.new w7 44 (mapC zeroM)).row (mapC M)
        have hbbM := fun w7 : World => below_setRow ((Below.refl w7.heap.size w7).alloc (Nat.le_refl _) (.cells (mapC zeroM) 44)) (Nat.le_refl _) (mapC M)
        go_wp2_with (first
          | (refine wpList_val (.int .i64 (k : Int)) (by rfl) (run_rem_i64 _ _ _ _ rfl q (xs.length + 1) k rfl rfl (by omega) (by omega) hk'.out) ?_))
        rw [show ((k : Int) + 1) = ((k + 1 : Nat) : Int) from rfl]
        refine (hmap hH).mono ?_
        rintro e w3 ⟨rfl, hq⟩
        replace hH := S.later hH hq
        replace hG := hG.later hq
        replace hb := hb.trans (hq.mono hb.size)
        clear hq hmap
        have hM3 := hM w3
        have hbb := hbbM w3
        replace hH := S.later hH hbb
        replace hG := hG.later hbb
        replace hb := hb.trans (hbb.mono hb.size)
        clear hbb
        have hfo := fun {w ao c} (h : Sl w ao c 3 (incR (xs.take k))) => fold_any ao c (xs.take k) w h hinc (by rw [List.length_take]; omega)
        rw [hfold, List.length_take, Nat.min_eq_left hkl] at hfo
        have hee : errI true = 0 := rfl
        simp only [hee] at hfo
        have hGk := sl_take hG hkl
        have hlast := fun {w} (h : Is w p xs F1) => S.last h
        cases go with
        | none =>
          have hz := hG.nil rfl
          have hk0 : k = 0 := by omega
          subst hk0 hz
          rw [show ((0 : Nat) : Int) = 0 from rfl]
          go_wp2_with (first
            | (refine alloc_map (by rfl) rfl ?_)
            | (refine store_map M zeroM (by rfl) _ _ rfl _ rfl rfl ?hg ?_; (case hg => exact Has.new _ _ _); generalize (w3.alloc (.cells (mapC zeroM) 44)).setRow w3.heap.size (mapC M) = w4 at *))
          refine (hfo hGk).mono ?_
          rintro e w5 ⟨rfl, hq⟩
          replace hH := S.later hH hq
          replace hM3 := hM3.later hq
          replace hb := hb.trans (hq.mono hb.size)
          clear hq hfo hGk hG
          have hM5 := hM w5
          have hbb := hbbM w5
          replace hH := S.later hH hbb
          replace hM3 := hM3.later hbb
          replace hb := hb.trans (hbb.mono hb.size)
          clear hbb
          go_wp2_with (first
            | (refine alloc_map (by rfl) rfl ?_)
            | (refine store_map M zeroM (by rfl) _ _ rfl _ rfl rfl ?hg ?_; (case hg => exact Has.new _ _ _); generalize (w5.alloc (.cells (mapC zeroM) 44)).setRow w5.heap.size (mapC M) = w6 at *)
            | (refine load_map M (by first | rfl | simp [Region.wanted, yielded]) _ rfl w3.heap.size rfl ?hg ?_; (case hg => exact hM3))
            | (refine load_map M (by first | rfl | simp [Region.wanted, yielded]) _ rfl w5.heap.size rfl ?hg ?_; (case hg => exact hM5))
            | (refine bin_map M M hok hok (by first | rfl | simp [Region.wanted, yielded]) _ _ _ rfl rfl rfl ?_; rw [hss]))
          refine (hlast hH).mono ?_
          rintro e w7 ⟨rfl, hq⟩
          replace hb := hb.trans (hq.mono hb.size)
          clear hq
          go_wp2
          go_ret
          exact ⟨rfl, hb⟩
        | some gd =>
          go_wp2_with (first
            | (refine alloc_map (by rfl) rfl ?_)
            | (refine store_map M zeroM (by rfl) _ _ rfl _ rfl rfl ?hg ?_; (case hg => exact Has.new _ _ _); generalize (w3.alloc (.cells (mapC zeroM) 44)).setRow w3.heap.size (mapC M) = w4 at *))
          refine (hfo hGk).mono ?_
          rintro e w5 ⟨rfl, hq⟩
          replace hH := S.later hH hq
          replace hM3 := hM3.later hq
          replace hb := hb.trans (hq.mono hb.size)
          clear hq hfo hGk hG
          have hM5 := hM w5
          have hbb := hbbM w5
          replace hH := S.later hH hbb
          replace hM3 := hM3.later hbb
          replace hb := hb.trans (hbb.mono hb.size)
          clear hbb
          go_wp2_with (first
            | (refine alloc_map (by rfl) rfl ?_)
            | (refine store_map M zeroM (by rfl) _ _ rfl _ rfl rfl ?hg ?_; (case hg => exact Has.new _ _ _); generalize (w5.alloc (.cells (mapC zeroM) 44)).setRow w5.heap.size (mapC M) = w6 at *)
            | (refine load_map M (by first | rfl | simp [Region.wanted, yielded]) _ rfl w3.heap.size rfl ?hg ?_; (case hg => exact hM3))
            | (refine load_map M (by first | rfl | simp [Region.wanted, yielded]) _ rfl w5.heap.size rfl ?hg ?_; (case hg => exact hM5))
            | (refine bin_map M M hok hok (by first | rfl | simp [Region.wanted, yielded]) _ _ _ rfl rfl rfl ?_; rw [hss]))
          refine (hlast hH).mono ?_
          rintro e w7 ⟨rfl, hq⟩
          replace hb := hb.trans (hq.mono hb.size)
          clear hq
          go_wp2
          go_ret
          exact ⟨rfl, hb⟩
end Go.Proofs.Ytmfgmdglpeadbaa
