/- paddocklaw4.PlaceWeight returns true, for whatever map, group and number. -/
import Derived.Test.YtmobdnaejfldnaaPlaceKnown
import Derived.Test.YtmobdnaejfldnaaPlaceMoved
import Derived.Test.YtmobdnaejfldnaaPlaceWays
namespace Go.Proofs.Ytmobdnaejfldnaa
set_option linter.unusedSimpArgs false
set_option linter.unusedVariables false
open Go.RowKit

/-- The map in which a daemon weighs something else. -/
def weighM (m : MapV) (i : Fin 5) (n : Int) : MapV := m.put i { m.osd i with wt := n }

theorem ix_first {w : World} {ad : Addr} {c : Nat} {x : Int} {l : List Int} (h : Ix w (some ad) c (x :: l)) : w.cell? ad = some (.int .i64 x) := by
  have c0 := h.at' ad rfl 0 (by simp)
  have e : ad.add 0 = ad := by cases ad; simp [Addr.add]
  rw [e] at c0
  exact c0

theorem weigh_first {m : MapV} {g p : Nat} {l : List Int} {n : Int} (hp : p < 5) (h : pickM m g = (p : Int) :: l) (h1 : (m.osd ⟨p, hp⟩).wt ≤ n) (h16 : n ≤ 16) : ∃ l', pickM (weighM m ⟨p, hp⟩ n) g = (p : Int) :: l' := by
  obtain ⟨hi, hg, h0, he⟩ := pick_cons h
  have hw := bestM_wt h0
  rw [← he, wtI_at m p hp] at hw
  have hM : isM (weighM m ⟨p, hp⟩ n) = true := by
    refine isM_put hi ((osdOk_is _).2 ⟨by show 0 ≤ n; omega, h16, ?_⟩)
    exact ((osdOk_is _).1 (((isM_is m).1 hi).2 ⟨p, hp⟩)).2.2
  have e1 : wtI (weighM m ⟨p, hp⟩ n) p = n := wtI_put m ⟨p, hp⟩ _
  have hb : bestM (weighM m ⟨p, hp⟩ n) g 0 = p := stays_grows (m := m) (fun j hj hne => wtI_put_other m ⟨p, hp⟩ _ j hj hne) (by rw [e1, wtI_at m p hp]; exact h1) (by rw [e1]; exact h16) he.symm
  obtain ⟨l', hl⟩ := pick_head hM hg (by rw [hb]; omega)
  exact ⟨l', by rw [hl, hb]⟩

theorem raw_more {q : Nat} {a : Int} (hq : q < 256) (ha : 0 ≤ a ∧ a ≤ 16) : IntKind.i64.wrap (a + IntKind.i64.wrap ((q : Int).tmod 8)) = a + (q % 8 : Nat) := by
  have h2 : (q : Int).tmod 8 = ((q % 8 : Nat) : Int) := rfl
  rw [h2]
  have h3 : q % 8 < 8 := Nat.mod_lt _ (by decide)
  generalize q % 8 = r at *
  have h4 : IntKind.i64.wrap (r : Int) = r := by
    simp [IntKind.wrap, IntKind.bits, IntKind.signed]
    omega
  rw [h4]
  simp [IntKind.wrap, IntKind.bits, IntKind.signed]
  omega

set_option maxRecDepth 100000 in
set_option maxHeartbeats 4000000 in
theorem weight_walk (S : PlaceSpec) (m : MapV) (g q : Nat) (w : World) (hm : MapOk m) (hg : g < 256) (hq : q < 256) :
    Calls Try.prog 7 #[.agg (mapC m), .int .u8 g, .int .u8 q] w fun e w' => e = .returned (.bool true) ∧ Below w.heap.size w w' := by
  have hM0 := Has.new w 27 (mapC m)
  have hb0 := (Below.refl w.heap.size w).alloc (Nat.le_refl _) (.cells (mapC m) 27)
  go_enter Try.func7, Try.ntmps7
  go_wp2_with (first
    | (go_at_call 9; refine (pknown_any S _).mono ?_; rintro e w1 ⟨rfl, hqq⟩; have hM := hM0.later hqq; have hb := hb0.trans (hqq.mono hb0.size); clear hqq hM0 hb0)
    | (refine load_map m (by rfl) _ rfl w.heap.size rfl ?hg ?_; (case hg => exact hM)))
  refine (S.pick m g _ hm hg).mono ?_
  rintro e w2 ⟨ao, c, rfl, hIx, hqq⟩
  replace hM := hM.later hqq
  replace hb := hb.trans (hqq.mono hb.size)
  clear hqq
  have hcap := hIx.cap
  cases hL : pickM m g with
  | nil =>
    go_wp2
    go_ret
    exact ⟨rfl, hb⟩
  | cons x l =>
    rw [hL] at hIx
    obtain ⟨hi, hg4, h0, he⟩ := pick_cons hL
    have hmem := (pickM_mem m g).1 x (by rw [hL]; exact List.mem_cons_self ..)
    have hwx := (pickM_apart m g).2 x (by rw [hL]; exact List.mem_cons_self ..)
    obtain ⟨p, hp2⟩ := Int.eq_ofNat_of_zero_le hmem.1
    subst hp2
    have hp5 : p < 5 := by omega
    have hpI : (p : Int) < 5 := by omega
    have hle := hIx.le
    have hl1 : ((p : Int) :: l).length = l.length + 1 := rfl
    rw [hl1] at hle
    rw [hl1]
    have hw16 := (wt_of_is hi p hp5).2
    rw [wtI_at m p hp5] at hwx hw16
    cases ao with
    | none => have h1 := hIx.nil rfl; omega
    | some ad =>
      have c0 := ix_first hIx
      have hNW : (m.osd ⟨p, hp5⟩).wt ≤ min 16 ((m.osd ⟨p, hp5⟩).wt + (q % 8 : Nat)) ∧ min 16 ((m.osd ⟨p, hp5⟩).wt + (q % 8 : Nat)) ≤ 16 := by omega
      obtain ⟨l', hK⟩ := weigh_first (n := min 16 ((m.osd ⟨p, hp5⟩).wt + (q % 8 : Nat))) hp5 hL hNW.1 hNW.2
      have hnok : MapOk (weighM m ⟨p, hp5⟩ (min 16 ((m.osd ⟨p, hp5⟩).wt + (q % 8 : Nat)))) := ok_put hm ⟨by show _ ≤ min 16 _; omega, by show min 16 _ ≤ _; omega⟩ (hm.host _)
      have hpick := fun w => S.pick _ g w hnok hg
      rw [hK] at hpick
      have hset : Hid _ := mapC_setWt m ⟨p, hp5⟩ (min 16 ((m.osd ⟨p, hp5⟩).wt + (q % 8 : Nat)))
      clear he h0 hmem hL hK hi hg4
      have hlt := hM.lt
      have hN1 := (Has.new w2 27 (mapC zeroM)).row (mapC m)
      have hM1 := (hM.alloc (.cells (mapC zeroM) 27)).row_other (k := w2.heap.size) (by omega) (mapC m)
      have hbb := below_setRow ((Below.refl w2.heap.size w2).alloc (Nat.le_refl _) (.cells (mapC zeroM) 27)) (Nat.le_refl _) (mapC m)
      have hI1 := hIx.later hbb
      have hb1 := hb.trans (hbb.mono hb.size)
      have c1 : ((w2.alloc (.cells (mapC zeroM) 27)).setRow w2.heap.size (mapC m)).cell? ad = some (.int .i64 p) := ix_first hI1
      clear c0
      have hraw : Hid (IntKind.i64.wrap ((m.osd ⟨p, hp5⟩).wt + IntKind.i64.wrap ((q : Int).tmod 8)) = (m.osd ⟨p, hp5⟩).wt + (q % 8 : Nat)) := raw_more hq ⟨by omega, hw16⟩
      have keep : ∀ W : World, Below w2.heap.size w2 W → (W.cell? ad = some (.int .i64 p) ∧ W.cell? ⟨w.heap.size, 1 + p * 3 + 1, none⟩ = some (.int .i64 (m.osd ⟨p, hp5⟩).wt)) := by
        intro W hqq
        have cw := (hM.later hqq).cell (1 + p * 3 + 1)
        rw [mapC_wt m ⟨p, hp5⟩] at cw
        exact ⟨ix_first (hIx.later hqq), cw⟩
      go_wp2_with (first
        | (refine load_map m (by rfl) _ rfl w.heap.size rfl ?hg ?_; (case hg => exact hM))
        | (refine alloc_map (by rfl) rfl ?_)
        | (refine store_map _ zeroM (by rfl) _ _ rfl _ rfl rfl ?hg ?_; (case hg => exact Has.new _ _ _); generalize (w2.alloc (.cells (mapC zeroM) 27)).setRow w2.heap.size (mapC m) = w3 at *))
      have cn := hN1.cell (1 + p * 3 + 1)
      rw [mapC_wt m ⟨p, hp5⟩] at cn
      generalize (m.osd ⟨p, hp5⟩).wt = WT at *
      have fn := hN1.free (1 + p * 3 + 1)
      have hS := keep _ hbb.drew
      refine wp_region_plan (fun W => W.cell? ad = some (.int .i64 p) ∧ W.cell? ⟨w.heap.size, 1 + p * 3 + 1, none⟩ = some (.int .i64 WT)) (Plan.of [(0, true), (1, true), (2, true), (3, true), (4, true), (5, true), (6, true), (7, true), (8, true), (9, true), (10, true), (11, true), (12, true), (13, true), (15, true), (14, false), (16, true), (17, true), (18, false)] .done) (by kernel_rfl) (by kernel_rfl) (by kernel_rfl) (by kernel_rfl) hS ?_
      iterate 15
        first
          | (refine plan_pass _ rfl (by rfl) ?_)
          | (refine plan_take _ _ rfl (.inl ⟨by rfl, fun W hS => by obtain ⟨z1, z2⟩ := hS; go_simp; try with_reducible rfl⟩) ?_)
        try simp only [Act.put, List.setIfInBounds_toArray, List.set_cons_zero, List.set_cons_succ]
      refine plan_run _ rfl (fun K hK => ?_)
      go_simp
      rw [hraw.out]
      generalize min 16 (WT + ((q % 8 : Nat) : Int)) = NW at *
      refine hK.out _ _ hS ?_
      clear hK K
      iterate 2
        first
          | (refine plan_pass _ rfl (by rfl) ?_)
          | (refine plan_take _ _ rfl (.inl ⟨by rfl, fun W hS => by obtain ⟨z1, z2⟩ := hS; go_simp; try with_reducible rfl⟩) ?_)
        try simp only [Act.put, List.setIfInBounds_toArray, List.set_cons_zero, List.set_cons_succ]
      have hN2 := hN1.set (1 + p * 3 + 1) (.int .i64 NW)
      rw [hset.out] at hN2
      replace hN2 := hN2.drew
      have hB4 := (hbb.setCell (p := ⟨w2.heap.size, 1 + p * 3 + 1, none⟩) (Nat.le_refl _) (.int .i64 NW)).drew
      have hb4 := hb.trans (hB4.mono hb.size)
      have hI4 := hIx.later hB4
      replace hS := keep _ hB4
      refine plan_run _ rfl (fun K hK => ?_)
      go_simp
      refine hK.out _ _ hS ?_
      clear hK K keep hB4 hbb hb1 hM1 hN1 cn fn c1 hI1 hset
      refine plan_done ?_
      generalize (w3.setCell ⟨w2.heap.size, 1 + p * 3 + 1, none⟩ (.int .i64 NW)).drew = w4 at *
      go_wp2_with (first
        | (refine load_map (weighM m ⟨p, hp5⟩ NW) (by rfl) _ rfl w2.heap.size rfl ?hg ?_; (case hg => exact hN2)))
      refine (hpick _).mono ?_
      rintro e w5 ⟨bo, d, rfl, hJ, hqq⟩
      replace hI4 := hI4.later hqq
      replace hb4 := hb4.trans (hqq.mono hb4.size)
      clear hqq
      have hJc := hJ.cap
      have hJl := hJ.le
      have hl2 : ((p : Int) :: l').length = l'.length + 1 := rfl
      rw [hl2] at hJl
      rw [hl2]
      cases bo with
      | none => have h1 := hJ.nil rfl; omega
      | some bd =>
        have d1 := ix_first hI4
        have d2 := ix_first hJ
        clear hpick hnok hJ hI4
        have hl0 : (0 : Int) < (l'.length : Int) + 1 := by omega
        go_wp2
        have hS : (w5.drew.cell? ad = some (.int .i64 p) ∧ w5.drew.cell? bd = some (.int .i64 p)) := ⟨d1, d2⟩
        refine wp_region_plan (fun W => W.cell? ad = some (.int .i64 p) ∧ W.cell? bd = some (.int .i64 p)) (Plan.of [(0, true), (1, false), (2, true), (3, true), (4, true), (5, true), (6, true), (7, true), (8, true), (9, true), (10, true), (11, true), (12, true)] .done) (by kernel_rfl) (by kernel_rfl) (by kernel_rfl) (by kernel_rfl) hS ?_
        iterate 1
          first
            | (refine plan_pass _ rfl (by rfl) ?_)
            | (refine plan_take _ _ rfl (.inl ⟨by rfl, fun W hS => by obtain ⟨z1, z2⟩ := hS; go_simp; try with_reducible rfl⟩) ?_)
          try simp only [Act.put, List.setIfInBounds_toArray, List.set_cons_zero, List.set_cons_succ]
        refine plan_run _ rfl (fun K hK => ?_)
        go_simp
        refine hK.out _ _ hS ?_
        clear hK K
        iterate 11
          first
            | (refine plan_pass _ rfl (by rfl) ?_)
            | (refine plan_take _ _ rfl (.inl ⟨by rfl, fun W hS => by obtain ⟨z1, z2⟩ := hS; go_simp; try with_reducible rfl⟩) ?_)
          try simp only [Act.put, List.setIfInBounds_toArray, List.set_cons_zero, List.set_cons_succ]
        refine plan_done ?_
        go_wp2
        go_ret
        exact ⟨rfl, hb4.drew⟩
end Go.Proofs.Ytmobdnaejfldnaa
