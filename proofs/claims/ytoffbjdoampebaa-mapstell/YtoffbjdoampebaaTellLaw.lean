/- paddocklaw3.MapsTell returns true, for whatever map and increment, where package maps answers as it has to. -/
import Derived.Test.YtoffbjdoampebaaMapsKnown
import Derived.Test.YtoffbjdoampebaaThose
import Derived.Test.YtoffbjdoampebaaRefApply
import Derived.Test.YtoffbjdoampebaaRefFirst
import Derived.Maps.AppendAt
namespace Go.Proofs.Ytoffbjdoampebaa
set_option linter.unusedSimpArgs false
set_option linter.unusedVariables false
open Go.RowKit

theorem applyM_ok {m : MapV} {x : IncV} (hm : MapOk m) (hx : IncOk x) : MapOk (applyM m x) := by
  unfold applyM
  split
  · rename_i h
    exact next_ok hm hx (okA_epoch h)
  · exact zeroM_ok

/-- Two rows of one's own that lie apart. -/
def Apart2 (u v : Value) : Prop := u.ownBlock = none ∨ u.ownBlock ≠ v.ownBlock

theorem Apart2.symm {u v : Value} (h : Apart2 u v) : Apart2 v u := by
  unfold Apart2 at *
  rcases h with h | h
  · rw [h]
    cases hv : v.ownBlock with
    | none => exact .inl rfl
    | some b => exact .inr (by intro e; cases e)
  · exact .inr (Ne.symm h)

theorem Apart2.grown {u u' v : Value} {n : Nat} (h : Apart2 u v) (hu : u'.ownBlock = u.ownBlock ∨ u'.ownBlock = some n) (hv : ∀ k, v.ownBlock = some k → k < n) : Apart2 u' v := by
  unfold Apart2 at *
  rcases hu with e | e
  · rw [e]; exact h
  · refine .inr fun h2 => ?_
    rw [e] at h2
    have := hv n h2.symm
    omega

theorem Ix.kept {w w' : World} {base n : Nat} {v : Value} {xs : List Int} (h : w.ownsRow base 3 1 v n (intsC xs)) : n = xs.length ∧ ∃ ao c, v = .slice ao n c ∧ Ix w ao c xs := ix_own h

theorem one_cell (w : World) (t : TypeId) (n : Int) : ∀ j u, [Value.int .i64 n][j]? = some u → (w.alloc (.cells #[.int .i64 n] t)).cell? ((⟨w.heap.size, 0, none⟩ : Addr).add j) = some u := by
  intro j u hj
  have h := (Has.new w t #[.int .i64 n]).cell j
  rw [Addr.add_mid, Nat.zero_add, h]
  show ([Value.int .i64 n].toArray)[j]? = _
  rw [List.getElem?_toArray]
  exact hj

theorem one_one (n : Int) : ∀ u ∈ [Value.int .i64 n], u.oneCell' = true := by
  intro u hu
  rw [List.mem_singleton.1 hu]
  rfl

theorem ints_same (l : List Int) : decide (l = l) = true := decide_eq_true rfl

theorem below_drewN {B : Nat} {a w : World} (h : Below B a w) (k : Nat) : Below B a (w.drewN k) := ⟨h.os, h.tape, h.output, h.size, h.block⟩

/-- What a round leaves of its rows. -/
def Rows2 (w : World) (base : Nat) (m : MapV) (n : Nat) (u v : Value) : Prop :=
  w.ownsRow base 3 1 u (pickN (fun o => decide (0 < o.wt)) m n).length (intsC (pickN (fun o => decide (0 < o.wt)) m n)) ∧ w.ownsRow base 3 1 v (pickN (fun o => o.up) m n).length (intsC (pickN (fun o => o.up) m n)) ∧ Apart2 u v

theorem own_snoc {w : World} {base : Nat} {v : Value} {p : OsdV → Bool} {m : MapV} {n : Nat} (hlt : n < 5) (hp : p (m.osd ⟨n, hlt⟩) = true) (h : w.ownsRow base 3 1 v ((pickN p m n).length + 1) (intsC (pickN p m n) ++ [.int .i64 (n : Int)])) :
    w.ownsRow base 3 1 v (pickN p m (n + 1)).length (intsC (pickN p m (n + 1))) := by
  rw [pickN_yes hlt hp]
  unfold intsC at h ⊢
  rw [List.length_append, List.map_append]
  exact h

set_option maxRecDepth 100000 in
set_option maxHeartbeats 8000000 in
theorem tell_walk (S : MapsSpec) (m : MapV) (x : IncV) (w : World) (hm : MapOk m) (hx : IncOk x) :
    Calls Try.prog 3 #[.agg (mapC m), .agg (incC x)] w fun e w' => e = .returned (.bool true) ∧ Below w.heap.size w w' := by
  obtain ⟨i0, hi, hz0, hz1, hz2⟩ := info_parts Try.infoInt
  have hM0 : Has ((w.alloc (.cells (mapC m) 27)).alloc (.cells (incC x) 29)) w.heap.size 27 (mapC m) := (Has.new _ _ _).alloc _
  have hX0 : Has ((w.alloc (.cells (mapC m) 27)).alloc (.cells (incC x) 29)) (w.heap.size + 1) 29 (incC x) := by
    have := Has.new (w.alloc (.cells (mapC m) 27)) 29 (incC x)
    simpa using this
  have hb0 : Below w.heap.size w ((w.alloc (.cells (mapC m) 27)).alloc (.cells (incC x) 29)) := ((Below.refl _ _).alloc (Nat.le_refl _) _).alloc (by simp) _
  go_enter Try.func3, Try.ntmps3
  go_wp2_with (first
    | (go_at_call 9; refine (known_any S _).mono ?_; rintro e w1 ⟨rfl, hb1⟩; have hM := hM0.later hb1; have hX := hX0.later hb1; have hb := hb0.trans (hb1.mono hb0.size); clear hb1 hX0 hM0 hb0)
    | (refine load_map m (by rfl) _ rfl w.heap.size rfl ?hg ?_; (case hg => exact hM))
    | (refine load_inc x (by rfl) _ rfl (w.heap.size + 1) rfl ?hg ?_; (case hg => exact hX)))
  refine (S.apply m x _ hm hx).mono ?_
  rintro e w2 ⟨rfl, hb2⟩
  replace hM := hM.later hb2
  replace hX := hX.later hb2
  replace hb2 := hb.trans (hb2.mono hb.size)
  clear hb
  have hAo : Hid _ := applyM_ok hm hx
  generalize hAe : applyM m x = A at *
  have hAe' : Hid (applyM m x = A) := hAe
  clear hAe
  generalize hOK : okA m x = OK at *
  have hOK' : Hid (okA m x = OK) := hOK
  clear hOK
  have hlX := hX.lt
  have hlM := hM.lt
  have hA3 := (Has.new w2 27 (mapC zeroM)).row (mapC A)
  have hM3 := (hM.alloc (.cells (mapC zeroM) 27)).row_other (k := w2.heap.size) (by omega) (mapC A)
  have hX3 := (hX.alloc (.cells (mapC zeroM) 27)).row_other (k := w2.heap.size) (by omega) (mapC A)
  have hb3 := below_setRow (hb2.alloc hb2.size (.cells (mapC zeroM) 27)) hb2.size (mapC A)
  clear hM hX
  go_wp2_with (first
    | (refine alloc_map (by rfl) rfl ?_)
    | (refine store_map A zeroM (by rfl) _ _ rfl _ rfl rfl ?hg ?_; (case hg => exact Has.new _ _ _); generalize (w2.alloc (.cells (mapC zeroM) 27)).setRow w2.heap.size (mapC A) = w3 at *; have hga := hb2.size; clear hb2; generalize w2.heap.size = ga at *)
    | (refine load_map m (by rfl) _ rfl w.heap.size rfl ?hg ?_; (case hg => exact hM3))
    | (refine load_inc x (by rfl) _ rfl (w.heap.size + 1) rfl ?hg ?_; (case hg => exact hX3)))
  refine (refapply_any m x _ hm hx).mono ?_
  rintro e w4 ⟨rfl, hb4⟩
  rw [hAe'.out, hOK'.out]
  replace hA3 := hA3.later hb4
  replace hM3 := hM3.later hb4
  replace hX3 := hX3.later hb4
  replace hb4 := hb3.trans (hb4.mono hb3.size)
  clear hb3
  have hlA := hA3.lt
  have hlX := hX3.lt
  have hlM := hM3.lt
  have hB5 := (Has.new w4 27 (mapC zeroM)).row (mapC A)
  have hA5 := (hA3.alloc (.cells (mapC zeroM) 27)).row_other (k := w4.heap.size) (by omega) (mapC A)
  have hM5 := (hM3.alloc (.cells (mapC zeroM) 27)).row_other (k := w4.heap.size) (by omega) (mapC A)
  have hX5 := (hX3.alloc (.cells (mapC zeroM) 27)).row_other (k := w4.heap.size) (by omega) (mapC A)
  have hb5 := below_setRow (hb4.alloc hb4.size (.cells (mapC zeroM) 27)) hb4.size (mapC A)
  clear hA3 hM3 hX3
  go_wp2_with (first
    | (refine alloc_map (by rfl) rfl ?_)
    | (refine store_map A zeroM (by rfl) _ _ rfl _ rfl rfl ?hg ?_; (case hg => exact Has.new _ _ _); generalize (w4.alloc (.cells (mapC zeroM) 27)).setRow w4.heap.size (mapC A) = w5 at *; have hgb := hb4.size; clear hb4; generalize w4.heap.size = gb at *))
  have hb55 := hb5.size
  go_loopw [9, 10, 11] (fun u v i wr => ∃ n : Nat, n ≤ 5 ∧ i = .int .i64 n ∧ Rows2 wr w5.heap.size m n u v ∧ Below w5.heap.size w5 wr) (fun _ _ i _ => (5 - intOf i).toNat)
  case atStart => exact ⟨0, by decide, rfl, ⟨World.ownsRow_nil _ _ _ _, World.ownsRow_nil _ _ _ _, .inl rfl⟩, Below.refl _ _⟩
  case round =>
    obtain ⟨n, hn, rfl, ⟨hin, hup, hap⟩, hbB⟩ := hrel
    by_cases hlt : n < 5
    · have i1 : (n : Int) < 5 := by omega
      have hMr := hM5.later hbB
      have c0 := hMr.cell (1 + n * 3)
      have c1 := hMr.cell (1 + n * 3 + 1)
      rw [mapC_up m ⟨n, hlt⟩] at c0
      rw [mapC_wt m ⟨n, hlt⟩] at c1
      have hwt := hm.wt ⟨n, hlt⟩
      have l1 := pickN_len (fun o => decide (0 < o.wt)) m n
      have l2 := pickN_len (fun o => o.up) m n
      by_cases hw1 : 0 < (m.osd ⟨n, hlt⟩).wt
      · have hp1 : (fun o : OsdV => decide (0 < o.wt)) (m.osd ⟨n, hlt⟩) = true := decide_eq_true hw1
        go_wp2_with (at_builtin; refine wpList_append_own_at _ rfl _ _ 36 rfl w5.heap.size 3 i0 (.int .i64 0) 1 8 Try.underlying36 hi hz0 hz1 hz2 rfl (by decide) _ (pickN (fun o => decide (0 < o.wt)) m n).length _ rfl (hin.alloc _) ⟨wr.heap.size, 0, none⟩ 1 1 [.int .i64 n] rfl rfl (one_cell _ _ _) (one_one _) (by unfold maxLen; omega) (by omega) (by have := hbB.size; simp; omega) ?_)
        intro u' w6 hin6 hgrow _ hat
        have hb6 : Below w5.heap.size w5 w6 := (hbB.alloc hbB.size _).grown hgrow (by have := hbB.size; simp; omega) (fun k hk => (hin.lt k hk).1)
        have hup6 := (hup.alloc (.cells #[.int .i64 (n : Int)] 3)).kept hgrow hap.symm
        have hap6 := hap.grown hat (fun k hk => by have := (hup.lt k hk).2; omega)
        replace hin6 := own_snoc hlt hp1 hin6
        have hM6 := hM5.later hb6
        have c0 := hM6.cell (1 + n * 3)
        rw [mapC_up m ⟨n, hlt⟩] at c0
        clear hgrow hat hin hup hap hbB hMr c1
        cases hu : (m.osd ⟨n, hlt⟩).up with
        | true =>
          rw [hu] at c0
          have hp2 : (fun o : OsdV => o.up) (m.osd ⟨n, hlt⟩) = true := hu
          go_wp2_with (at_builtin; refine wpList_append_own_at _ rfl _ _ 36 rfl w5.heap.size 3 i0 (.int .i64 0) 1 8 Try.underlying36 hi hz0 hz1 hz2 rfl (by decide) _ (pickN (fun o => o.up) m n).length _ rfl (hup6.alloc _) ⟨w6.heap.size, 0, none⟩ 1 1 [.int .i64 n] rfl rfl (one_cell _ _ _) (one_one _) (by unfold maxLen; omega) (by omega) (by have := hb6.size; simp; omega) ?_)
          intro v' w7 hup7 hgrow _ hat
          have hb7 : Below w5.heap.size w5 w7 := (hb6.alloc hb6.size _).grown hgrow (by have := hb6.size; simp; omega) (fun k hk => (hup6.lt k hk).1)
          have hin7 := (hin6.alloc (.cells #[.int .i64 (n : Int)] 3)).kept hgrow hap6
          have hap7 := (hap6.symm.grown hat (fun k hk => by have := (hin6.lt k hk).2; omega)).symm
          replace hup7 := own_snoc hlt hp2 hup7
          go_wp2
          go_roundw
          case rel => exact ⟨n + 1, by omega, by go_num, ⟨hin7, hup7, hap7⟩, hb7⟩
          case measure => simp [intOf]; omega
        | false =>
          rw [hu] at c0
          rw [← pickN_no (p := fun o : OsdV => o.up) hlt hu] at hup6
          go_wp2
          go_roundw
          case rel => exact ⟨n + 1, by omega, by go_num, ⟨hin6, hup6, hap6⟩, hb6⟩
          case measure => simp [intOf]; omega
      · have hp1 : (fun o : OsdV => decide (0 < o.wt)) (m.osd ⟨n, hlt⟩) = false := decide_eq_false hw1
        have hw2 : (m.osd ⟨n, hlt⟩).wt ≤ 0 := by omega
        rw [← pickN_no (p := fun o : OsdV => decide (0 < o.wt)) hlt hp1] at hin
        clear hw1
        cases hu : (m.osd ⟨n, hlt⟩).up with
        | true =>
          rw [hu] at c0
          have hp2 : (fun o : OsdV => o.up) (m.osd ⟨n, hlt⟩) = true := hu
          go_wp2_with (at_builtin; refine wpList_append_own_at _ rfl _ _ 36 rfl w5.heap.size 3 i0 (.int .i64 0) 1 8 Try.underlying36 hi hz0 hz1 hz2 rfl (by decide) _ (pickN (fun o => o.up) m n).length _ rfl (hup.alloc _) ⟨wr.heap.size, 0, none⟩ 1 1 [.int .i64 n] rfl rfl (one_cell _ _ _) (one_one _) (by unfold maxLen; omega) (by omega) (by have := hbB.size; simp; omega) ?_)
          intro v' w7 hup7 hgrow _ hat
          have hb7 : Below w5.heap.size w5 w7 := (hbB.alloc hbB.size _).grown hgrow (by have := hbB.size; simp; omega) (fun k hk => (hup.lt k hk).1)
          have hin7 := (hin.alloc (.cells #[.int .i64 (n : Int)] 3)).kept hgrow hap
          have hap7 := (hap.symm.grown hat (fun k hk => by have := (hin.lt k hk).2; omega)).symm
          replace hup7 := own_snoc hlt hp2 hup7
          go_wp2
          go_roundw
          case rel => exact ⟨n + 1, by omega, by go_num, ⟨hin7, hup7, hap7⟩, hb7⟩
          case measure => simp [intOf]; omega
        | false =>
          rw [hu] at c0
          rw [← pickN_no (p := fun o : OsdV => o.up) hlt hu] at hup
          go_wp2
          go_roundw
          case rel => exact ⟨n + 1, by omega, by go_num, ⟨hin, hup, hap⟩, hbB⟩
          case measure => simp [intOf]; omega
    · have e5 : n = 5 := by omega
      subst e5
      rw [pickN_5] at hin hup
      obtain ⟨_, ao, c, rfl, hIin⟩ := ix_own hin
      obtain ⟨_, bo, d, rfl, hIup⟩ := ix_own hup
      have hIin : Ix wr ao c (inL m) := hIin
      have hIup : Ix wr bo d (upL m) := hIup
      have hS0 : (fun W : World => Has W w.heap.size 27 (mapC m) ∧ Has W (w.heap.size + 1) 29 (incC x) ∧ Has W ga 27 (mapC A) ∧ Has W gb 27 (mapC A) ∧ Ix W ao c (inL m) ∧ Ix W bo d (upL m) ∧ Below w.heap.size w W) wr := ⟨hM5.later hbB, hX5.later hbB, hA5.later hbB, hB5.later hbB, hIin, hIup, hb5.trans (hbB.mono hb5.size)⟩
      have keep : ∀ W W' : World, (Has W w.heap.size 27 (mapC m) ∧ Has W (w.heap.size + 1) 29 (incC x) ∧ Has W ga 27 (mapC A) ∧ Has W gb 27 (mapC A) ∧ Ix W ao c (inL m) ∧ Ix W bo d (upL m) ∧ Below w.heap.size w W) → Below W.heap.size W W' → (Has W' w.heap.size 27 (mapC m) ∧ Has W' (w.heap.size + 1) 29 (incC x) ∧ Has W' ga 27 (mapC A) ∧ Has W' gb 27 (mapC A) ∧ Ix W' ao c (inL m) ∧ Ix W' bo d (upL m) ∧ Below w.heap.size w W') :=
        fun W W' h hq => ⟨h.1.later hq, h.2.1.later hq, h.2.2.1.later hq, h.2.2.2.1.later hq, h.2.2.2.2.1.later hq, h.2.2.2.2.2.1.later hq, h.2.2.2.2.2.2.trans (hq.mono h.2.2.2.2.2.2.size)⟩
      have keepD : ∀ (W : World) (k : Nat), (Has W w.heap.size 27 (mapC m) ∧ Has W (w.heap.size + 1) 29 (incC x) ∧ Has W ga 27 (mapC A) ∧ Has W gb 27 (mapC A) ∧ Ix W ao c (inL m) ∧ Ix W bo d (upL m) ∧ Below w.heap.size w W) → (Has (W.drewN k) w.heap.size 27 (mapC m) ∧ Has (W.drewN k) (w.heap.size + 1) 29 (incC x) ∧ Has (W.drewN k) ga 27 (mapC A) ∧ Has (W.drewN k) gb 27 (mapC A) ∧ Ix (W.drewN k) ao c (inL m) ∧ Ix (W.drewN k) bo d (upL m) ∧ Below w.heap.size w (W.drewN k)) :=
        fun W k h => ⟨h.1.drewN k, h.2.1.drewN k, h.2.2.1.drewN k, h.2.2.2.1.drewN k, h.2.2.2.2.1.drewN k, h.2.2.2.2.2.1.drewN k, below_drewN h.2.2.2.2.2.2 k⟩
      have keepDr : (Has wr.drew w.heap.size 27 (mapC m) ∧ Has wr.drew (w.heap.size + 1) 29 (incC x) ∧ Has wr.drew ga 27 (mapC A) ∧ Has wr.drew gb 27 (mapC A) ∧ Ix wr.drew ao c (inL m) ∧ Ix wr.drew bo d (upL m) ∧ Below w.heap.size w wr.drew) := ⟨hS0.1.drew, hS0.2.1.drew, hS0.2.2.1.drew, hS0.2.2.2.1.drew, hS0.2.2.2.2.1.drewN 1, hS0.2.2.2.2.2.1.drewN 1, hS0.2.2.2.2.2.2.drew⟩
      have hsA : sameM A A = true := (sameM_is _ _).2 rfl
      have hsF : sameM firstM firstM = true := (sameM_is _ _).2 rfl
      have len1 : (pickL (fun o => decide (0 < o.wt)) m).length = (inL m).length := rfl
      have len2 : (pickL (fun o => o.up) m).length = (upL m).length := rfl
      rw [len1, len2]
      clear hin hup hap hIin hIup hbB hM5 hX5 hA5 hB5 hb5 hb55 hS0 len1 len2
      go_wp2
      have hS := keepDr
      refine wp_region_plan (fun W => Has W w.heap.size 27 (mapC m) ∧ Has W (w.heap.size + 1) 29 (incC x) ∧ Has W ga 27 (mapC A) ∧ Has W gb 27 (mapC A) ∧ Ix W ao c (inL m) ∧ Ix W bo d (upL m) ∧ Below w.heap.size w W) (Plan.of [(0, true), (2, true), (1, false), (3, false), (4, true), (5, true), (6, true), (8, true), (7, false), (9, false), (10, true), (11, true), (12, true), (13, true), (14, true), (15, true), (16, true), (17, true), (18, true), (19, true), (20, true), (21, true), (22, true), (23, true), (24, true), (25, true), (26, true), (27, true), (28, true), (29, true), (30, true), (31, true), (32, true), (34, true), (33, false), (35, false), (36, true), (37, true), (38, true), (40, true), (39, false), (41, false), (42, true), (43, true), (44, false), (45, false), (46, true), (47, true), (48, true)] .done) (by kernel_rfl) (by kernel_rfl) (by kernel_rfl) (by kernel_rfl) hS ?_
      refine plan_take _ _ rfl (yields_map m (by rfl) _ rfl w.heap.size rfl (fun _ h => h.1)) ?_
      try simp only [Act.put, List.setIfInBounds_toArray, List.set_cons_zero, List.set_cons_succ]
      refine plan_take _ _ rfl (yields_map m (by rfl) _ rfl w.heap.size rfl (fun _ h => h.1)) ?_
      try simp only [Act.put, List.setIfInBounds_toArray, List.set_cons_zero, List.set_cons_succ]
      refine plan_run _ rfl (fun K hK => ?_)
      go_simp
      refine (S.is m _ hm).mono ?_
      rintro e w6 ⟨rfl, hq⟩
      replace hS := keep _ _ hS hq
      refine hK.out _ _ hS ?_
      clear hK K hq
      refine plan_run _ rfl (fun K hK => ?_)
      go_simp
      refine (refis_any m _ hm).mono ?_
      rintro e w7 ⟨rfl, hq⟩
      replace hS := keep _ _ hS hq
      refine hK.out _ _ hS ?_
      clear hK K hq
      iterate 2
        first
          | (refine plan_pass _ rfl (by rfl) ?_)
          | (refine plan_take _ _ rfl (.inl ⟨by rfl, fun W hS => by clear hS; go_simp; try with_reducible rfl⟩) ?_)
        try simp only [Act.put, List.setIfInBounds_toArray, List.set_cons_zero, List.set_cons_succ]
      refine plan_take _ _ rfl (yields_inc x (by rfl) _ rfl (w.heap.size + 1) rfl (fun _ h => h.2.1)) ?_
      try simp only [Act.put, List.setIfInBounds_toArray, List.set_cons_zero, List.set_cons_succ]
      refine plan_take _ _ rfl (yields_inc x (by rfl) _ rfl (w.heap.size + 1) rfl (fun _ h => h.2.1)) ?_
      try simp only [Act.put, List.setIfInBounds_toArray, List.set_cons_zero, List.set_cons_succ]
      refine plan_run _ rfl (fun K hK => ?_)
      go_simp
      refine (S.isinc x _ hx).mono ?_
      rintro e w6 ⟨rfl, hq⟩
      replace hS := keep _ _ hS hq
      refine hK.out _ _ hS ?_
      clear hK K hq
      refine plan_run _ rfl (fun K hK => ?_)
      go_simp
      refine (refisinc_any x _ hx).mono ?_
      rintro e w7 ⟨rfl, hq⟩
      replace hS := keep _ _ hS hq
      refine hK.out _ _ hS ?_
      clear hK K hq
      iterate 3
        first
          | (refine plan_pass _ rfl (by rfl) ?_)
          | (refine plan_take _ _ rfl (.inl ⟨by rfl, fun W hS => by clear hS; go_simp; try with_reducible rfl⟩) ?_)
        try simp only [Act.put, List.setIfInBounds_toArray, List.set_cons_zero, List.set_cons_succ]
      cases OK with
      | true =>
        rw [errI_true]
        iterate 14
          first
            | (refine plan_pass _ rfl (by rfl) ?_)
            | (refine plan_take _ _ rfl (.inl ⟨by rfl, fun W hS => by clear hS; go_simp; try with_reducible rfl⟩) ?_)
          try simp only [Act.put, List.setIfInBounds_toArray, List.set_cons_zero, List.set_cons_succ]
        refine plan_take _ _ rfl (yields_map A (by rfl) _ rfl ga rfl (fun _ h => h.2.2.1)) ?_
        try simp only [Act.put, List.setIfInBounds_toArray, List.set_cons_zero, List.set_cons_succ]
        refine plan_take _ _ rfl (yields_map A (by rfl) _ rfl gb rfl (fun _ h => h.2.2.2.1)) ?_
        try simp only [Act.put, List.setIfInBounds_toArray, List.set_cons_zero, List.set_cons_succ]
        refine plan_take _ _ rfl (yields_eq_map A A hAo.out hAo.out (by rfl) _ _ _ rfl rfl rfl) ?_
        rw [hsA]
        try simp only [Act.put, List.setIfInBounds_toArray, List.set_cons_zero, List.set_cons_succ]
        iterate 2
          first
            | (refine plan_pass _ rfl (by rfl) ?_)
            | (refine plan_take _ _ rfl (.inl ⟨by rfl, fun W hS => by clear hS; go_simp; try with_reducible rfl⟩) ?_)
          try simp only [Act.put, List.setIfInBounds_toArray, List.set_cons_zero, List.set_cons_succ]
        refine plan_take _ _ rfl (yields_map m (by rfl) _ rfl w.heap.size rfl (fun _ h => h.1)) ?_
        try simp only [Act.put, List.setIfInBounds_toArray, List.set_cons_zero, List.set_cons_succ]
        first
          | (refine plan_pass _ rfl (by rfl) ?_)
          | (refine plan_take _ _ rfl (.inl ⟨by rfl, fun W hS => by clear hS; go_simp; try with_reducible rfl⟩) ?_)
        try simp only [Act.put, List.setIfInBounds_toArray, List.set_cons_zero, List.set_cons_succ]
        refine plan_run _ rfl (fun K hK => ?_)
        go_simp
        refine (S.inn m _ hm).mono ?_
        rintro e w8 ⟨ao1, c1, rfl, hI1, hq⟩
        replace hS := keep _ _ hS hq
        refine hK.out _ _ hS ?_
        clear hK K hq
        refine plan_run _ rfl (fun K hK => ?_)
        go_simp
        refine (ints_any ao1 ao c1 c (inL m) (inL m) _ hI1 hS.2.2.2.2.1).mono ?_
        rintro e w9 ⟨rfl, nq, rfl⟩
        replace hS := keepD _ nq hS
        rw [ints_same]
        refine hK.out _ _ hS ?_
        clear hK K
        iterate 2
          first
            | (refine plan_pass _ rfl (by rfl) ?_)
            | (refine plan_take _ _ rfl (.inl ⟨by rfl, fun W hS => by clear hS; go_simp; try with_reducible rfl⟩) ?_)
          try simp only [Act.put, List.setIfInBounds_toArray, List.set_cons_zero, List.set_cons_succ]
        refine plan_take _ _ rfl (yields_map m (by rfl) _ rfl w.heap.size rfl (fun _ h => h.1)) ?_
        try simp only [Act.put, List.setIfInBounds_toArray, List.set_cons_zero, List.set_cons_succ]
        first
          | (refine plan_pass _ rfl (by rfl) ?_)
          | (refine plan_take _ _ rfl (.inl ⟨by rfl, fun W hS => by clear hS; go_simp; try with_reducible rfl⟩) ?_)
        try simp only [Act.put, List.setIfInBounds_toArray, List.set_cons_zero, List.set_cons_succ]
        refine plan_run _ rfl (fun K hK => ?_)
        go_simp
        refine (S.up m _ hm).mono ?_
        rintro e w10 ⟨bo1, d1, rfl, hI2, hq⟩
        replace hS := keep _ _ hS hq
        refine hK.out _ _ hS ?_
        clear hK K hq
        refine plan_run _ rfl (fun K hK => ?_)
        go_simp
        refine (ints_any bo1 bo d1 d (upL m) (upL m) _ hI2 hS.2.2.2.2.2.1).mono ?_
        rintro e w11 ⟨rfl, nq, rfl⟩
        replace hS := keepD _ nq hS
        rw [ints_same]
        refine hK.out _ _ hS ?_
        clear hK K
        iterate 2
          first
            | (refine plan_pass _ rfl (by rfl) ?_)
            | (refine plan_take _ _ rfl (.inl ⟨by rfl, fun W hS => by clear hS; go_simp; try with_reducible rfl⟩) ?_)
          try simp only [Act.put, List.setIfInBounds_toArray, List.set_cons_zero, List.set_cons_succ]
        refine plan_run _ rfl (fun K hK => ?_)
        go_simp
        refine (S.first _).mono ?_
        rintro e w12 ⟨rfl, hq⟩
        replace hS := keep _ _ hS hq
        refine hK.out _ _ hS ?_
        clear hK K hq
        refine plan_run _ rfl (fun K hK => ?_)
        go_simp
        refine (reffirst_any _).mono ?_
        rintro e w13 ⟨rfl, hq⟩
        replace hS := keep _ _ hS hq
        refine hK.out _ _ hS ?_
        clear hK K hq
        refine plan_take _ _ rfl (yields_eq_map firstM firstM firstM_ok firstM_ok (by rfl) _ _ _ rfl rfl rfl) ?_
        rw [hsF]
        try simp only [Act.put, List.setIfInBounds_toArray, List.set_cons_zero, List.set_cons_succ]
        iterate 2
          first
            | (refine plan_pass _ rfl (by rfl) ?_)
            | (refine plan_take _ _ rfl (.inl ⟨by rfl, fun W hS => by clear hS; go_simp; try with_reducible rfl⟩) ?_)
          try simp only [Act.put, List.setIfInBounds_toArray, List.set_cons_zero, List.set_cons_succ]
        refine plan_done ?_
        go_wp2
        go_ret
        exact ⟨rfl, hS.2.2.2.2.2.2⟩
      | false =>
        rw [errI_false]
        iterate 14
          first
            | (refine plan_pass _ rfl (by rfl) ?_)
            | (refine plan_take _ _ rfl (.inl ⟨by rfl, fun W hS => by clear hS; go_simp; try with_reducible rfl⟩) ?_)
          try simp only [Act.put, List.setIfInBounds_toArray, List.set_cons_zero, List.set_cons_succ]
        refine plan_take _ _ rfl (yields_map A (by rfl) _ rfl ga rfl (fun _ h => h.2.2.1)) ?_
        try simp only [Act.put, List.setIfInBounds_toArray, List.set_cons_zero, List.set_cons_succ]
        refine plan_take _ _ rfl (yields_map A (by rfl) _ rfl gb rfl (fun _ h => h.2.2.2.1)) ?_
        try simp only [Act.put, List.setIfInBounds_toArray, List.set_cons_zero, List.set_cons_succ]
        refine plan_take _ _ rfl (yields_eq_map A A hAo.out hAo.out (by rfl) _ _ _ rfl rfl rfl) ?_
        rw [hsA]
        try simp only [Act.put, List.setIfInBounds_toArray, List.set_cons_zero, List.set_cons_succ]
        iterate 2
          first
            | (refine plan_pass _ rfl (by rfl) ?_)
            | (refine plan_take _ _ rfl (.inl ⟨by rfl, fun W hS => by clear hS; go_simp; try with_reducible rfl⟩) ?_)
          try simp only [Act.put, List.setIfInBounds_toArray, List.set_cons_zero, List.set_cons_succ]
        refine plan_take _ _ rfl (yields_map m (by rfl) _ rfl w.heap.size rfl (fun _ h => h.1)) ?_
        try simp only [Act.put, List.setIfInBounds_toArray, List.set_cons_zero, List.set_cons_succ]
        first
          | (refine plan_pass _ rfl (by rfl) ?_)
          | (refine plan_take _ _ rfl (.inl ⟨by rfl, fun W hS => by clear hS; go_simp; try with_reducible rfl⟩) ?_)
        try simp only [Act.put, List.setIfInBounds_toArray, List.set_cons_zero, List.set_cons_succ]
        refine plan_run _ rfl (fun K hK => ?_)
        go_simp
        refine (S.inn m _ hm).mono ?_
        rintro e w8 ⟨ao1, c1, rfl, hI1, hq⟩
        replace hS := keep _ _ hS hq
        refine hK.out _ _ hS ?_
        clear hK K hq
        refine plan_run _ rfl (fun K hK => ?_)
        go_simp
        refine (ints_any ao1 ao c1 c (inL m) (inL m) _ hI1 hS.2.2.2.2.1).mono ?_
        rintro e w9 ⟨rfl, nq, rfl⟩
        replace hS := keepD _ nq hS
        rw [ints_same]
        refine hK.out _ _ hS ?_
        clear hK K
        iterate 2
          first
            | (refine plan_pass _ rfl (by rfl) ?_)
            | (refine plan_take _ _ rfl (.inl ⟨by rfl, fun W hS => by clear hS; go_simp; try with_reducible rfl⟩) ?_)
          try simp only [Act.put, List.setIfInBounds_toArray, List.set_cons_zero, List.set_cons_succ]
        refine plan_take _ _ rfl (yields_map m (by rfl) _ rfl w.heap.size rfl (fun _ h => h.1)) ?_
        try simp only [Act.put, List.setIfInBounds_toArray, List.set_cons_zero, List.set_cons_succ]
        first
          | (refine plan_pass _ rfl (by rfl) ?_)
          | (refine plan_take _ _ rfl (.inl ⟨by rfl, fun W hS => by clear hS; go_simp; try with_reducible rfl⟩) ?_)
        try simp only [Act.put, List.setIfInBounds_toArray, List.set_cons_zero, List.set_cons_succ]
        refine plan_run _ rfl (fun K hK => ?_)
        go_simp
        refine (S.up m _ hm).mono ?_
        rintro e w10 ⟨bo1, d1, rfl, hI2, hq⟩
        replace hS := keep _ _ hS hq
        refine hK.out _ _ hS ?_
        clear hK K hq
        refine plan_run _ rfl (fun K hK => ?_)
        go_simp
        refine (ints_any bo1 bo d1 d (upL m) (upL m) _ hI2 hS.2.2.2.2.2.1).mono ?_
        rintro e w11 ⟨rfl, nq, rfl⟩
        replace hS := keepD _ nq hS
        rw [ints_same]
        refine hK.out _ _ hS ?_
        clear hK K
        iterate 2
          first
            | (refine plan_pass _ rfl (by rfl) ?_)
            | (refine plan_take _ _ rfl (.inl ⟨by rfl, fun W hS => by clear hS; go_simp; try with_reducible rfl⟩) ?_)
          try simp only [Act.put, List.setIfInBounds_toArray, List.set_cons_zero, List.set_cons_succ]
        refine plan_run _ rfl (fun K hK => ?_)
        go_simp
        refine (S.first _).mono ?_
        rintro e w12 ⟨rfl, hq⟩
        replace hS := keep _ _ hS hq
        refine hK.out _ _ hS ?_
        clear hK K hq
        refine plan_run _ rfl (fun K hK => ?_)
        go_simp
        refine (reffirst_any _).mono ?_
        rintro e w13 ⟨rfl, hq⟩
        replace hS := keep _ _ hS hq
        refine hK.out _ _ hS ?_
        clear hK K hq
        refine plan_take _ _ rfl (yields_eq_map firstM firstM firstM_ok firstM_ok (by rfl) _ _ _ rfl rfl rfl) ?_
        rw [hsF]
        try simp only [Act.put, List.setIfInBounds_toArray, List.set_cons_zero, List.set_cons_succ]
        iterate 2
          first
            | (refine plan_pass _ rfl (by rfl) ?_)
            | (refine plan_take _ _ rfl (.inl ⟨by rfl, fun W hS => by clear hS; go_simp; try with_reducible rfl⟩) ?_)
          try simp only [Act.put, List.setIfInBounds_toArray, List.set_cons_zero, List.set_cons_succ]
        refine plan_done ?_
        go_wp2
        go_ret
        exact ⟨rfl, hS.2.2.2.2.2.2⟩
end Go.Proofs.Ytoffbjdoampebaa
