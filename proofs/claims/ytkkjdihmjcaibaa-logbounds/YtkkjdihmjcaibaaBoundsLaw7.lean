/- LogBounds, walked. -/
import Derived.Test.YtkkjdihmjcaibaaAddFacts
namespace Go.Proofs.Ytkkjdihmjcaibaa
set_option linter.unusedSimpArgs false
set_option linter.unusedVariables false
set_option maxRecDepth 100000
open Go.RowKit

set_option maxHeartbeats 2000000 in
theorem lbounds_walk (ao : Option Addr) (c since n : Nat) (l : List OpV) (o : OpV) (w : World) (h : Sl w ao c 6 (opR l)) (hl : ∀ x ∈ l, OpOk x) (ho : OpOk o) (hsince : since < 4294967296) (hn : n < 4294967296) :
    Calls Try.prog 6 #[.slice ao l.length c, .agg (opC o), .int .u32 (since : Int), .int .u32 (n : Int)] w fun e w' => e = .returned (.bool true) ∧ Below w.heap.size w w' := by
  have hle := h.op_le
  have hcap := h.cap
  obtain ⟨w0, hw0, hO, hb0⟩ := one_var w 35 (opC o)
  go_enter Try.func6, Try.ntmps6
  go_wp2_with fail
  refine (known_any _).mono ?_
  rintro e w1 ⟨rfl, hq⟩
  have hb := hb0.trans (hq.mono hb0.size)
  replace hO := hO.later hq
  clear hq hw0 hb0
  by_cases hlong : 20 < l.length
  · have hI : (20 : Int) < (l.length : Int) := by omega
    clear hlong
    go_wp2_with fail
    go_ret
    exact ⟨rfl, hb⟩
  have hI : ¬ ((20 : Int) < (l.length : Int)) := by omega
  have hl60 : l.length ≤ 60 := by omega
  have hlB : l.length ≤ 20 := by omega
  clear hlong
  go_wp2_with fail
  refine (row_any ao c 4 l _ (h.later hb) hl hl60 (by omega)).mono ?_
  rintro e w2 ⟨ro, rc, bo, bc, rfl, hS8, _, hD6, _, hq⟩
  replace hb := hb.trans (hq.mono hb.size)
  replace hO := hO.later hq
  have hDw := filter_writes l
  have hDo := filter_ok hl
  have hD60 : (l.filter writesM).length ≤ 20 := Nat.le_trans (filter_len l) hlB
  have hD60I : ((l.filter writesM).length : Int) ≤ 20 := by omega
  have hRS := rowState (q := 4 % 60 + 1) (D := l.filter writesM) (by omega) hDw hDo (by omega)
  clear hq
  generalize stOf (4 % 60 + 1) (l.filter writesM) = S at *
  have hq60 : 4 % 60 + 1 ≤ 60 := by omega
  generalize 4 % 60 + 1 = q at *
  generalize l.filter writesM = D at *
  have hDc := hD6.op_le
  have hDcap := hD6.cap
  have hSo := hRS.ok
  have hSi : Hid _ := hRS.is'
  have hSf : Hid _ := hRS.fold
  have hSh : Hid _ := hRS.head
  have hSl : Hid _ := hRS.len
  have hSt : Hid _ := hRS.tail
  have hSb : Hid _ := hRS.base
  have hSe : Hid _ := hRS.eq
  clear hRS
  obtain ⟨w3, hw3, hX, hq⟩ := new_var w2 40 (stC st0 none 0) (stC S ro rc)
  replace hS8 := hS8.later hq
  replace hD6 := hD6.later hq
  replace hO := hO.later hq
  replace hb := hb.trans (hq.mono hb.size)
  clear hq
  go_wp2_with (first
    | (refine wpList_alloc_has (by rfl) 40 rfl (stC st0 none 0) st_zero ?_)
    | (refine wpList_store_to (by rfl) 40 _ _ rfl w2.heap.size rfl (stC S ro rc) rfl 40 (stC st0 none 0) (st_size _ _ _) (st_same _ _ _ _ _ _) (st_one _ _ _) ?hg w3 ?hW ?_; (case hg => exact Has.new _ _ _); (case hW => exact hw3); clear hw3; generalize w2.heap.size = gs at *)
    | (refine wpList_load_has (by rfl) 40 _ rfl (gs) rfl 40 (stC S ro rc) _ Try.underlying40 rfl (st_size _ _ _) ?hg ?_; (case hg => exact hX)))
  refine (head_any S ro rc _ hSo hS8).mono ?_
  rintro e w4 ⟨rfl, hq⟩
  rw [hSh.out]
  replace hX := hX.later hq
  replace hS8 := hS8.later hq
  replace hO := hO.later hq
  replace hb := hb.trans (hq.mono hb.size)
  clear hq hD6
  obtain ⟨r, hr⟩ : ∃ r, since % 70 = r := ⟨_, rfl⟩
  have hr70 : r < 70 := by omega
  replace hr : Hid _ := hr
  have heo : EntOk ⟨r, n, o⟩ := ⟨by show r < _; omega, hn, ho⟩
  have hcan : Hid (canM S ⟨r, n, o⟩ = followsM (posQ q D.length) ⟨r, n, o⟩) := by
    have h1 := hSe.out
    have h2 := hSi.out
    subst h1
    exact can_row h2 (by omega)
  have hno : Hid (writesM o = false ∨ ¬ n = D.length + 1 ∨ ¬ (posQ q D.length).since ≤ r ∨ ¬ r ≤ 60 → addM S ⟨r, n, o⟩ = (st0, 10)) := fun hh => add_no (hcan.out.trans (follows_no (by rw [posQ_n]; exact hh)))
  have hyes : Hid (writesM o = true → n = D.length + 1 → (posQ q D.length).since ≤ r → r ≤ 60 → canM S ⟨r, n, o⟩ = true) := fun h1 h2 h3 h4 => hcan.out.trans (follows_is.2 ⟨h1, by rw [posQ_n]; exact h2, h3, h4⟩)
  have hpsq := posQ_since q D.length
  generalize (posQ q D.length).since = ps at *
  have hps : ps < 1000 := by omega
  have hO4 := hO
  obtain ⟨w5, hw5, hE, hq⟩ := new_var w4 37 (entC ent0) (entC ⟨r, n, o⟩)
  replace hX := hX.later hq
  replace hS8 := hS8.later hq
  replace hO := hO.later hq
  replace hb := hb.trans (hq.mono hb.size)
  clear hq hcan
  have hta := add_ok (s := S) (e := ⟨r, n, o⟩) hSo heo
  have hadd := fun W (hW : Sl W ro rc 8 (entR S.log)) => add_any S ro rc ⟨r, n, o⟩ W hSo heo hW
  have hah : Hid _ := fun h => add_headM (s := S) (e := ⟨r, n, o⟩) h
  have haf : Hid _ := fun h => add_find (s := S) (e := ⟨r, n, o⟩) h
  have hay : Hid (canM S ⟨r, n, o⟩ = true → (addM S ⟨r, n, o⟩).2 = 0) := fun h => by rw [add_yes h]
  generalize addM S ⟨r, n, o⟩ = A at *
  generalize canM S ⟨r, n, o⟩ = cn at *
  go_wp2_with (first
    | (refine wpList_val (.int .u32 (r : Int)) (by rfl) (run_rem_u32 _ _ _ _ rfl since 70 r rfl rfl hsince (by decide) hr.out) ?_)
    | (refine wpList_load_has (by rfl) 35 _ rfl w.heap.size rfl 35 (opC o) _ Try.underlying35 rfl (op_size _) ?hg ?_; (case hg => first | exact hO4 | exact hO))
    | (refine wpList_build_three (by rfl) 37 0 1 2 _ _ _ rfl (.int .u32 (r : Int)) (.int .u32 (n : Int)) (.agg (opC o)) rfl rfl rfl (entC ⟨r, n, o⟩) (ent_built _ _ _) ?_)
    | (refine wpList_alloc_has (by rfl) 37 rfl (entC ent0) ent_zero ?_)
    | (refine wpList_store_to (by rfl) 37 _ _ rfl w4.heap.size rfl (entC ⟨r, n, o⟩) rfl 37 (entC ent0) (ent_size _) rfl (ent_one _) ?hg w5 ?hW ?_; (case hg => exact Has.new _ _ _); (case hW => exact hw5); clear hw5; generalize w4.heap.size = ge at *)
    | (refine wpList_load_has (by rfl) 37 _ rfl ge rfl 37 (entC ⟨r, n, o⟩) _ Try.underlying37 rfl (ent_size _) ?hg ?_; (case hg => exact hE))
    | (refine wpList_load_has (by rfl) 40 _ rfl (gs) rfl 40 (stC S ro rc) _ Try.underlying40 rfl (st_size _ _ _) ?hg ?_; (case hg => exact hX)))
  refine (hadd _ hS8).mono ?_
  rintro e w6 ⟨xo, xc, rfl, hG⟩
  have hT8 := hG.sl
  replace hE := hE.later hG.below
  replace hO := hO.later hG.below
  replace hb := hb.trans (hG.below.mono hb.size)
  clear hG hadd hX hS8 hO4
  obtain ⟨w7, hw7, hT, hq⟩ := new_var w6 40 (stC st0 none 0) (stC A.1 xo xc)
  replace hE := hE.later hq
  replace hO := hO.later hq
  replace hT8 := hT8.later hq
  replace hb := hb.trans (hq.mono hb.size)
  clear hq
  have e0 : w7.cell? ⟨ge, 0, none⟩ = some (.int .u32 (r : Int)) := hE.ent_since
  by_cases h1 : n = D.length + 1
  · have i1 : ((n : Int) == (D.length : Int) + 1) = true := by rw [beq_iff_eq]; omega
    have hn1 : (n : Int) = (D.length : Int) + 1 := by omega
    by_cases h2 : ps ≤ r
    · have i2 : (ps : Int) ≤ (r : Int) := by omega
      by_cases h3 : r ≤ 60
      · have i3 : (r : Int) ≤ 60 := by omega
        replace h1 : Hid _ := h1
        replace hn1 : Hid _ := hn1
        go_wp2_with (first
          | (refine wpList_alloc_has (by rfl) 40 rfl (stC st0 none 0) st_zero ?_)
          | (refine wpList_store_to (by rfl) 40 _ _ rfl w6.heap.size rfl (stC A.1 xo xc) rfl 40 (stC st0 none 0) (st_size _ _ _) (st_same _ _ _ _ _ _) (st_one _ _ _) ?hg w7 ?hW ?_; (case hg => exact Has.new _ _ _); (case hW => exact hw7); clear hw7; generalize w6.heap.size = gt at *)
          | (refine wpList_load_has (by rfl) 35 _ rfl w.heap.size rfl 35 (opC o) _ Try.underlying35 rfl (op_size _) ?hg ?_; (case hg => exact hO)))
        refine (writes_any o _ ho).mono ?_
        rintro e w8 ⟨rfl, hq⟩
        replace hE := hE.later hq
        replace hT8 := hT8.later hq
        replace hT := hT.later hq
        replace hb := hb.trans (hq.mono hb.size)
        clear hq e0
        cases hw : writesM o with
        | false =>
          have hA := hno.out (.inl hw)
          subst hA
          go_wp2_with (first
            | (refine wpList_load_has (by rfl) 40 _ rfl (gt) rfl 40 (stC st0 xo xc) _ Try.underlying40 rfl (st_size _ _ _) ?hg ?_; (case hg => exact hT))
            | (refine wpList_build_has (by rfl) 40 #[] rfl (stC st0 none 0) (by simpa using st_built0) ?_))
          refine (same_any st0 st0 xo none xc 0 _ st0_ok st0_ok hT8 (Sl.nothing _ _)).mono ?_
          rintro e wz ⟨rfl, hq⟩
          rw [same_self]
          replace hb := hb.trans (hq.mono hb.size)
          clear hq
          go_wp2_with fail
          go_ret
          exact ⟨rfl, hb⟩
        | true =>
          have hcn := hyes.out hw h1.out h2 h3
          have hA2 := hay.out hcn
          have hA3 := hah.out hcn
          have hA4 : Hid _ := haf.out hcn
          rw [hA2]
          have e0 : w8.cell? ⟨ge, 0, none⟩ = some (.int .u32 (r : Int)) := hE.ent_since
          clear hcn hno hyes hah haf hay
          go_wp2_with (first
            | (refine wpList_load_has (by rfl) 40 _ rfl (gt) rfl 40 (stC A.1 xo xc) _ Try.underlying40 rfl (st_size _ _ _) ?hg ?_; (case hg => exact hT)))
          refine (head_any A.1 xo xc _ hta hT8).mono ?_
          rintro e w9 ⟨rfl, hq⟩
          rw [hA3]
          replace hE := hE.later hq
          replace hT8 := hT8.later hq
          replace hT := hT.later hq
          replace hb := hb.trans (hq.mono hb.size)
          clear hq e0
          go_wp2_with (first
            | (refine wpList_load_has (by rfl) 40 _ rfl (gt) rfl 40 (stC A.1 xo xc) _ Try.underlying40 rfl (st_size _ _ _) ?hg ?_; (case hg => exact hT)))
          refine (find_any A.1 xo xc n _ hta hT8 hn).mono ?_
          rintro e wa ⟨rfl, hq⟩
          rw [hA4.out]
          replace hE := hE.later hq
          replace hb := hb.trans (hq.mono hb.size)
          clear hq hT hT8
          obtain ⟨wb, hwb, hF, hq⟩ := new_var wa 37 (entC ent0) (entC ⟨r, n, o⟩)
          replace hE := hE.later hq
          replace hb := hb.trans (hq.mono hb.size)
          clear hq
          have e0 : wb.cell? ⟨ge, 0, none⟩ = some (.int .u32 (r : Int)) := hE.ent_since
          have heq := fun W => eqv_ent ⟨r, n, o⟩ ⟨r, n, o⟩ heo heo W
          rw [same_self] at heq
          go_wp2_with (first
            | (refine wpList_alloc_has (by rfl) 37 rfl (entC ent0) ent_zero ?_)
            | (refine wpList_store_to (by rfl) 37 _ _ rfl wa.heap.size rfl (entC ⟨r, n, o⟩) rfl 37 (entC ent0) (ent_size _) rfl (ent_one _) ?hg wb ?hW ?_; (case hg => exact Has.new _ _ _); (case hW => exact hwb); clear hwb; generalize wa.heap.size = gf at *)
            | (refine wpList_load_has (by rfl) 37 _ rfl gf rfl 37 (entC ⟨r, n, o⟩) _ Try.underlying37 rfl (ent_size _) ?hg ?_; (case hg => exact hF))
            | (refine wpList_load_has (by rfl) 37 _ rfl ge rfl 37 (entC ⟨r, n, o⟩) _ Try.underlying37 rfl (ent_size _) ?hg ?_; (case hg => exact hE))
            | (refine wpList_bin_agg (by rfl) .eql 37 _ _ _ rfl (entC ⟨r, n, o⟩) (entC ⟨r, n, o⟩) rfl rfl (.bool true) guard_ent ?hg ?_; (case hg => exact heq _)))
          go_ret
          exact ⟨rfl, hb⟩
      · have i3 : decide ((r : Int) ≤ 60) = false := by rw [decide_eq_false_iff_not]; omega
        have hA := hno.out (.inr (.inr (.inr h3)))
        subst hA
        replace h1 : Hid _ := h1
        replace hn1 : Hid _ := hn1
        go_wp2_with (first
          | (refine wpList_alloc_has (by rfl) 40 rfl (stC st0 none 0) st_zero ?_)
          | (refine wpList_store_to (by rfl) 40 _ _ rfl w6.heap.size rfl (stC st0 xo xc) rfl 40 (stC st0 none 0) (st_size _ _ _) (st_same _ _ _ _ _ _) (st_one _ _ _) ?hg w7 ?hW ?_; (case hg => exact Has.new _ _ _); (case hW => exact hw7); clear hw7; generalize w6.heap.size = gt at *)
          | (refine wpList_load_has (by rfl) 40 _ rfl (gt) rfl 40 (stC st0 xo xc) _ Try.underlying40 rfl (st_size _ _ _) ?hg ?_; (case hg => exact hT))
          | (refine wpList_build_has (by rfl) 40 #[] rfl (stC st0 none 0) (by simpa using st_built0) ?_))
        refine (same_any st0 st0 xo none xc 0 _ st0_ok st0_ok hT8 (Sl.nothing _ _)).mono ?_
        rintro e wz ⟨rfl, hq⟩
        rw [same_self]
        replace hb := hb.trans (hq.mono hb.size)
        clear hq
        go_wp2_with fail
        go_ret
        exact ⟨rfl, hb⟩
    · have i2 : decide ((ps : Int) ≤ (r : Int)) = false := by rw [decide_eq_false_iff_not]; omega
      have hA := hno.out (.inr (.inr (.inl h2)))
      subst hA
      replace h1 : Hid _ := h1
      replace hn1 : Hid _ := hn1
      go_wp2_with (first
        | (refine wpList_alloc_has (by rfl) 40 rfl (stC st0 none 0) st_zero ?_)
        | (refine wpList_store_to (by rfl) 40 _ _ rfl w6.heap.size rfl (stC st0 xo xc) rfl 40 (stC st0 none 0) (st_size _ _ _) (st_same _ _ _ _ _ _) (st_one _ _ _) ?hg w7 ?hW ?_; (case hg => exact Has.new _ _ _); (case hW => exact hw7); clear hw7; generalize w6.heap.size = gt at *)
        | (refine wpList_load_has (by rfl) 40 _ rfl (gt) rfl 40 (stC st0 xo xc) _ Try.underlying40 rfl (st_size _ _ _) ?hg ?_; (case hg => exact hT))
        | (refine wpList_build_has (by rfl) 40 #[] rfl (stC st0 none 0) (by simpa using st_built0) ?_))
      refine (same_any st0 st0 xo none xc 0 _ st0_ok st0_ok hT8 (Sl.nothing _ _)).mono ?_
      rintro e wz ⟨rfl, hq⟩
      rw [same_self]
      replace hb := hb.trans (hq.mono hb.size)
      clear hq
      go_wp2_with fail
      go_ret
      exact ⟨rfl, hb⟩
  · have i1 : ((n : Int) == (D.length : Int) + 1) = false := by rw [beq_eq_false_iff_ne]; omega
    have hA := hno.out (.inr (.inl h1))
    subst hA
    replace h1 : Hid _ := h1
    go_wp2_with (first
      | (refine wpList_alloc_has (by rfl) 40 rfl (stC st0 none 0) st_zero ?_)
      | (refine wpList_store_to (by rfl) 40 _ _ rfl w6.heap.size rfl (stC st0 xo xc) rfl 40 (stC st0 none 0) (st_size _ _ _) (st_same _ _ _ _ _ _) (st_one _ _ _) ?hg w7 ?hW ?_; (case hg => exact Has.new _ _ _); (case hW => exact hw7); clear hw7; generalize w6.heap.size = gt at *)
      | (refine wpList_load_has (by rfl) 40 _ rfl (gt) rfl 40 (stC st0 xo xc) _ Try.underlying40 rfl (st_size _ _ _) ?hg ?_; (case hg => exact hT))
      | (refine wpList_build_has (by rfl) 40 #[] rfl (stC st0 none 0) (by simpa using st_built0) ?_))
    refine (same_any st0 st0 xo none xc 0 _ st0_ok st0_ok hT8 (Sl.nothing _ _)).mono ?_
    rintro e wz ⟨rfl, hq⟩
    rw [same_self]
    replace hb := hb.trans (hq.mono hb.size)
    clear hq
    go_wp2_with fail
    go_ret
    exact ⟨rfl, hb⟩
end Go.Proofs.Ytkkjdihmjcaibaa
