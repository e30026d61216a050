/- The contracts of the law's own helpers state and tops. -/
import Derived.Test.YtphlfepgaghhhabStateMath
namespace Go.Proofs.Ytphlfepgaghhhab
set_option linter.unusedSimpArgs false
set_option linter.unusedVariables false
set_option maxRecDepth 100000
open Go.RowKit

theorem op_built08 : Try.prog.built 37 [] = some (opC op0) := by kernel_rfl
theorem run_sub_i64_8 {P : Program} {o : Oper} {ev : Operand → Value} (ty ty' : TypeId) (x y : Operand) (ho : o.op = .binOp .sub ty x y ty') (n m k : Nat) (hx : ev x = .int .i64 (n : Int)) (hy : ev y = .int .i64 (m : Int)) (hk : n = m + k) (hl : k < 4294967296) (w : World) :
    (execOp ev o).run P w = .ok (.value (.int .i64 (k : Int))) w := by
  subst hk
  have h4 : IntKind.i64.wrap (((m + k : Nat) : Int) - (m : Int)) = (k : Int) := by
    rw [show ((m + k : Nat) : Int) - (m : Int) = (k : Int) by omega]
    simp [IntKind.wrap, IntKind.bits, IntKind.signed]
    omega
  unfold execOp
  simp only [ho, hx, hy]
  simp only [Sem.run_bind, go_sem, h4]
  simp [go_sem, h4]
theorem run_sub_u32_8 {P : Program} {o : Oper} {ev : Operand → Value} (ty ty' : TypeId) (x y : Operand) (ho : o.op = .binOp .sub ty x y ty') (n m k : Nat) (hx : ev x = .int .u32 (n : Int)) (hy : ev y = .int .u32 (m : Int)) (hk : n = m + k) (hl : k < 4294967296) (w : World) :
    (execOp ev o).run P w = .ok (.value (.int .u32 (k : Int))) w := by
  subst hk
  have h4 : IntKind.u32.wrap (((m + k : Nat) : Int) - (m : Int)) = (k : Int) := by
    rw [show ((m + k : Nat) : Int) - (m : Int) = (k : Int) by omega]
    simp [IntKind.wrap, IntKind.bits, IntKind.signed]
    omega
  unfold execOp
  simp only [ho, hx, hy]
  simp only [Sem.run_bind, go_sem, h4]
  simp [go_sem, h4]
theorem u32_small8 (n : Nat) (h : n < 4294967296) : IntKind.u32.wrap (n : Int) = (n : Int) := by
  simp [IntKind.wrap, IntKind.bits, IntKind.signed]
  omega
theorem Sl.op_len {w : World} {ao : Option Addr} {c : Nat} {l : List OpV} (h : Sl w ao c 6 (opR l)) : l.length ≤ c := by have := h.le; rw [opR_len] at this; exact this

set_option maxHeartbeats 4000000 in
theorem state_any (ao bo : Option Addr) (c d since fold started : Nat) (l own : List OpV) (w : World) (h : Sl w ao c 6 (opR l)) (h' : Sl w bo d 6 (opR own)) (hl : ∀ x ∈ l, OpOk x) (ho : ∀ x ∈ own, OpOk x) (hn1 : l.length ≤ 100) (hn2 : own.length ≤ 100) (hsince : since < 4294967296) (hfold : fold < 256) (hst : started < 4294967296) :
    Calls Try.prog 6 #[.slice ao l.length c, .slice bo own.length d, .int .u32 (since : Int), .int .u8 (fold : Int), .int .u32 (started : Int)] w fun en w' => ∃ ro rc, en = .returned (.agg (stC (stM l own since fold started) ro rc)) ∧ Gives w w' (stM l own since fold started) ro rc := by
  obtain ⟨w1, hw1, hR, hX, hb⟩ := two_vars w 42 42 (stC st0 none 0) (stC st0 none 0)
  obtain ⟨r0, hr0⟩ : ∃ r, started % 60 = r := ⟨_, rfl⟩
  obtain ⟨r, hr⟩ : ∃ r, since % 20 = r := ⟨_, rfl⟩
  obtain ⟨q, hq2⟩ : ∃ q, r + 2 = q := ⟨_, rfl⟩
  have hr60 : r0 < 60 := by omega
  have hr20 : r < 20 := by omega
  have hq1 : 2 ≤ q := by omega
  have hq60 : q ≤ 60 := by omega
  have hSM : Hid (stM l own since fold started = full r0 (entA l own q) ((entA l own q).length - 6 + fold % ((entA l own q).length - ((entA l own q).length - 6) + 1))) := by
    show _ = _
    unfold stM
    rw [hr0, hr, hq2]
  replace hr0 : Hid _ := hr0
  replace hr : Hid _ := hr
  replace hq2 : Hid _ := hq2
  have hX1 := hX.row (stC (full r0 [] 0) none 0)
  have hR1 := hR.row_other (k := w.heap.size + 1) (by omega) (stC (full r0 [] 0) none 0)
  have hb1 := below_setRow hb (show w.heap.size ≤ w.heap.size + 1 by omega) (stC (full r0 [] 0) none 0)
  obtain ⟨w2, hw2⟩ : ∃ W, w1.setRow (w.heap.size + 1) (stC (full r0 [] 0) none 0) = W := ⟨_, rfl⟩
  rw [hw2] at hX1 hR1 hb1
  have hle := h.op_len
  have hcap := h.cap
  have hle' := h'.op_len
  have hcap' := h'.cap
  have hrow := fun n => entN_row (n := n) hq1 hq60 hl ho hn1 hn2
  obtain ⟨N, hN⟩ : ∃ N, l.length + own.length = N := ⟨_, rfl⟩
  have hNI : (l.length : Int) + (own.length : Int) = (N : Int) := by omega
  have hN200 : N ≤ 200 := by omega
  go_enter Try.func6, Try.ntmps6
  go_wp2_with (first
    | (refine wpList_alloc_has (by rfl) 42 rfl (stC st0 none 0) st_zero ?_; try rw [alloc_size]; try rw [hw1])
    | (refine wpList_val (.int .u32 (r0 : Int)) (by rfl) (run_rem_u32 _ _ _ _ rfl started 60 r0 rfl rfl hst (by decide) hr0.out) ?_)
    | (refine wpList_build_one (by rfl) 42 0 _ rfl (.int .u32 (r0 : Int)) rfl (stC (full r0 [] 0) none 0) (st_built_started r0) ?_)
    | (refine wpList_store_to (by rfl) 42 _ _ rfl (w.heap.size + 1) rfl (stC (full r0 [] 0) none 0) rfl 42 (stC st0 none 0) (st_size _ _ _) (st_same _ _ _ _ _ _) (st_one _ _ _) ?hg w2 ?hW ?_; (case hg => exact hX); (case hW => exact hw2))
    | fail)
  clear hw1 hw2 hR hX hb
  go_loopw [12] (fun i wr => ∃ (n : Nat) (ro : Option Addr) (rc : Nat), n ≤ N ∧ i = .int .i64 n ∧ Has wr w.heap.size 42 (stC st0 none 0) ∧ Has wr (w.heap.size + 1) 42 (stC (full r0 (entN l own q n) ((entN l own q n).length - 6)) ro rc) ∧ Sl wr ro rc 8 (entR (full r0 (entN l own q n) ((entN l own q n).length - 6)).log) ∧ (∀ d, ro = some d → w.heap.size + 1 < d.block) ∧ Below w.heap.size w wr) (fun i _ => N - (intOf i).toNat)
  case atStart => exact ⟨0, none, 0, Nat.zero_le _, rfl, hR1, by rw [entN_nil]; exact hX1, by rw [entN_nil]; exact Sl.nothing _ _, (fun d hd => by cases hd), hb1⟩
  case round =>
    clear hR1 hX1 hb1
    obtain ⟨n, ro, rc, hn, rfl, hR, hX, hS8, hap, hb⟩ := hrel
    by_cases hlt : n < N
    · have hltI : (n : Int) < (N : Int) := by omega
      obtain ⟨w3, hw3, hO3, hq3⟩ := new_var wr 37 (opC op0) (opC op0)
      have hb3 := hb.trans (hq3.mono hb.size)
      have hEr := hrow n
      have hltg := hX.lt
      by_cases hlow : n < l.length
      · have hlowI : (n : Int) < (l.length : Int) := by omega
        cases ao with
        | none => have := h.nil rfl; omega
        | some ad =>
          have hci := op_at (h.later hb3) n hlow
          have hyo := hl l[n] (List.getElem_mem hlow)
          have hnext : Hid _ := entN_step1 (own := own) (q := q) hlow
          have hat1 := (entN_last (l := l) (own := own) (n := n) hq1 hq60).1 (by omega)
          have hat2 : (1 : Nat) ≤ 60 := by decide
          generalize l[n] = y at *
          generalize entN l own q n = E at *
          have hO := hO3.row (opC y)
          have hq4 := below_setRow hq3 (Nat.le_refl _) (opC y)
          obtain ⟨w4, hw4⟩ : ∃ W, w3.setRow wr.heap.size (opC y) = W := ⟨_, rfl⟩
          rw [hw4] at hO hq4
          replace hR := hR.later hq4
          replace hX := hX.later hq4
          replace hS8 := hS8.later hq4
          replace hb := hb.trans (hq4.mono hb.size)
          clear hq3 hq4 hb3
          have hso : StOk (full r0 E (E.length - 6)) := full_ok hEr hr60
          have hhd : Hid (headM (full r0 E (E.length - 6)) = ((lastE ent0 E).since, E.length)) := full_headM hEr hr60 (by omega)
          have hadd : Hid _ := full_add (st := r0) (o := y) hEr hr60 hat1 hat2
          have hEl := hEr.len
          have heo : EntOk ⟨1, E.length + 1, y⟩ := ⟨by show 1 < _; omega, by show E.length + 1 < _; omega, hyo⟩
          have hElI : (E.length : Int) ≤ 200 := by omega
          go_wp2_with (first
            | (refine wpList_build_has (by rfl) 37 #[] rfl (opC op0) (by simpa using op_built08) ?_)
            | (refine wpList_alloc_has (by rfl) 37 rfl (opC op0) op_zero ?_)
            | (refine wpList_store_to (by rfl) 37 _ _ rfl wr.heap.size rfl (opC op0) rfl 37 (opC op0) (op_size _) rfl (op_one _) ?hg w3 ?hW ?_; (case hg => exact Has.new _ _ _); (case hW => exact hw3))
            | (refine wpList_load_any (by rfl) 37 _ rfl _ rfl (opL y) _ ?hg Try.underlying37 rfl (op_size y) ?_; (case hg => exact hci))
            | (refine wpList_store_to (by rfl) 37 _ _ rfl wr.heap.size rfl (opC y) rfl 37 (opC op0) (op_size _) rfl (op_one _) ?hg w4 ?hW ?_; (case hg => exact hO3); (case hW => exact hw4))
            | (refine wpList_load_has (by rfl) 42 _ rfl (w.heap.size + 1) rfl 42 (stC (full r0 E (E.length - 6)) ro rc) _ Try.underlying42 rfl (st_size _ _ _) ?hg ?_; (case hg => exact hX))
            | fail)
          refine (head_any (full r0 E (E.length - 6)) ro rc _ hso hS8).mono ?_
          rintro en w5 ⟨rfl, hq⟩
          rw [hhd.out]
          replace hR := hR.later hq
          replace hX := hX.later hq
          replace hO := hO.later hq
          replace hS8 := hS8.later hq
          replace hb := hb.trans (hq.mono hb.size)
          clear hq hhd
          generalize (lastE ent0 E).since = ps at *
          go_wp2_with (first
            | (refine wpList_load_has (by rfl) 42 _ rfl (w.heap.size + 1) rfl 42 (stC (full r0 E (E.length - 6)) ro rc) _ Try.underlying42 rfl (st_size _ _ _) ?hg ?_; (case hg => exact hX))
            | (refine wpList_val (.int .u32 ((E.length + 1 : Nat) : Int)) (by rfl) (run_add_u32 _ _ _ _ rfl E.length 1 (E.length + 1) rfl rfl rfl (by omega)) ?_)
            | (refine wpList_load_has (by rfl) 37 _ rfl wr.heap.size rfl 37 (opC y) _ Try.underlying37 rfl (op_size _) ?hg ?_; (case hg => exact hO))
            | (refine wpList_build_three (by rfl) 39 0 1 2 _ _ _ rfl (.int .u32 ((1 : Nat) : Int)) (.int .u32 ((E.length + 1 : Nat) : Int)) (.agg (opC y)) rfl rfl rfl (entC ⟨1, E.length + 1, y⟩) (ent_built _ _ _) ?_)
            | fail)
          refine (add_any (full r0 E (E.length - 6)) ro rc ⟨1, E.length + 1, y⟩ _ hso heo hS8).mono ?_
          rintro en w6 ⟨so, sc, rfl, hG⟩
          have hS6 := hG.sl
          have hlt0 := hX.lt
          have hnew : ∀ d, so = some d → w.heap.size + 1 < d.block := fun d hd => by have := hG.new d hd; omega
          rw [hadd.out] at hS6
          rw [hadd.out]
          replace hR := hR.later hG.below
          replace hX := hX.later hG.below
          replace hS8 := hS8.later hG.below
          replace hb := hb.trans (hG.below.mono hb.size)
          clear hG hadd hO heo hso
          cases hw : writesM y with
          | false =>
            rw [hw, if_neg (by simp)] at hnext
            rw [if_neg (by simp)]
            obtain ⟨w7, hw7, hT, hq⟩ := new_var w6 42 (stC st0 none 0) (stC st0 so sc)
            replace hR := hR.later hq
            replace hX := hX.later hq
            replace hS8 := hS8.later hq
            replace hb := hb.trans (hq.mono hb.size)
            clear hq
            go_wp2_with (first
              | (refine wpList_alloc_has (by rfl) 42 rfl (stC st0 none 0) st_zero ?_)
              | (refine wpList_store_to (by rfl) 42 _ _ rfl w6.heap.size rfl (stC st0 so sc) rfl 42 (stC st0 none 0) (st_size _ _ _) (st_same _ _ _ _ _ _) (st_one _ _ _) ?hg w7 ?hW ?_; (case hg => exact Has.new _ _ _); (case hW => exact hw7); clear hw7)
              | fail)
            go_roundw
            case rel => exact ⟨n + 1, ro, rc, by omega, by go_num, hR, by rw [hnext.out]; exact hX, by rw [hnext.out]; exact hS8, hap, hb⟩
            case measure => simp [intOf]; omega
          | true =>
            rw [hw, if_pos rfl] at hnext
            rw [hw, if_pos rfl] at hS6
            rw [if_pos rfl]
            have hE2 : Hid ((E ++ [(⟨1, E.length + 1, y⟩ : EntV)]).length - 6 = E.length + 1 - 6) := by show _ = _; rw [List.length_append]; rfl
            have hfin : Hid (full r0 (entN l own q (n + 1)) ((entN l own q (n + 1)).length - 6) = full r0 (E ++ [⟨1, E.length + 1, y⟩]) (E.length + 1 - 6)) := by show _ = _; rw [hnext.out, hE2.out]
            generalize full r0 (E ++ [(⟨1, E.length + 1, y⟩ : EntV)]) (E.length + 1 - 6) = F at *
            obtain ⟨w7, hw7, hT, hq⟩ := new_var w6 42 (stC st0 none 0) (stC F so sc)
            replace hR := hR.later hq
            replace hX := hX.later hq
            replace hS6 := hS6.later hq
            replace hb := hb.trans (hq.mono hb.size)
            clear hq
            have hX8 := hX.row (stC F so sc)
            have hR8 := hR.row_other (k := w.heap.size + 1) (by omega) (stC F so sc)
            have hS9 := hS6.row_other (k := w.heap.size + 1) (fun d hd => by have := hnew d hd; omega) (stC F so sc)
            have hb8 := below_setRow hb (show w.heap.size ≤ w.heap.size + 1 by omega) (stC F so sc)
            go_wp2_with (first
              | (refine wpList_alloc_has (by rfl) 42 rfl (stC st0 none 0) st_zero ?_)
              | (refine wpList_store_to (by rfl) 42 _ _ rfl w6.heap.size rfl (stC F so sc) rfl 42 (stC st0 none 0) (st_size _ _ _) (st_same _ _ _ _ _ _) (st_one _ _ _) ?hg w7 ?hW ?_; (case hg => exact Has.new _ _ _); (case hW => exact hw7); clear hw7)
              | (refine wpList_load_has (by rfl) 42 _ rfl (w6.heap.size) rfl 42 (stC F so sc) _ Try.underlying42 rfl (st_size _ _ _) ?hg ?_; (case hg => exact hT))
              | (refine wpList_store_has (by rfl) 42 _ _ rfl (w.heap.size + 1) rfl (stC F so sc) rfl 42 (stC (full r0 E (E.length - 6)) ro rc) (st_size _ _ _) (st_same _ _ _ _ _ _) (st_one _ _ _) ?hg ?_; (case hg => exact hX))
              | fail)
            go_roundw
            case rel => exact ⟨n + 1, so, sc, by omega, by go_num, hR8, by rw [hfin.out]; exact hX8, by rw [hfin.out]; exact hS9, hnew, hb8⟩
            case measure => simp [intOf]; omega
      · have hlowI : ¬ (n : Int) < (l.length : Int) := by omega
        obtain ⟨j, hj⟩ : ∃ j, n = l.length + j := ⟨n - l.length, by omega⟩
        have hjo : j < own.length := by omega
        have hjI : (j : Int) < (own.length : Int) := by omega
        cases bo with
        | none => have := h'.nil rfl; omega
        | some bd =>
          have hci := op_at (h'.later hb3) j hjo
          have hyo := ho own[j] (List.getElem_mem hjo)
          have hnext : Hid _ := entN_step2 (l := l) (own := own) (q := q) (n := n) (by omega) (by omega)
          have hidx : own[n - l.length]'(by omega) = own[j] := by congr 1; omega
          rw [hidx] at hnext
          have hat1 := (entN_last (l := l) (own := own) (n := n) hq1 hq60).2
          have hat2 : q ≤ 60 := hq60
          have hnj : Hid _ := hj
          clear hidx hj
          generalize own[j] = y at *
          generalize entN l own q n = E at *
          have hO := hO3.row (opC y)
          have hq4 := below_setRow hq3 (Nat.le_refl _) (opC y)
          obtain ⟨w4, hw4⟩ : ∃ W, w3.setRow wr.heap.size (opC y) = W := ⟨_, rfl⟩
          rw [hw4] at hO hq4
          replace hR := hR.later hq4
          replace hX := hX.later hq4
          replace hS8 := hS8.later hq4
          replace hb := hb.trans (hq4.mono hb.size)
          clear hq3 hq4 hb3
          have hso : StOk (full r0 E (E.length - 6)) := full_ok hEr hr60
          have hhd : Hid (headM (full r0 E (E.length - 6)) = ((lastE ent0 E).since, E.length)) := full_headM hEr hr60 (by omega)
          have hadd : Hid _ := full_add (st := r0) (o := y) hEr hr60 hat1 hat2
          have hEl := hEr.len
          have heo : EntOk ⟨q, E.length + 1, y⟩ := ⟨by show q < _; omega, by show E.length + 1 < _; omega, hyo⟩
          have hElI : (E.length : Int) ≤ 200 := by omega
          go_wp2_with (first
            | (refine wpList_build_has (by rfl) 37 #[] rfl (opC op0) (by simpa using op_built08) ?_)
            | (refine wpList_alloc_has (by rfl) 37 rfl (opC op0) op_zero ?_)
            | (refine wpList_store_to (by rfl) 37 _ _ rfl wr.heap.size rfl (opC op0) rfl 37 (opC op0) (op_size _) rfl (op_one _) ?hg w3 ?hW ?_; (case hg => exact Has.new _ _ _); (case hW => exact hw3))
            | (refine wpList_load_any (by rfl) 37 _ rfl _ rfl (opL y) _ ?hg Try.underlying37 rfl (op_size y) ?_; (case hg => exact hci))
            | (refine wpList_store_to (by rfl) 37 _ _ rfl wr.heap.size rfl (opC y) rfl 37 (opC op0) (op_size _) rfl (op_one _) ?hg w4 ?hW ?_; (case hg => exact hO3); (case hW => exact hw4))
            | (refine wpList_val (.int .i64 (j : Int)) (by rfl) (run_sub_i64_8 _ _ _ _ rfl n l.length j rfl rfl hnj.out (by omega)) ?_)
            | (refine wpList_val (.int .u32 (r : Int)) (by rfl) (run_rem_u32 _ _ _ _ rfl since 20 r rfl rfl hsince (by decide) hr.out) ?_)
            | (refine wpList_val (.int .u32 (q : Int)) (by rfl) (run_add_u32 _ _ _ _ rfl r 2 q rfl rfl hq2.out (by omega)) ?_)
            | (refine wpList_load_has (by rfl) 42 _ rfl (w.heap.size + 1) rfl 42 (stC (full r0 E (E.length - 6)) ro rc) _ Try.underlying42 rfl (st_size _ _ _) ?hg ?_; (case hg => exact hX))
            | fail)
          refine (head_any (full r0 E (E.length - 6)) ro rc _ hso hS8).mono ?_
          rintro en w5 ⟨rfl, hq⟩
          rw [hhd.out]
          replace hR := hR.later hq
          replace hX := hX.later hq
          replace hO := hO.later hq
          replace hS8 := hS8.later hq
          replace hb := hb.trans (hq.mono hb.size)
          clear hq hhd
          generalize (lastE ent0 E).since = ps at *
          go_wp2_with (first
            | (refine wpList_load_has (by rfl) 42 _ rfl (w.heap.size + 1) rfl 42 (stC (full r0 E (E.length - 6)) ro rc) _ Try.underlying42 rfl (st_size _ _ _) ?hg ?_; (case hg => exact hX))
            | (refine wpList_val (.int .u32 ((E.length + 1 : Nat) : Int)) (by rfl) (run_add_u32 _ _ _ _ rfl E.length 1 (E.length + 1) rfl rfl rfl (by omega)) ?_)
            | (refine wpList_load_has (by rfl) 37 _ rfl wr.heap.size rfl 37 (opC y) _ Try.underlying37 rfl (op_size _) ?hg ?_; (case hg => exact hO))
            | (refine wpList_build_three (by rfl) 39 0 1 2 _ _ _ rfl (.int .u32 ((q : Nat) : Int)) (.int .u32 ((E.length + 1 : Nat) : Int)) (.agg (opC y)) rfl rfl rfl (entC ⟨q, E.length + 1, y⟩) (ent_built _ _ _) ?_)
            | fail)
          refine (add_any (full r0 E (E.length - 6)) ro rc ⟨q, E.length + 1, y⟩ _ hso heo hS8).mono ?_
          rintro en w6 ⟨so, sc, rfl, hG⟩
          have hS6 := hG.sl
          have hlt0 := hX.lt
          have hnew : ∀ d, so = some d → w.heap.size + 1 < d.block := fun d hd => by have := hG.new d hd; omega
          rw [hadd.out] at hS6
          rw [hadd.out]
          replace hR := hR.later hG.below
          replace hX := hX.later hG.below
          replace hS8 := hS8.later hG.below
          replace hb := hb.trans (hG.below.mono hb.size)
          clear hG hadd hO heo hso
          cases hw : writesM y with
          | false =>
            rw [hw, if_neg (by simp)] at hnext
            rw [if_neg (by simp)]
            obtain ⟨w7, hw7, hT, hq⟩ := new_var w6 42 (stC st0 none 0) (stC st0 so sc)
            replace hR := hR.later hq
            replace hX := hX.later hq
            replace hS8 := hS8.later hq
            replace hb := hb.trans (hq.mono hb.size)
            clear hq
            go_wp2_with (first
              | (refine wpList_alloc_has (by rfl) 42 rfl (stC st0 none 0) st_zero ?_)
              | (refine wpList_store_to (by rfl) 42 _ _ rfl w6.heap.size rfl (stC st0 so sc) rfl 42 (stC st0 none 0) (st_size _ _ _) (st_same _ _ _ _ _ _) (st_one _ _ _) ?hg w7 ?hW ?_; (case hg => exact Has.new _ _ _); (case hW => exact hw7); clear hw7)
              | fail)
            go_roundw
            case rel => exact ⟨n + 1, ro, rc, by omega, by go_num, hR, by rw [hnext.out]; exact hX, by rw [hnext.out]; exact hS8, hap, hb⟩
            case measure => simp [intOf]; omega
          | true =>
            rw [hw, if_pos rfl] at hnext
            rw [hw, if_pos rfl] at hS6
            rw [if_pos rfl]
            have hE2 : Hid ((E ++ [(⟨q, E.length + 1, y⟩ : EntV)]).length - 6 = E.length + 1 - 6) := by show _ = _; rw [List.length_append]; rfl
            have hfin : Hid (full r0 (entN l own q (n + 1)) ((entN l own q (n + 1)).length - 6) = full r0 (E ++ [⟨q, E.length + 1, y⟩]) (E.length + 1 - 6)) := by show _ = _; rw [hnext.out, hE2.out]
            generalize full r0 (E ++ [(⟨q, E.length + 1, y⟩ : EntV)]) (E.length + 1 - 6) = F at *
            obtain ⟨w7, hw7, hT, hq⟩ := new_var w6 42 (stC st0 none 0) (stC F so sc)
            replace hR := hR.later hq
            replace hX := hX.later hq
            replace hS6 := hS6.later hq
            replace hb := hb.trans (hq.mono hb.size)
            clear hq
            have hX8 := hX.row (stC F so sc)
            have hR8 := hR.row_other (k := w.heap.size + 1) (by omega) (stC F so sc)
            have hS9 := hS6.row_other (k := w.heap.size + 1) (fun d hd => by have := hnew d hd; omega) (stC F so sc)
            have hb8 := below_setRow hb (show w.heap.size ≤ w.heap.size + 1 by omega) (stC F so sc)
            go_wp2_with (first
              | (refine wpList_alloc_has (by rfl) 42 rfl (stC st0 none 0) st_zero ?_)
              | (refine wpList_store_to (by rfl) 42 _ _ rfl w6.heap.size rfl (stC F so sc) rfl 42 (stC st0 none 0) (st_size _ _ _) (st_same _ _ _ _ _ _) (st_one _ _ _) ?hg w7 ?hW ?_; (case hg => exact Has.new _ _ _); (case hW => exact hw7); clear hw7)
              | (refine wpList_load_has (by rfl) 42 _ rfl (w6.heap.size) rfl 42 (stC F so sc) _ Try.underlying42 rfl (st_size _ _ _) ?hg ?_; (case hg => exact hT))
              | (refine wpList_store_has (by rfl) 42 _ _ rfl (w.heap.size + 1) rfl (stC F so sc) rfl 42 (stC (full r0 E (E.length - 6)) ro rc) (st_size _ _ _) (st_same _ _ _ _ _ _) (st_one _ _ _) ?hg ?_; (case hg => exact hX))
              | fail)
            go_roundw
            case rel => exact ⟨n + 1, so, sc, by omega, by go_num, hR8, by rw [hfin.out]; exact hX8, by rw [hfin.out]; exact hS9, hnew, hb8⟩
            case measure => simp [intOf]; omega
    · have e5 : n = N := by omega
      rw [e5, ← hN, entN_all] at hX hS8
      have hEr := hrow N
      rw [← hN, entN_all] at hEr
      have hlt5I : ¬ (n : Int) < (N : Int) := by omega
      clear hrow e5
      generalize entA l own q = E at *
      have hso : StOk (full r0 E (E.length - 6)) := full_ok hEr hr60
      have hhd : Hid (headM (full r0 E (E.length - 6)) = ((lastE ent0 E).since, E.length)) := full_headM hEr hr60 (by omega)
      obtain ⟨t, ht⟩ : ∃ t, E.length - 6 = t := ⟨_, rfl⟩
      obtain ⟨m, hm⟩ : ∃ m, E.length - t = m := ⟨_, rfl⟩
      obtain ⟨e, he⟩ : ∃ e, fold % (m + 1) = e := ⟨_, rfl⟩
      obtain ⟨k, hk⟩ : ∃ k, t + e = k := ⟨_, rfl⟩
      have hEl := hEr.len
      have hel : e < m + 1 := by rw [← he]; exact Nat.mod_lt _ (by omega)
      have htm : Hid _ := full_tailM (st := r0) (k := E.length - 6) (n := k) hEr hr60 (by omega) (by omega) (by omega) (by omega)
      have htn : Hid ((full r0 E (E.length - 6)).tail.n = t) := by show _ = _; rw [full_tail_n hEr (by omega), ht]
      rw [ht] at hso hhd htm htn hX hS8 hSM
      rw [hm, he, hk] at hSM
      have hkm : k ≤ E.length := by omega
      have hmE : Hid (E.length = t + m) := show _ = _ by omega
      have hfo : StOk (full r0 E k) := full_ok hEr hr60
      replace ht : Hid _ := ht
      replace hm : Hid _ := hm
      replace he : Hid _ := he
      replace hk : Hid _ := hk
      have hElI : (E.length : Int) ≤ 200 := by omega
      go_wp2_with (first
        | (refine wpList_load_has (by rfl) 42 _ rfl (w.heap.size + 1) rfl 42 (stC (full r0 E t) ro rc) _ Try.underlying42 rfl (st_size _ _ _) ?hg ?_; (case hg => exact hX))
        | fail)
      refine (head_any (full r0 E t) ro rc _ hso hS8).mono ?_
      rintro en w5 ⟨rfl, hq⟩
      rw [hhd.out]
      replace hR := hR.later hq
      replace hX := hX.later hq
      replace hS8 := hS8.later hq
      replace hb := hb.trans (hq.mono hb.size)
      clear hq hhd
      generalize (lastE ent0 E).since = ps at *
      have hltX := hX.lt
      have hva := fun W (hS : Sl W ro rc 8 (entR (full r0 E t).log)) => tail_any (full r0 E t) ro rc k W hso hS (by omega)
      have htn2 : ∀ W, Has W (w.heap.size + 1) 42 (stC (full r0 E t) ro rc) → W.cell? ⟨w.heap.size + 1, 41, none⟩ = some (.int .u32 (t : Int)) := fun W hW => by
        have := hW.st_tail_n
        rw [htn.out] at this
        exact this
      generalize hF : full r0 E k = F at *
      generalize full r0 E t = T at *
      have hbA : Below w5.heap.size w5 w5.drew := (Below.refl _ _).drew
      go_wp2_with fail
      refine wp_region_plan (fun W => Below w5.heap.size w5 W) (Plan.of [(0, true), (1, true), (2, true), (3, true), (4, true), (5, true), (6, true), (7, true), (8, true), (9, true), (10, true), (11, true), (12, true), (13, true)] (.either 14 (Plan.of [(15, true), (16, true), (17, true), (18, false), (19, false), (20, true)] .done) 18 (Plan.of [(14, false), (15, true), (16, true), (17, true), (19, false), (20, true)] .done))) (by kernel_rfl) (by kernel_rfl) (by kernel_rfl) (by kernel_rfl) hbA ?_
      refine plan_take _ _ rfl (yields_load_has (by rfl) 42 _ rfl (w.heap.size + 1) rfl 42 (stC T ro rc) _ Try.underlying42 rfl (st_size _ _ _) (fun W hW => hX.later hW)) ?_
      try simp only [Act.put, List.setIfInBounds_toArray, List.set_cons_zero, List.set_cons_succ]
      iterate 2
        first
          | (refine plan_pass _ rfl (by rfl) ?_)
          | (refine plan_take _ _ rfl (.inl ⟨by rfl, fun W hS => by clear hS; go_simp; try with_reducible rfl⟩) ?_)
        try simp only [Act.put, List.setIfInBounds_toArray, List.set_cons_zero, List.set_cons_succ]
      iterate 1
        first
          | (refine plan_pass _ rfl (by rfl) ?_)
          | (refine plan_take _ _ rfl (.inl ⟨by rfl, fun W hS => by have z0 := htn2 W (hX.later hS); go_simp; try with_reducible rfl⟩) ?_)
        try simp only [Act.put, List.setIfInBounds_toArray, List.set_cons_zero, List.set_cons_succ]
      iterate 1
        first
          | (refine plan_pass _ rfl (by rfl) ?_)
          | (refine plan_take _ _ rfl (.inl ⟨by rfl, fun W hS => by clear hS; go_simp; try with_reducible rfl⟩) ?_)
        try simp only [Act.put, List.setIfInBounds_toArray, List.set_cons_zero, List.set_cons_succ]
      refine plan_take _ (.int .u32 (fold : Int)) rfl (.inl ⟨by rfl, fun W hS => by clear hS; go_simp; first | exact u32_small8 _ (by omega) | with_reducible rfl⟩) ?_
      try simp only [Act.put, List.setIfInBounds_toArray, List.set_cons_zero, List.set_cons_succ]
      iterate 3
        first
          | (refine plan_pass _ rfl (by rfl) ?_)
          | (refine plan_take _ _ rfl (.inl ⟨by rfl, fun W hS => by clear hS; go_simp; try with_reducible rfl⟩) ?_)
        try simp only [Act.put, List.setIfInBounds_toArray, List.set_cons_zero, List.set_cons_succ]
      iterate 1
        first
          | (refine plan_pass _ rfl (by rfl) ?_)
          | (refine plan_take _ _ rfl (.inl ⟨by rfl, fun W hS => by have z0 := htn2 W (hX.later hS); go_simp; try with_reducible rfl⟩) ?_)
        try simp only [Act.put, List.setIfInBounds_toArray, List.set_cons_zero, List.set_cons_succ]
      refine plan_take _ (.int .u32 (m : Int)) rfl (.inl ⟨by rfl, fun W _ => run_sub_u32_8 _ _ _ _ rfl E.length t m rfl rfl hmE.out (by have := hmE.out; omega) W⟩) ?_
      try simp only [Act.put, List.setIfInBounds_toArray, List.set_cons_zero, List.set_cons_succ]
      refine plan_take _ (.int .u32 ((m + 1 : Nat) : Int)) rfl (.inl ⟨by rfl, fun W _ => run_add_u32 _ _ _ _ rfl m 1 (m + 1) rfl rfl rfl (by have := hmE.out; omega) W⟩) ?_
      try simp only [Act.put, List.setIfInBounds_toArray, List.set_cons_zero, List.set_cons_succ]
      refine plan_take _ (.int .u32 (e : Int)) rfl (.inl ⟨by rfl, fun W _ => run_rem_u32 _ _ _ _ rfl fold (m + 1) e rfl rfl (by omega) (by omega) he.out W⟩) ?_
      try simp only [Act.put, List.setIfInBounds_toArray, List.set_cons_zero, List.set_cons_succ]
      refine plan_take _ (.int .u32 (k : Int)) rfl (.inl ⟨by rfl, fun W _ => run_add_u32 _ _ _ _ rfl t e k rfl rfl hk.out (by omega) W⟩) ?_
      try simp only [Act.put, List.setIfInBounds_toArray, List.set_cons_zero, List.set_cons_succ]
      refine plan_either ?_ ?_
      · refine plan_run _ rfl (fun K hK => ?_)
        go_simp
        refine (hva _ (hS8.later hbA)).mono ?_
        rintro en w6 ⟨so, sc, rfl, hG⟩
        rw [htm.out] at hG
        rw [htm.out]
        have hb6 : Below w5.heap.size w5 w6 := hbA.trans (hG.below.mono hbA.size)
        have hnew : ∀ d, so = some d → w5.heap.size ≤ d.block := fun d hd => hG.new d hd
        refine hK.out _ _ hb6 ?_
        clear hK K
        try simp only [Act.put, List.setIfInBounds_toArray, List.set_cons_zero, List.set_cons_succ]
        iterate 3
          first
            | (refine plan_pass _ rfl (by rfl) ?_)
            | (refine plan_take _ _ rfl (.inl ⟨by rfl, fun W hS => by clear hS; go_simp; try with_reducible rfl⟩) ?_)
          try simp only [Act.put, List.setIfInBounds_toArray, List.set_cons_zero, List.set_cons_succ]
        refine plan_alloc_has _ rfl (by rfl) 42 rfl (stC st0 none 0) st_zero (hb6.alloc hb6.size _) ?_
        try simp only [Act.put, List.setIfInBounds_toArray, List.set_cons_zero, List.set_cons_succ]
        obtain ⟨w7, hw7, hT, hq⟩ := new_var w6 42 (stC st0 none 0) (stC F so sc)
        have hb7 : Below w5.heap.size w5 w7 := hb6.trans (hq.mono hb6.size)
        have hsl7 := hG.sl.later hq
        have hgt : w5.heap.size ≤ w6.heap.size := hb6.size
        refine plan_store_has _ rfl (by rfl) 42 _ _ rfl w6.heap.size rfl (stC F so sc) rfl 42 (stC st0 none 0) (st_size _ _ _) (st_same _ _ _ _ _ _) (st_one _ _ _) (Has.new _ _ _) (by rw [hw7]; exact hb7) ?_
        rw [hw7]
        try simp only [Act.put, List.setIfInBounds_toArray, List.set_cons_zero, List.set_cons_succ]
        iterate 1
          first
            | (refine plan_pass _ rfl (by rfl) ?_)
            | (refine plan_take _ _ rfl (.inl ⟨by rfl, fun W hS => by clear hS; go_simp; try with_reducible rfl⟩) ?_)
          try simp only [Act.put, List.setIfInBounds_toArray, List.set_cons_zero, List.set_cons_succ]
        refine plan_done ?_
        clear hw7 hq hG hb6 hva
        generalize w6.heap.size = gt at *
        have hR7 := hR.later hb7
        have hX7 := hX.later hb7
        have hS7 := hS8.later hb7
        have hb9 := hb.trans (hb7.mono hb.size)
        have hlt9 := hX.lt
        have hXz := hX7.row (stC F so sc)
        have hRz := hR7.row_other (k := w.heap.size + 1) (by omega) (stC F so sc)
        have hSz := hsl7.row_other (k := w.heap.size + 1) (fun d hd => by have := hnew d hd; omega) (stC F so sc)
        have hbz := below_setRow hb9 (show w.heap.size ≤ w.heap.size + 1 by omega) (stC F so sc)
        obtain ⟨w9, hw9⟩ : ∃ W, w7.setRow (w.heap.size + 1) (stC F so sc) = W := ⟨_, rfl⟩
        rw [hw9] at hXz hRz hSz hbz
        have hz := hRz.row (stC F so sc)
        have hsl := hSz.row_other (k := w.heap.size) (fun d hd => by have := hnew d hd; omega) (stC F so sc)
        have hbf := below_setRow hbz (Nat.le_refl _) (stC F so sc)
        have hgn : ∀ d, so = some d → w.heap.size ≤ d.block := fun d hd => by have := hnew d hd; omega
        clear hX hR hS8 hS7
        go_wp2_with (first
          | (refine wpList_load_has (by rfl) 42 _ rfl (gt) rfl 42 (stC F so sc) _ Try.underlying42 rfl (st_size _ _ _) ?hg ?_; (case hg => exact hT))
          | (refine wpList_store_to (by rfl) 42 _ _ rfl (w.heap.size + 1) rfl (stC F so sc) rfl 42 (stC T ro rc) (st_size _ _ _) (st_same _ _ _ _ _ _) (st_one _ _ _) ?hg w9 ?hW ?_; (case hg => exact hX7); (case hW => exact hw9))
          | (refine wpList_load_has (by rfl) 42 _ rfl (w.heap.size + 1) rfl 42 (stC F so sc) _ Try.underlying42 rfl (st_size _ _ _) ?hg ?_; (case hg => exact hXz))
          | (refine wpList_store_has (by rfl) 42 _ _ rfl (w.heap.size) rfl (stC F so sc) rfl 42 (stC st0 none 0) (st_size _ _ _) (st_same _ _ _ _ _ _) (st_one _ _ _) ?hg ?_; (case hg => exact hRz))
          | fail)
        refine ret_has rfl w.heap.size rfl 42 (stC F so sc) _ Try.underlying42 rfl (st_size _ _ _) hz rfl ⟨so, sc, by rw [hSM.out], ?_⟩
        rw [hSM.out]
        exact ⟨hsl, hgn, hbf⟩
      · refine plan_alloc_has _ rfl (by rfl) 42 rfl (stC st0 none 0) st_zero (hbA.alloc hbA.size _) ?_
        try simp only [Act.put, List.setIfInBounds_toArray, List.set_cons_zero, List.set_cons_succ]
        obtain ⟨w6, hw6, hT, hq⟩ : ∃ W, w5.drew.alloc (.cells (stC st0 none 0) 42) = W ∧ Has W w5.heap.size 42 (stC st0 none 0) ∧ Below w5.heap.size w5.drew W := one_var w5.drew 42 (stC st0 none 0)
        rw [hw6]
        have hb6 : Below w5.heap.size w5 w6 := hbA.trans (hq.mono hbA.size)
        have hgt : w5.heap.size ≤ w5.heap.size := Nat.le_refl _
        have hlt3 := hT.lt
        clear hq hw6
        refine plan_run _ rfl (fun K hK => ?_)
        go_simp
        refine (hva _ (hS8.later hb6)).mono ?_
        rintro en w8 ⟨so, sc, rfl, hG⟩
        rw [htm.out] at hG
        rw [htm.out]
        have hb8 : Below w5.heap.size w5 w8 := hb6.trans (hG.below.mono hb6.size)
        have hnew : ∀ d, so = some d → w5.heap.size ≤ d.block := fun d hd => by have := hG.new d hd; have := hb6.size; omega
        have hnet : ∀ d, so = some d → d.block ≠ w5.heap.size := fun d hd => by have := hG.new d hd; omega
        refine hK.out _ _ hb8 ?_
        clear hK K
        try simp only [Act.put, List.setIfInBounds_toArray, List.set_cons_zero, List.set_cons_succ]
        iterate 3
          first
            | (refine plan_pass _ rfl (by rfl) ?_)
            | (refine plan_take _ _ rfl (.inl ⟨by rfl, fun W hS => by clear hS; go_simp; try with_reducible rfl⟩) ?_)
          try simp only [Act.put, List.setIfInBounds_toArray, List.set_cons_zero, List.set_cons_succ]
        replace hT := hT.later hG.below
        have hT7 := hT.row (stC F so sc)
        have hb7 := below_setRow hb8 hgt (stC F so sc)
        have hsl7 := hG.sl.row_other hnet (stC F so sc)
        refine plan_store_has _ rfl (by rfl) 42 _ _ rfl w5.heap.size rfl (stC F so sc) rfl 42 (stC st0 none 0) (st_size _ _ _) (st_same _ _ _ _ _ _) (st_one _ _ _) hT hb7 ?_
        try simp only [Act.put, List.setIfInBounds_toArray, List.set_cons_zero, List.set_cons_succ]
        iterate 1
          first
            | (refine plan_pass _ rfl (by rfl) ?_)
            | (refine plan_take _ _ rfl (.inl ⟨by rfl, fun W hS => by clear hS; go_simp; try with_reducible rfl⟩) ?_)
          try simp only [Act.put, List.setIfInBounds_toArray, List.set_cons_zero, List.set_cons_succ]
        refine plan_done ?_
        replace hT := hT7
        clear hG hb8 hva hT7 hnet hlt3 hb6
        generalize w8.setRow w5.heap.size (stC F so sc) = w7 at *
        have hR7 := hR.later hb7
        have hX7 := hX.later hb7
        have hS7 := hS8.later hb7
        have hb9 := hb.trans (hb7.mono hb.size)
        have hlt9 := hX.lt
        have hXz := hX7.row (stC F so sc)
        have hRz := hR7.row_other (k := w.heap.size + 1) (by omega) (stC F so sc)
        have hSz := hsl7.row_other (k := w.heap.size + 1) (fun d hd => by have := hnew d hd; omega) (stC F so sc)
        have hbz := below_setRow hb9 (show w.heap.size ≤ w.heap.size + 1 by omega) (stC F so sc)
        obtain ⟨w9, hw9⟩ : ∃ W, w7.setRow (w.heap.size + 1) (stC F so sc) = W := ⟨_, rfl⟩
        rw [hw9] at hXz hRz hSz hbz
        have hz := hRz.row (stC F so sc)
        have hsl := hSz.row_other (k := w.heap.size) (fun d hd => by have := hnew d hd; omega) (stC F so sc)
        have hbf := below_setRow hbz (Nat.le_refl _) (stC F so sc)
        have hgn : ∀ d, so = some d → w.heap.size ≤ d.block := fun d hd => by have := hnew d hd; omega
        clear hX hR hS8 hS7
        go_wp2_with (first
          | (refine wpList_load_has (by rfl) 42 _ rfl (w5.heap.size) rfl 42 (stC F so sc) _ Try.underlying42 rfl (st_size _ _ _) ?hg ?_; (case hg => exact hT))
          | (refine wpList_store_to (by rfl) 42 _ _ rfl (w.heap.size + 1) rfl (stC F so sc) rfl 42 (stC T ro rc) (st_size _ _ _) (st_same _ _ _ _ _ _) (st_one _ _ _) ?hg w9 ?hW ?_; (case hg => exact hX7); (case hW => exact hw9))
          | (refine wpList_load_has (by rfl) 42 _ rfl (w.heap.size + 1) rfl 42 (stC F so sc) _ Try.underlying42 rfl (st_size _ _ _) ?hg ?_; (case hg => exact hXz))
          | (refine wpList_store_has (by rfl) 42 _ _ rfl (w.heap.size) rfl (stC F so sc) rfl 42 (stC st0 none 0) (st_size _ _ _) (st_same _ _ _ _ _ _) (st_one _ _ _) ?hg ?_; (case hg => exact hRz))
          | fail)
        refine ret_has rfl w.heap.size rfl 42 (stC F so sc) _ Try.underlying42 rfl (st_size _ _ _) hz rfl ⟨so, sc, by rw [hSM.out], ?_⟩
        rw [hSM.out]
        exact ⟨hsl, hgn, hbf⟩

end Go.Proofs.Ytphlfepgaghhhab
