/- Open8, TellsLaw8, joined. -/
import Derived.Test.YtphlfepgaghhhaaMergeDone
import Derived.Test.YtphlfepgaghhhaaMergeMem
import Derived.Test.YtphlfepgaghhhaaOpenObj
import Derived.SizedLaws
import Derived.Test.YtphlfepgaghhhaaRef8High
import Derived.Test.YtphlfepgaghhhaaRef8Apply
namespace Go.Proofs.Ytphlfepgaghhhaa
set_option linter.unusedSimpArgs false
set_option linter.unusedVariables false
set_option maxRecDepth 100000
open Go.RowKit
open Go.ChangeShapes Go.WideShapes Go.ChangeAt Go.RowKit

def k8O : OpV := ⟨1, 1, 1, 0, 0, [97]⟩
def k8E : EntV := ⟨1, 1, k8O⟩
def k8S : StV := ⟨0, base0, ent0, [k8E]⟩
def k8D : DiffV := ⟨9, 0, [], st0⟩
theorem k8O_built : Try.prog.built 35 [(0, .int .u8 1), (1, .int .u32 1), (2, .int .u8 1), (5, .string (ByteArray.mk #[97]))] = some (opC k8O) := by kernel_rfl
theorem k8E_built : Try.prog.built 37 [(0, .int .u32 1), (1, .int .u32 1), (2, .agg (opC k8O))] = some (entC k8E) := by kernel_rfl
theorem k8O_ok : OpOk k8O := ⟨by decide, by decide, by decide, by decide, by decide, by decide⟩
theorem k8E_ok : EntOk k8E := ⟨by show 1 < _; decide, by show 1 < _; decide, k8O_ok⟩
theorem k8O_writes : writesM k8O = true := by
  rw [writes_is, isOp_is]
  simp [k8O]
theorem k8_follows : followsM ent0 k8E = true := follows_is.2 ⟨k8O_writes, rfl, by show 0 ≤ 1; decide, by show 1 ≤ 60; decide⟩
theorem k8S_ok : StOk k8S := ⟨by show 0 < _; decide, base0_ok.in', ⟨by show 0 < _; decide, by show 0 < _; decide, op0_ok⟩, (fun e he => by rw [List.mem_singleton.1 he]; exact k8E_ok), by show 1 ≤ _; decide⟩
theorem k8S_is : isM k8S = true := by
  rw [is_is]
  refine ⟨by show 0 ≤ 60; decide, rfl, isBase0, by show 1 ≤ 6; decide, ?_⟩
  show (followsM ent0 k8E && true) = true
  rw [k8_follows]
  rfl
theorem k8_add : addM st0 k8E = (k8S, 0) := by
  rw [add_yes (can_is.2 ⟨is_st0, k8_follows⟩)]
  rfl
theorem k8_make : makeM st0 k8S = ⟨1, 0, [k8E], endsM k8S⟩ := by
  have h1 : same tSt (startAt st0 k8S.started) k8S = false := same_not (fun e => by have : ([] : List EntV) = [k8E] := congrArg StV.log e; cases this)
  have h2 : throughM st0 k8S = true := through_of (m := 0) is_st0 (Nat.le_refl _) rfl rfl rfl
  rw [make_1 is_st0 k8S_is h1 h2]
  have h3 : sharedN st0 k8S.log = 0 := by
    have := (shared_is is_st0 k8S.log 0 ent0 rfl ((is_is k8S).1 k8S_is).2.2.2.2 (Nat.le_refl _)).1
    have e : st0.log.length = 0 := rfl
    omega
  rw [h3]
  rfl
theorem k8_apply : applyM st0 ⟨1, 0, [k8E], endsM k8S⟩ = (k8S, 0) := by rw [← k8_make]; exact apply_make is_st0 k8S_is
theorem k8_bad : applyM k8S k8D = (st0, 80) := apply_no (.inr (.inl rfl))
theorem k8D_ok : DiffOk k8D := ⟨by decide, by decide, by decide, (fun e he => by cases he), by decide, st0_fit⟩
theorem k8_self : (makeM k8S k8S).kind = 0 := by
  rw [make_0 k8S_is k8S_is (by rw [same_is]; rfl)]
theorem k8_ext : extendsM st0 k8S = true := by
  rw [extends_yes is_st0 k8S_is, k8_make]
  rfl
theorem k8_noext : extendsM k8S st0 = false := by
  rw [extends_yes k8S_is is_st0]
  rfl
theorem k8T_ok : DiffOk ⟨1, 0, [k8E], endsM k8S⟩ := by rw [← k8_make]; exact make_fit st0_fit k8S_ok
theorem diff_kind {o : Oper} {ev : Operand → Value} (x : Operand) (ho : o.op = .field 61 x 0) (d : DiffV) (lo wo : Option Addr) (lc wc : Nat) (hx : ev x = .agg (diffC d lo lc wo wc)) (w : World) : (execOp ev o).run Try.prog w = .ok (.value (.int .i64 d.kind)) w :=
  run_field_one 61 x 0 ho (diffC d lo lc wo wc) hx _ _ _ Try.underlying61 rfl Try.underlying3 rfl _ rfl w

set_option maxHeartbeats 4000000 in
theorem known8_any (w : World) : Calls Try.prog 29 #[] w fun en w' => en = .returned (.bool true) ∧ Below w.heap.size w w' := by
  go_enter Try.func29, Try.ntmps29
  go_wp2_with (first
    | (refine wpList_build_has (by rfl) 40 #[] rfl (stC st0 none 0) (by simpa using st_built0) ?_)
    | (refine wpList_build_four8 (by rfl) 35 0 1 2 5 _ _ _ _ rfl (.int .u8 1) (.int .u32 1) (.int .u8 1) (.string (ByteArray.mk #[97])) rfl rfl rfl rfl (opC k8O) k8O_built ?_)
    | (refine wpList_build_three (by rfl) 37 0 1 2 _ _ _ rfl (.int .u32 1) (.int .u32 1) (.agg (opC k8O)) rfl rfl rfl (entC k8E) k8E_built ?_)
    | fail)
  refine (add_any st0 none 0 k8E _ st0_fit k8E_ok (Sl.nothing _ _)).mono ?_
  rintro en w1 ⟨ro, rc, rfl, hG⟩
  rw [k8_add] at hG
  rw [k8_add]
  have hS8 := hG.sl
  have hb := hG.below
  clear hG
  have hSo := k8S_ok
  have hmk : Hid _ := k8_make
  have hap : Hid _ := k8_apply
  have hbad : Hid _ := k8_bad
  have hself : Hid _ := k8_self
  have hext : Hid _ := k8_ext
  have hnoext : Hid _ := k8_noext
  have hTo := k8T_ok
  have hkE : Hid ((⟨1, 0, [k8E], endsM k8S⟩ : DiffV).kind = 1 ∧ (⟨1, 0, [k8E], endsM k8S⟩ : DiffV).log.length = 1) := ⟨rfl, rfl⟩
  generalize (⟨1, 0, [k8E], endsM k8S⟩ : DiffV) = D at *
  generalize k8S = S at *
  obtain ⟨w2, hw2, hX, hq⟩ := new_var w1 40 (stC st0 none 0) (stC S ro rc)
  replace hS8 := hS8.later hq
  replace hb := hb.trans (hq.mono hb.size)
  clear hq
  go_wp2_with (first
    | (refine wpList_alloc_has (by rfl) 40 rfl (stC st0 none 0) st_zero ?_)
    | (refine wpList_store_to (by rfl) 40 _ _ rfl w1.heap.size rfl (stC S ro rc) rfl 40 (stC st0 none 0) (st_size _ _ _) (st_same _ _ _ _ _ _) (st_one _ _ _) ?hg w2 ?hW ?_; (case hg => exact Has.new _ _ _); (case hW => exact hw2); clear hw2; generalize w1.heap.size = gs at *)
    | (refine wpList_build_has (by rfl) 40 #[] rfl (stC st0 none 0) (by simpa using st_built0) ?_)
    | (refine wpList_load_has (by rfl) 40 _ rfl (gs) rfl 40 (stC S ro rc) _ Try.underlying40 rfl (st_size _ _ _) ?hg ?_; (case hg => exact hX))
    | fail)
  refine (make_any st0 S none ro 0 rc _ st0_fit hSo (Sl.nothing _ _) hS8).mono ?_
  rintro en w3 ⟨lo, lc, wo, wc, rfl, hG⟩
  rw [hmk.out] at hG
  rw [hmk.out]
  have hDl := hG.sl
  have hDw := hG.wl
  replace hX := hX.later hG.below
  replace hS8 := hS8.later hG.below
  replace hb := hb.trans (hG.below.mono hb.size)
  clear hG
  obtain ⟨w4, hw4, hD, hq⟩ := new_var w3 61 (diffC diff0 none 0 none 0) (diffC D lo lc wo wc)
  replace hX := hX.later hq
  replace hS8 := hS8.later hq
  replace hDl := hDl.later hq
  replace hDw := hDw.later hq
  replace hb := hb.trans (hq.mono hb.size)
  clear hq
  go_wp2_with (first
    | (refine wpList_alloc_has (by rfl) 61 rfl (diffC diff0 none 0 none 0) diff_zero ?_)
    | (refine wpList_store_to (by rfl) 61 _ _ rfl w3.heap.size rfl (diffC D lo lc wo wc) rfl 61 (diffC diff0 none 0 none 0) (diff_size _ _ _ _ _) (diff_same _ _ _ _ _ _ _ _ _ _) (diff_one _ _ _ _ _) ?hg w4 ?hW ?_; (case hg => exact Has.new _ _ _); (case hW => exact hw4); clear hw4; generalize w3.heap.size = gd at *)
    | (refine wpList_build_has (by rfl) 40 #[] rfl (stC st0 none 0) (by simpa using st_built0) ?_)
    | (refine wpList_load_has (by rfl) 61 _ rfl (gd) rfl 61 (diffC D lo lc wo wc) _ Try.underlying61 rfl (diff_size _ _ _ _ _) ?hg ?_; (case hg => exact hD))
    | fail)
  refine (apply_any st0 D none lo wo 0 lc wc _ st0_fit hTo (Sl.nothing _ _) hDl hDw).mono ?_
  rintro en w5 ⟨ko, kc, rfl, hG⟩
  rw [hap.out] at hG
  rw [hap.out]
  have hT8 := hG.sl
  replace hX := hX.later hG.below
  replace hS8 := hS8.later hG.below
  replace hD := hD.later hG.below
  replace hb := hb.trans (hG.below.mono hb.size)
  clear hG
  obtain ⟨w6, hw6, hT, hq⟩ := new_var w5 40 (stC st0 none 0) (stC S ko kc)
  replace hX := hX.later hq
  replace hS8 := hS8.later hq
  replace hD := hD.later hq
  replace hT8 := hT8.later hq
  replace hb := hb.trans (hq.mono hb.size)
  clear hq
  go_wp2_with (first
    | (refine wpList_alloc_has (by rfl) 40 rfl (stC st0 none 0) st_zero ?_)
    | (refine wpList_store_to (by rfl) 40 _ _ rfl w5.heap.size rfl (stC S ko kc) rfl 40 (stC st0 none 0) (st_size _ _ _) (st_same _ _ _ _ _ _) (st_one _ _ _) ?hg w6 ?hW ?_; (case hg => exact Has.new _ _ _); (case hW => exact hw6); clear hw6; generalize w5.heap.size = gt at *)
    | (refine wpList_load_has (by rfl) 40 _ rfl (gs) rfl 40 (stC S ro rc) _ Try.underlying40 rfl (st_size _ _ _) ?hg ?_; (case hg => exact hX))
    | (refine wpList_build_one (by rfl) 61 0 _ rfl (.int .i64 9) rfl (diffC k8D none 0 none 0) (diff_built1 9) ?_)
    | fail)
  refine (apply_any S k8D ro none none rc 0 0 _ hSo k8D_ok hS8 (Sl.nothing _ _) (Sl.nothing _ _)).mono ?_
  rintro en w7 ⟨uo, uc, rfl, hG⟩
  rw [hbad.out]
  replace hX := hX.later hG.below
  replace hS8 := hS8.later hG.below
  replace hD := hD.later hG.below
  replace hT := hT.later hG.below
  replace hT8 := hT8.later hG.below
  replace hb := hb.trans (hG.below.mono hb.size)
  clear hG
  obtain ⟨w8, hw8, hU, hq⟩ := new_var w7 40 (stC st0 none 0) (stC st0 uo uc)
  replace hX := hX.later hq
  replace hS8 := hS8.later hq
  replace hD := hD.later hq
  replace hT := hT.later hq
  replace hT8 := hT8.later hq
  replace hb := hb.trans (hq.mono hb.size)
  clear hq
  have k0 := hD.d_kind
  have k2 := hD.d_log
  rw [hkE.out.1] at k0
  rw [hkE.out.2] at k2
  go_wp2_with (first
    | (refine wpList_alloc_has (by rfl) 40 rfl (stC st0 none 0) st_zero ?_)
    | (refine wpList_store_to (by rfl) 40 _ _ rfl w7.heap.size rfl (stC st0 uo uc) rfl 40 (stC st0 none 0) (st_size _ _ _) (st_same _ _ _ _ _ _) (st_one _ _ _) ?hg w8 ?hW ?_; (case hg => exact Has.new _ _ _); (case hW => exact hw8); clear hw8; generalize w7.heap.size = gu at *)
    | (refine wpList_load_has (by rfl) 40 _ rfl (gs) rfl 40 (stC S ro rc) _ Try.underlying40 rfl (st_size _ _ _) ?hg ?_; (case hg => exact hX))
    | (refine wpList_load_has (by rfl) 40 _ rfl (gt) rfl 40 (stC S ko kc) _ Try.underlying40 rfl (st_size _ _ _) ?hg ?_; (case hg => exact hT))
    | fail)
  refine (same_any S S ro ko rc kc _ hSo hSo hS8 hT8).mono ?_
  rintro en w9 ⟨rfl, hq⟩
  rw [same_self]
  replace hX := hX.later hq
  replace hS8 := hS8.later hq
  replace hb := hb.trans (hq.mono hb.size)
  clear hq k0 k2 hD hT hT8 hU
  go_wp2_with (first
    | (refine wpList_load_has (by rfl) 40 _ rfl (gs) rfl 40 (stC S ro rc) _ Try.underlying40 rfl (st_size _ _ _) ?hg ?_; (case hg => exact hX))
    | fail)
  refine (make_any S S ro ro rc rc _ hSo hSo hS8 hS8).mono ?_
  rintro en w10 ⟨lo, lc, wo, wc, rfl, hG⟩
  replace hX := hX.later hG.below
  replace hS8 := hS8.later hG.below
  replace hb := hb.trans (hG.below.mono hb.size)
  clear hG
  generalize makeM S S = M at *
  have hkk : (.int .i64 M.kind : Value) = .int .i64 0 := by rw [hself.out]
  go_wp2_with (first
    | (refine wpList_val (.int .i64 0) (by rfl) (hkk ▸ diff_kind _ rfl M _ _ _ _ rfl) ?_)
    | (refine wpList_build_has (by rfl) 40 #[] rfl (stC st0 none 0) (by simpa using st_built0) ?_)
    | (refine wpList_load_has (by rfl) 40 _ rfl (gs) rfl 40 (stC S ro rc) _ Try.underlying40 rfl (st_size _ _ _) ?hg ?_; (case hg => exact hX))
    | fail)
  refine (extends_any st0 S none ro 0 rc _ st0_fit hSo (Sl.nothing _ _) hS8).mono ?_
  rintro en w11 ⟨rfl, hq⟩
  rw [hext.out]
  replace hX := hX.later hq
  replace hS8 := hS8.later hq
  replace hb := hb.trans (hq.mono hb.size)
  clear hq
  go_wp2_with (first
    | (refine wpList_build_has (by rfl) 40 #[] rfl (stC st0 none 0) (by simpa using st_built0) ?_)
    | (refine wpList_load_has (by rfl) 40 _ rfl (gs) rfl 40 (stC S ro rc) _ Try.underlying40 rfl (st_size _ _ _) ?hg ?_; (case hg => exact hX))
    | fail)
  refine (extends_any S st0 ro none rc 0 _ hSo st0_fit hS8 (Sl.nothing _ _)).mono ?_
  rintro en w12 ⟨rfl, hq⟩
  rw [hnoext.out]
  replace hb := hb.trans (hq.mono hb.size)
  clear hq
  go_wp2
  go_ret
  exact ⟨rfl, hb⟩


def fewObj (b : BaseV) (n : Nat) : Bool := decide (∀ i : Fin 6, i.val < n → (b.obj i).data.length ≤ 100)
def fewM (s : StV) (m : Nat) : Bool := fewObj s.base 6 && decide (s.log.length ≤ m)
theorem fewObj_step {b : BaseV} {n : Nat} (h : n < 6) : fewObj b (n + 1) = (fewObj b n && decide ((b.obj ⟨n, h⟩).data.length ≤ 100)) := by
  unfold fewObj
  rw [Bool.eq_iff_iff, Bool.and_eq_true, decide_eq_true_iff, decide_eq_true_iff, decide_eq_true_iff]
  constructor
  · intro hx
    exact ⟨fun i hi => hx i (by omega), hx ⟨n, h⟩ (by show n < n + 1; omega)⟩
  · rintro ⟨h1, h2⟩ i hi
    by_cases hin : i.val < n
    · exact h1 i hin
    · have e : i = ⟨n, h⟩ := Fin.ext (by show i.val = n; omega)
      rw [e]
      exact h2
theorem fewObj_no {b : BaseV} {n : Nat} (hn : n ≤ 6) (h : fewObj b n = false) : fewObj b 6 = false := by
  cases hq : fewObj b 6 with
  | false => rfl
  | true =>
    unfold fewObj at h hq
    rw [decide_eq_true_iff] at hq
    rw [decide_eq_false_iff_not] at h
    exact absurd (fun i hi => hq i (by omega)) h
theorem objs_data (f : Fin 6 → ObjV) (i : Fin 6) : (objsL f)[i.val * 5 + 1]? = some (strV (f i).data) := by
  match i with
  | 0 => rfl
  | 1 => rfl
  | 2 => rfl
  | 3 => rfl
  | 4 => rfl
  | 5 => rfl
theorem Has.st_data {w : World} {g : Nat} {s : StV} {ao : Option Addr} {c : Nat} (h : Has w g 40 (stC s ao c)) (i : Fin 6) : w.cell? ⟨g, 1 + i.val * 5 + 1, none⟩ = some (.string (mkS (s.base.obj i).data)) := by
  have hb := h.st_base (i.val * 5 + 1) (strV (s.base.obj i).data) (by
    unfold baseL
    have := i.isLt
    rw [List.getElem?_append_left (show i.val * 5 + 1 < (objsL s.base.obj).length from by show _ < 30; omega)]
    exact objs_data _ i)
  rw [show 1 + (i.val * 5 + 1) = 1 + i.val * 5 + 1 by omega] at hb
  exact hb

set_option maxHeartbeats 4000000 in
theorem few7_any (s : StV) (ao : Option Addr) (c : Nat) (w : World) (hb0 : BaseIn s.base) (h : Sl w ao c 8 (entR s.log)) :
    Calls Try.prog 10 #[.agg (stC s ao c)] w fun en w' => en = .returned (.bool (fewM s 20)) ∧ Below w.heap.size w w' := by
  obtain ⟨w1, hw1, hX, hb⟩ := one_var w 40 (stC s ao c)
  have hle := h.ent_le
  have hcap := h.cap
  have hl := hX.st_log
  have hM : Hid (fewM s 20 = (fewObj s.base 6 && decide (s.log.length ≤ 20))) := rfl
  go_enter Try.func10, Try.ntmps10
  go_wp2
  go_loopw [3] (fun i wr => ∃ n : Nat, n ≤ 6 ∧ i = .int .i64 n ∧ wr = w1 ∧ fewObj s.base n = true) (fun i _ => 6 - (intOf i).toNat)
  case atStart => exact ⟨0, by decide, rfl, rfl, by unfold fewObj; rw [decide_eq_true_iff]; intro i hi; omega⟩
  case round =>
    obtain ⟨n, hn, rfl, hwr, hk⟩ := hrel
    subst hwr
    by_cases hlt : n < 6
    · have hltI : (n : Int) < 6 := by omega
      have hc := hX.st_data ⟨n, hlt⟩
      have hcl := hb0.data ⟨n, hlt⟩
      have hnx : Hid _ := fewObj_step (b := s.base) hlt
      rw [hk, Bool.true_and] at hnx
      have hno : Hid _ := fun hq => fewObj_no (b := s.base) (n := n + 1) (by omega) hq
      generalize (s.base.obj ⟨n, hlt⟩).data = dt at *
      have hcs := mkS_size dt
      by_cases hd : dt.length ≤ 100
      · have hI : ¬ (100 : Int) < (dt.length : Int) := by omega
        rw [decide_eq_true hd] at hnx
        go_wp2
        go_roundw
        case rel => first | exact ⟨n + 1, by omega, by go_num, rfl, hnx.out⟩ | exact ⟨n + 1, by omega, by go_num, trivial, hnx.out⟩ | exact ⟨n + 1, by omega, by go_num, hnx.out⟩
        case measure => simp [intOf]; omega
      · have hI : (100 : Int) < (dt.length : Int) := by omega
        rw [decide_eq_false hd] at hnx
        have hF : Hid _ := hno.out hnx.out
        go_wp2
        go_ret
        exact ⟨by rw [hM.out, hF.out]; rfl, hb⟩
    · have e5 : n = 6 := by omega
      subst e5
      have hkH : Hid _ := hk
      clear hk
      by_cases hL : s.log.length ≤ 20
      · have hI : (s.log.length : Int) ≤ 20 := by omega
        go_wp2
        go_ret
        exact ⟨by rw [hM.out, hkH.out, decide_eq_true hL]; rfl, hb⟩
      · have hI : ¬ (s.log.length : Int) ≤ 20 := by omega
        have hID : decide ((s.log.length : Int) ≤ 20) = false := by rw [decide_eq_false_iff_not]; omega
        go_wp2
        go_ret
        exact ⟨by rw [hM.out, hkH.out, decide_eq_false hL]; rfl, hb⟩

set_option maxHeartbeats 4000000 in
theorem few8_any (s : StV) (ao : Option Addr) (c : Nat) (w : World) (hb0 : BaseIn s.base) (h : Sl w ao c 8 (entR s.log)) :
    Calls Try.prog 30 #[.agg (stC s ao c)] w fun en w' => en = .returned (.bool (fewM s 12)) ∧ Below w.heap.size w w' := by
  obtain ⟨w1, hw1, hX, hb⟩ := one_var w 40 (stC s ao c)
  have hle := h.ent_le
  have hcap := h.cap
  have hl := hX.st_log
  have hM : Hid (fewM s 12 = (fewObj s.base 6 && decide (s.log.length ≤ 12))) := rfl
  go_enter Try.func30, Try.ntmps30
  go_wp2
  go_loopw [3] (fun i wr => ∃ n : Nat, n ≤ 6 ∧ i = .int .i64 n ∧ wr = w1 ∧ fewObj s.base n = true) (fun i _ => 6 - (intOf i).toNat)
  case atStart => exact ⟨0, by decide, rfl, rfl, by unfold fewObj; rw [decide_eq_true_iff]; intro i hi; omega⟩
  case round =>
    obtain ⟨n, hn, rfl, hwr, hk⟩ := hrel
    subst hwr
    by_cases hlt : n < 6
    · have hltI : (n : Int) < 6 := by omega
      have hc := hX.st_data ⟨n, hlt⟩
      have hcl := hb0.data ⟨n, hlt⟩
      have hnx : Hid _ := fewObj_step (b := s.base) hlt
      rw [hk, Bool.true_and] at hnx
      have hno : Hid _ := fun hq => fewObj_no (b := s.base) (n := n + 1) (by omega) hq
      generalize (s.base.obj ⟨n, hlt⟩).data = dt at *
      have hcs := mkS_size dt
      by_cases hd : dt.length ≤ 100
      · have hI : ¬ (100 : Int) < (dt.length : Int) := by omega
        rw [decide_eq_true hd] at hnx
        go_wp2
        go_roundw
        case rel => first | exact ⟨n + 1, by omega, by go_num, rfl, hnx.out⟩ | exact ⟨n + 1, by omega, by go_num, trivial, hnx.out⟩ | exact ⟨n + 1, by omega, by go_num, hnx.out⟩
        case measure => simp [intOf]; omega
      · have hI : (100 : Int) < (dt.length : Int) := by omega
        rw [decide_eq_false hd] at hnx
        have hF : Hid _ := hno.out hnx.out
        go_wp2
        go_ret
        exact ⟨by rw [hM.out, hF.out]; rfl, hb⟩
    · have e5 : n = 6 := by omega
      subst e5
      have hkH : Hid _ := hk
      clear hk
      by_cases hL : s.log.length ≤ 12
      · have hI : (s.log.length : Int) ≤ 12 := by omega
        go_wp2
        go_ret
        exact ⟨by rw [hM.out, hkH.out, decide_eq_true hL]; rfl, hb⟩
      · have hI : ¬ (s.log.length : Int) ≤ 12 := by omega
        have hID : decide ((s.log.length : Int) ≤ 12) = false := by rw [decide_eq_false_iff_not]; omega
        go_wp2
        go_ret
        exact ⟨by rw [hM.out, hkH.out, decide_eq_false hL]; rfl, hb⟩


structure ObjFit (M : Nat) (x : ObjV) : Prop where
  data : x.data.length ≤ M
  a0 : x.a0.length ≤ M
  a1 : x.a1.length ≤ M
  a2 : x.a2.length ≤ M
structure LastFit (l : LastV) : Prop where
  seq : l.seq < 4294967296
  code : l.r.code < 256
  data : l.r.data.length ≤ 9223372036854775807
structure BaseFit (M : Nat) (b : BaseV) : Prop where
  obj : ∀ i, ObjFit 9223372036854775807 (b.obj i)
  last : ∀ i, LastFit (b.last i)

theorem cut_at {α : Type} (l : List α) (k n : Nat) : l.drop k = (l.drop k).take n ++ l.drop (k + n) := by
  rw [← List.drop_drop, List.take_append_drop]
theorem cut_last {α : Type} (l : List α) (k n : Nat) (h : l.length ≤ k + n) : (l.drop k).take n = l.drop k := List.take_of_length_le (by rw [List.length_drop]; omega)

section
variable {H : Type} {enc : TypeId × Value → H} {W : World} {base : Nat} {spare : Nat → Bool} {held : Bool} {fuel : Nat} {y : DataW H × List MemPlace}

theorem reads_str {cs : List Value} (h : DataW.trod enc Try.prog W base spare held fuel 9 cs = some y) : ∃ s : List UInt8, cs = [strV s] ∧ s.length ≤ 9223372036854775807 := by
  obtain ⟨s, q, _, hs⟩ := DataW.trod_string Try.underlying9 h
  refine ⟨s.data.toList, by rw [q, ← str_of], ?_⟩
  rw [Array.length_toList]
  exact hs

theorem reads_attrs {cs : List Value} (h : DataW.trod enc Try.prog W base spare held fuel 23 cs = some y) :
    ∃ a b c : List UInt8, cs = [strV a, strV b, strV c] ∧ a.length ≤ 9223372036854775807 ∧ b.length ≤ 9223372036854775807 ∧ c.length ≤ 9223372036854775807 := by
  obtain ⟨zs, m, _, hy, hl, hzl, hz⟩ := DataW.trod_array Try.underlying23 h
  have hl : cs.length = 3 := by rw [← co_attrs]; exact hl
  have hall : ∀ i : Fin 3, ∃ s : List UInt8, (cs.drop i.val).take 1 = [strV s] ∧ s.length ≤ 9223372036854775807 := by
    intro i
    have hi := hz i.val i.isLt
    rw [co_string, Nat.mul_one] at hi
    obtain ⟨y, ey⟩ := some_of' hi (by rw [hzl]; exact i.isLt)
    exact reads_str ey
  obtain ⟨a, ea, ha⟩ := hall 0
  obtain ⟨b, eb, hb⟩ := hall 1
  obtain ⟨c, ec, hc⟩ := hall 2
  refine ⟨a, b, c, ?_, ha, hb, hc⟩
  have a0 := cut_at cs 0 1
  have a1 := cut_at cs 1 1
  have a2 := cut_last cs 2 1 (by omega)
  have e : cs = (cs.drop 0).take 1 ++ ((cs.drop 1).take 1 ++ (cs.drop 2).take 1) := by
    rw [a2, ← a1, ← a0]
    rfl
  rw [e]
  have ea : (cs.drop 0).take 1 = [strV a] := ea
  have eb : (cs.drop 1).take 1 = [strV b] := eb
  have ec : (cs.drop 2).take 1 = [strV c] := ec
  rw [ea, eb, ec]
  rfl

theorem reads_res {cs : List Value} (h : DataW.trod enc Try.prog W base spare held fuel 28 cs = some y) : ∃ r : ResV, cs = resL r ∧ r.code < 256 ∧ r.data.length ≤ 9223372036854775807 := by
  obtain ⟨xs, n, _, _, hl, hxl, hf⟩ := DataW.trod_struct Try.underlying28 h
  rw [co_res] at hl
  have hxl : xs.length = 2 := hxl
  have h0 : DataW.trod enc Try.prog W base spare held n 5 ((cs.drop 0).take (Try.prog.cellsOf 5)) = xs[0]? := hf 0 _ rfl
  have h1 : DataW.trod enc Try.prog W base spare held n 9 ((cs.drop 1).take (Try.prog.cellsOf 9)) = xs[1]? := hf 1 _ rfl
  rw [co_u8] at h0
  rw [co_string] at h1
  obtain ⟨y0, e0⟩ := some_of' h0 (by omega)
  obtain ⟨y1, e1⟩ := some_of' h1 (by omega)
  obtain ⟨x0, q0, _, w0⟩ := DataW.trod_int Try.underlying5 e0
  obtain ⟨s, q1, hs⟩ := reads_str e1
  have b0 := bounds_u8 w0
  obtain ⟨k0, rfl⟩ := Int.eq_ofNat_of_zero_le b0.1
  refine ⟨⟨k0, s⟩, ?_, show k0 < 256 by omega, hs⟩
  have a0 := cut_at cs 0 1
  have a1 := cut_last cs 1 1 (by omega)
  have e : cs = (cs.drop 0).take 1 ++ (cs.drop 1).take 1 := by
    rw [a1, ← a0]
    rfl
  rw [e, q0, q1]
  rfl

theorem reads_last {cs : List Value} (h : DataW.trod enc Try.prog W base spare held fuel 30 cs = some y) : ∃ l : LastV, cs = lastL l ∧ LastFit l := by
  obtain ⟨xs, n, _, _, hl, hxl, hf⟩ := DataW.trod_struct Try.underlying30 h
  rw [co_last] at hl
  have hxl : xs.length = 2 := hxl
  have h0 : DataW.trod enc Try.prog W base spare held n 22 ((cs.drop 0).take (Try.prog.cellsOf 22)) = xs[0]? := hf 0 _ rfl
  have h1 : DataW.trod enc Try.prog W base spare held n 28 ((cs.drop 1).take (Try.prog.cellsOf 28)) = xs[1]? := hf 1 _ rfl
  rw [co_u32] at h0
  rw [co_res] at h1
  obtain ⟨y0, e0⟩ := some_of' h0 (by omega)
  obtain ⟨y1, e1⟩ := some_of' h1 (by omega)
  obtain ⟨x0, q0, _, w0⟩ := DataW.trod_int Try.underlying22 e0
  obtain ⟨r, q1, hc, hd⟩ := reads_res e1
  have b0 := bounds_u32 w0
  obtain ⟨k0, rfl⟩ := Int.eq_ofNat_of_zero_le b0.1
  refine ⟨⟨k0, r⟩, ?_, ⟨show k0 < 4294967296 by omega, hc, hd⟩⟩
  have a0 := cut_at cs 0 1
  have a1 := cut_last cs 1 2 (by omega)
  have e : cs = (cs.drop 0).take 1 ++ (cs.drop 1).take 2 := by
    rw [a1, ← a0]
    rfl
  rw [e, q0, q1]
  rfl

theorem reads_obj {cs : List Value} (h : DataW.trod enc Try.prog W base spare held fuel 25 cs = some y) : ∃ x : ObjV, cs = objL x ∧ ObjFit 9223372036854775807 x := by
  obtain ⟨xs, n, _, hy, hl, hxl, hf⟩ := DataW.trod_struct Try.underlying25 h
  rw [co_obj] at hl
  have hxl : xs.length = 3 := hxl
  have h0 : DataW.trod enc Try.prog W base spare held n 4 ((cs.drop 0).take (Try.prog.cellsOf 4)) = xs[0]? := hf 0 _ rfl
  have h1 : DataW.trod enc Try.prog W base spare held n 9 ((cs.drop 1).take (Try.prog.cellsOf 9)) = xs[1]? := hf 1 _ rfl
  have h2 : DataW.trod enc Try.prog W base spare held n 23 ((cs.drop 2).take (Try.prog.cellsOf 23)) = xs[2]? := hf 2 _ rfl
  rw [co_bool] at h0
  rw [co_string] at h1
  rw [co_attrs] at h2
  obtain ⟨y0, e0⟩ := some_of' h0 (by omega)
  obtain ⟨y1, e1⟩ := some_of' h1 (by omega)
  obtain ⟨y2, e2⟩ := some_of' h2 (by omega)
  obtain ⟨x0, q0, _⟩ := DataW.trod_bool Try.underlying4 e0
  obtain ⟨s, q1, hs⟩ := reads_str e1
  obtain ⟨a, b, c, q2, ha, hb, hc⟩ := reads_attrs e2
  refine ⟨⟨x0, s, a, b, c⟩, ?_, ⟨hs, ha, hb, hc⟩⟩
  have a0 := cut_at cs 0 1
  have a1 := cut_at cs 1 1
  have a2 := cut_last cs 2 3 (by omega)
  have e : cs = (cs.drop 0).take 1 ++ ((cs.drop 1).take 1 ++ (cs.drop 2).take 3) := by
    rw [a2, ← a1, ← a0]
    rfl
  rw [e, q0, q1, q2]
  rfl

theorem reads_objs {cs : List Value} (h : DataW.trod enc Try.prog W base spare held fuel 26 cs = some y) : ∃ f : Fin 6 → ObjV, cs = objsL f ∧ ∀ i, ObjFit 9223372036854775807 (f i) := by
  obtain ⟨zs, m, _, hy, hl, hzl, hz⟩ := DataW.trod_array Try.underlying26 h
  have hl : cs.length = 30 := by rw [← co_objs]; exact hl
  have hall : ∀ i : Fin 6, ∃ x : ObjV, (cs.drop (i.val * 5)).take 5 = objL x ∧ ObjFit 9223372036854775807 x := by
    intro i
    have hi := hz i.val i.isLt
    rw [co_obj] at hi
    obtain ⟨y, ey⟩ := some_of' hi (by rw [hzl]; exact i.isLt)
    exact reads_obj ey
  refine ⟨fun i => (hall i).choose, ?_, fun i => (hall i).choose_spec.2⟩
  have s0 := (hall 0).choose_spec.1
  have s1 := (hall 1).choose_spec.1
  have s2 := (hall 2).choose_spec.1
  have s3 := (hall 3).choose_spec.1
  have s4 := (hall 4).choose_spec.1
  have s5 := (hall 5).choose_spec.1
  show cs = objL (hall 0).choose ++ (objL (hall 1).choose ++ (objL (hall 2).choose ++ (objL (hall 3).choose ++ (objL (hall 4).choose ++ objL (hall 5).choose))))
  rw [← s0, ← s1, ← s2, ← s3, ← s4, ← s5]
  have a0 := cut_at cs 0 5
  have a1 := cut_at cs 5 5
  have a2 := cut_at cs 10 5
  have a3 := cut_at cs 15 5
  have a4 := cut_at cs 20 5
  have a5 := cut_last cs 25 5 (by omega)
  show cs = (cs.drop 0).take 5 ++ ((cs.drop 5).take 5 ++ ((cs.drop 10).take 5 ++ ((cs.drop 15).take 5 ++ ((cs.drop 20).take 5 ++ (cs.drop 25).take 5))))
  rw [a5, ← a4, ← a3, ← a2, ← a1, ← a0]
  rfl

theorem reads_lasts {cs : List Value} (h : DataW.trod enc Try.prog W base spare held fuel 31 cs = some y) : ∃ f : Fin 3 → LastV, cs = lastsL f ∧ ∀ i, LastFit (f i) := by
  obtain ⟨zs, m, _, _, hl, hzl, hz⟩ := DataW.trod_array Try.underlying31 h
  have hl : cs.length = 9 := by rw [← co_lasts]; exact hl
  have hall : ∀ i : Fin 3, ∃ x : LastV, (cs.drop (i.val * 3)).take 3 = lastL x ∧ LastFit x := by
    intro i
    have hi := hz i.val i.isLt
    rw [co_last] at hi
    obtain ⟨y, ey⟩ := some_of' hi (by rw [hzl]; exact i.isLt)
    exact reads_last ey
  refine ⟨fun i => (hall i).choose, ?_, fun i => (hall i).choose_spec.2⟩
  have s0 := (hall 0).choose_spec.1
  have s1 := (hall 1).choose_spec.1
  have s2 := (hall 2).choose_spec.1
  show cs = lastL (hall 0).choose ++ (lastL (hall 1).choose ++ lastL (hall 2).choose)
  rw [← s0, ← s1, ← s2]
  have a0 := cut_at cs 0 3
  have a1 := cut_at cs 3 3
  have a2 := cut_last cs 6 3 (by omega)
  show cs = (cs.drop 0).take 3 ++ ((cs.drop 3).take 3 ++ (cs.drop 6).take 3)
  rw [a2, ← a1, ← a0]
  rfl

theorem reads_base {cs : List Value} (h : DataW.trod enc Try.prog W base spare held fuel 33 cs = some y) : ∃ b : BaseV, cs = baseL b ∧ BaseFit 9223372036854775807 b := by
  obtain ⟨xs, n, _, hy, hl, hxl, hf⟩ := DataW.trod_struct Try.underlying33 h
  rw [co_base] at hl
  have hxl : xs.length = 2 := hxl
  have h0 : DataW.trod enc Try.prog W base spare held n 26 ((cs.drop 0).take (Try.prog.cellsOf 26)) = xs[0]? := hf 0 _ rfl
  have h1 : DataW.trod enc Try.prog W base spare held n 31 ((cs.drop 30).take (Try.prog.cellsOf 31)) = xs[1]? := hf 1 _ rfl
  rw [co_objs] at h0
  rw [co_lasts] at h1
  obtain ⟨y0, e0⟩ := some_of' h0 (by omega)
  obtain ⟨y1, e1⟩ := some_of' h1 (by omega)
  obtain ⟨f, q0, hF⟩ := reads_objs e0
  obtain ⟨g, q1, hG⟩ := reads_lasts e1
  refine ⟨⟨f, g⟩, ?_, ⟨hF, hG⟩⟩
  have a0 := cut_at cs 0 30
  have a1 := cut_last cs 30 9 (by omega)
  have e : cs = (cs.drop 0).take 30 ++ (cs.drop 30).take 9 := by
    rw [a1, ← a0]
    rfl
  rw [e, q0, q1]
  rfl
end


section
variable {H : Type} {enc : TypeId × Value → H} {W : World} {base : Nat} {spare : Nat → Bool} {held : Bool} {fuel : Nat} {y : DataW H × List MemPlace}
theorem BaseFit.in9 {b : BaseV} (h : BaseFit 9223372036854775807 b) : BaseIn b := ⟨fun i => (h.last i).seq, fun i => (h.last i).code, fun i => (h.last i).data, fun i => (h.obj i).data, fun i => (h.obj i).a0, fun i => (h.obj i).a1, fun i => (h.obj i).a2⟩

theorem reads_ent {cs : List Value} (h : DataW.trod enc Try.prog W base spare held fuel 37 cs = some y) : ∃ e : EntV, cs = entL e ∧ EntOk e := by
  obtain ⟨xs, n, _, _, hl, hxl, hf⟩ := DataW.trod_struct Try.underlying37 h
  rw [co_ent] at hl
  have hxl : xs.length = 3 := hxl
  have h0 : DataW.trod enc Try.prog W base spare held n 22 ((cs.drop 0).take (Try.prog.cellsOf 22)) = xs[0]? := hf 0 _ rfl
  have h1 : DataW.trod enc Try.prog W base spare held n 22 ((cs.drop 1).take (Try.prog.cellsOf 22)) = xs[1]? := hf 1 _ rfl
  have h2 : DataW.trod enc Try.prog W base spare held n 35 ((cs.drop 2).take (Try.prog.cellsOf 35)) = xs[2]? := hf 2 _ rfl
  rw [co_u32] at h0 h1
  rw [co_op] at h2
  obtain ⟨y0, e0⟩ := some_of' h0 (by omega)
  obtain ⟨y1, e1⟩ := some_of' h1 (by omega)
  obtain ⟨y2, e2⟩ := some_of' h2 (by omega)
  obtain ⟨x0, q0, _, w0⟩ := DataW.trod_int Try.underlying22 e0
  obtain ⟨x1, q1, _, w1⟩ := DataW.trod_int Try.underlying22 e1
  obtain ⟨o, q2, ho⟩ := reads_op e2
  have b0 := bounds_u32 w0
  have b1 := bounds_u32 w1
  obtain ⟨k0, rfl⟩ := Int.eq_ofNat_of_zero_le b0.1
  obtain ⟨k1, rfl⟩ := Int.eq_ofNat_of_zero_le b1.1
  refine ⟨⟨k0, k1, o⟩, ?_, ⟨show k0 < 4294967296 by omega, show k1 < 4294967296 by omega, ho⟩⟩
  have a0 := cut_at cs 0 1
  have a1 := cut_at cs 1 1
  have a2 := cut_last cs 2 6 (by omega)
  have e : cs = (cs.drop 0).take 1 ++ ((cs.drop 1).take 1 ++ (cs.drop 2).take 6) := by
    rw [a2, ← a1, ← a0]
    rfl
  rw [e, q0, q1, q2]
  rfl
theorem reads_ents {cs : List Value} (h : DataW.trod enc Try.prog W 0 (fun _ => true) true fuel 38 cs = some y) : ∃ ao c l, cs = [.slice ao l.length c] ∧ Sl W ao c 8 (entR l) ∧ ∀ e ∈ l, EntOk e := by
  rcases Go.Deep.open_slice Try.underlying38 h with ⟨hcs, _⟩ | ⟨a, len, cap, m, n, D, Pl, hcs, _, hl, hm, hmm, _, hx⟩
  · exact ⟨none, 0, [], hcs, Sl.nothing _ _, fun _ h => by cases h⟩
  · have hm' : m = cap := by simpa using hmm
    subst hm'
    have each : ∀ i : Fin len, ∃ x : EntV, EntOk x ∧ ∀ j, j < 8 → W.cell? (a.add (i.val * 8 + j)) = (entL x)[j]? := by
      intro i
      obtain ⟨cs', h1, h2⟩ := hx i.val (by have := i.isLt; omega)
      rw [co_ent] at h1
      obtain ⟨_, hlen, hcell⟩ := World.cells?_some h1
      obtain ⟨x, rfl, hok⟩ := reads_ent h2
      refine ⟨x, hok, fun j hj => ?_⟩
      have := hcell j hj
      rw [Go.Deep.add_add] at this
      exact this
    refine ⟨some a, m, List.ofFn fun i : Fin len => (each i).choose, by rw [List.length_ofFn]; exact hcs, ⟨?_, Nat.le_trans hm (by unfold maxLen; omega), (fun h => by cases h), ?_, fun ad had i hi j hj => ?_⟩, ?_⟩
    · rw [entR_len, List.length_ofFn]; exact hl
    · intro r hr
      obtain ⟨x, _, rfl⟩ := List.mem_map.1 hr
      rfl
    · obtain rfl := Option.some.inj had
      have hi' : i < len := by rw [entR_len, List.length_ofFn] at hi; exact hi
      have := (each ⟨i, hi'⟩).choose_spec.2 j hj
      rw [this]
      unfold entR
      simp
    · intro x hx
      obtain ⟨i, rfl⟩ := List.mem_ofFn.1 hx
      exact (each i).choose_spec.1
theorem co_ents : Try.prog.cellsOf 38 = 1 := by kernel_rfl
theorem co_st : Try.prog.cellsOf 40 = 49 := by kernel_rfl
theorem co_diff : Try.prog.cellsOf 61 = 52 := by kernel_rfl
theorem co_int : Try.prog.cellsOf 3 = 1 := by kernel_rfl

/-- A state of whatever length. -/
structure StIn (s : StV) : Prop where
  started : s.started < 4294967296
  base : BaseIn s.base
  tail : EntOk s.tail
  log : ∀ e ∈ s.log, EntOk e
theorem StIn.ok {s : StV} (h : StIn s) (hl : s.log.length ≤ 1000) : StOk s := ⟨h.started, h.base, h.tail, h.log, hl⟩
theorem reads_st {cs : List Value} (h : DataW.trod enc Try.prog W 0 (fun _ => true) true fuel 40 cs = some y) : ∃ s ao c, cs = stL s ao c ∧ StIn s ∧ Sl W ao c 8 (entR s.log) := by
  obtain ⟨xs, n, _, _, hl, hxl, hf⟩ := DataW.trod_struct Try.underlying40 h
  rw [co_st] at hl
  have hxl : xs.length = 4 := hxl
  have h0 : DataW.trod enc Try.prog W 0 (fun _ => true) true n 22 ((cs.drop 0).take (Try.prog.cellsOf 22)) = xs[0]? := hf 0 _ rfl
  have h1 : DataW.trod enc Try.prog W 0 (fun _ => true) true n 33 ((cs.drop 1).take (Try.prog.cellsOf 33)) = xs[1]? := hf 1 _ rfl
  have h2 : DataW.trod enc Try.prog W 0 (fun _ => true) true n 37 ((cs.drop 40).take (Try.prog.cellsOf 37)) = xs[2]? := hf 2 _ rfl
  have h3 : DataW.trod enc Try.prog W 0 (fun _ => true) true n 38 ((cs.drop 48).take (Try.prog.cellsOf 38)) = xs[3]? := hf 3 _ rfl
  rw [co_u32] at h0
  rw [co_base] at h1
  rw [co_ent] at h2
  rw [co_ents] at h3
  obtain ⟨y0, e0⟩ := some_of' h0 (by omega)
  obtain ⟨y1, e1⟩ := some_of' h1 (by omega)
  obtain ⟨y2, e2⟩ := some_of' h2 (by omega)
  obtain ⟨y3, e3⟩ := some_of' h3 (by omega)
  obtain ⟨x0, q0, _, w0⟩ := DataW.trod_int Try.underlying22 e0
  obtain ⟨b, q1, hb⟩ := reads_base e1
  obtain ⟨t, q2, ht⟩ := reads_ent e2
  obtain ⟨ao, c, l, q3, hS, ho⟩ := reads_ents e3
  have b0 := bounds_u32 w0
  obtain ⟨k0, rfl⟩ := Int.eq_ofNat_of_zero_le b0.1
  refine ⟨⟨k0, b, t, l⟩, ao, c, ?_, ⟨show k0 < 4294967296 by omega, hb.in9, ht, ho⟩, hS⟩
  have a0 := cut_at cs 0 1
  have a1 := cut_at cs 1 39
  have a2 := cut_at cs 40 8
  have a3 := cut_last cs 48 1 (by omega)
  have e : cs = (cs.drop 0).take 1 ++ ((cs.drop 1).take 39 ++ ((cs.drop 40).take 8 ++ (cs.drop 48).take 1)) := by
    rw [a3, ← a2, ← a1, ← a0]
    rfl
  rw [e, q0, q1, q2, q3]
  rfl
structure DiffIn (d : DiffV) : Prop where
  kind1 : -9223372036854775808 ≤ d.kind
  kind2 : d.kind ≤ 9223372036854775807
  fr : d.fr < 4294967296
  log : ∀ e ∈ d.log, EntOk e
  whole : StIn d.whole
theorem reads_diff {cs : List Value} (h : DataW.trod enc Try.prog W 0 (fun _ => true) true fuel 61 cs = some y) : ∃ d lo lc wo wc, cs = diffL d lo lc wo wc ∧ DiffIn d ∧ Sl W lo lc 8 (entR d.log) ∧ Sl W wo wc 8 (entR d.whole.log) := by
  obtain ⟨xs, n, _, _, hl, hxl, hf⟩ := DataW.trod_struct Try.underlying61 h
  rw [co_diff] at hl
  have hxl : xs.length = 4 := hxl
  have h0 : DataW.trod enc Try.prog W 0 (fun _ => true) true n 3 ((cs.drop 0).take (Try.prog.cellsOf 3)) = xs[0]? := hf 0 _ rfl
  have h1 : DataW.trod enc Try.prog W 0 (fun _ => true) true n 22 ((cs.drop 1).take (Try.prog.cellsOf 22)) = xs[1]? := hf 1 _ rfl
  have h2 : DataW.trod enc Try.prog W 0 (fun _ => true) true n 38 ((cs.drop 2).take (Try.prog.cellsOf 38)) = xs[2]? := hf 2 _ rfl
  have h3 : DataW.trod enc Try.prog W 0 (fun _ => true) true n 40 ((cs.drop 3).take (Try.prog.cellsOf 40)) = xs[3]? := hf 3 _ rfl
  rw [co_int] at h0
  rw [co_u32] at h1
  rw [co_ents] at h2
  rw [co_st] at h3
  obtain ⟨y0, e0⟩ := some_of' h0 (by omega)
  obtain ⟨y1, e1⟩ := some_of' h1 (by omega)
  obtain ⟨y2, e2⟩ := some_of' h2 (by omega)
  obtain ⟨y3, e3⟩ := some_of' h3 (by omega)
  obtain ⟨x0, q0, _, w0⟩ := DataW.trod_int Try.underlying3 e0
  obtain ⟨x1, q1, _, w1⟩ := DataW.trod_int Try.underlying22 e1
  obtain ⟨lo, lc, l, q2, hL, ho⟩ := reads_ents e2
  obtain ⟨s, wo, wc, q3, hs, hS⟩ := reads_st e3
  have b0 := bounds_i64 w0
  have b1 := bounds_u32 w1
  obtain ⟨k1, rfl⟩ := Int.eq_ofNat_of_zero_le b1.1
  refine ⟨⟨x0, k1, l, s⟩, lo, lc, wo, wc, ?_, ⟨b0.1, b0.2, show k1 < 4294967296 by omega, ho, hs⟩, hL, hS⟩
  have a0 := cut_at cs 0 1
  have a1 := cut_at cs 1 1
  have a2 := cut_at cs 2 1
  have a3 := cut_last cs 3 49 (by omega)
  have e : cs = (cs.drop 0).take 1 ++ ((cs.drop 1).take 1 ++ ((cs.drop 2).take 1 ++ (cs.drop 3).take 49)) := by
    rw [a3, ← a2, ← a1, ← a0]
    rfl
  rw [e, q0, q1, q2, q3]
  rfl
end
theorem open_st {H : Type} {enc : TypeId × Value → H} {W : World} {base : Nat} {v : Value} {d : DataW H} {p : List MemPlace} (ok : Value.okWide Try.prog W .any base 40 v) (h : DataW.Trod enc Try.prog W 0 (fun _ => true) true 40 v d p) : ∃ s ao c, v = .agg (stC s ao c) ∧ StIn s ∧ Sl W ao c 8 (entR s.log) := by
  obtain ⟨cs, rfl, hsz⟩ := okWide_struct Try.underlying40 ok
  obtain ⟨fuel, hf⟩ := h
  obtain ⟨s, ao, c, hx, hk, hS⟩ := reads_st hf
  exact ⟨s, ao, c, by rw [show cs = stC s ao c from Array.toList_inj.1 hx], hk, hS⟩
theorem open_ent {H : Type} {enc : TypeId × Value → H} {W : World} {base : Nat} {v : Value} {d : DataW H} {p : List MemPlace} (ok : Value.okWide Try.prog W .any base 37 v) (h : DataW.Trod enc Try.prog W 0 (fun _ => true) true 37 v d p) : ∃ e, v = .agg (entC e) ∧ EntOk e := by
  obtain ⟨cs, rfl, hsz⟩ := okWide_struct Try.underlying37 ok
  obtain ⟨fuel, hf⟩ := h
  obtain ⟨e, hx, hk⟩ := reads_ent hf
  exact ⟨e, by rw [show cs = entC e from Array.toList_inj.1 hx], hk⟩
theorem open_diff {H : Type} {enc : TypeId × Value → H} {W : World} {base : Nat} {v : Value} {d : DataW H} {p : List MemPlace} (ok : Value.okWide Try.prog W .any base 61 v) (h : DataW.Trod enc Try.prog W 0 (fun _ => true) true 61 v d p) : ∃ x lo lc wo wc, v = .agg (diffC x lo lc wo wc) ∧ DiffIn x ∧ Sl W lo lc 8 (entR x.log) ∧ Sl W wo wc 8 (entR x.whole.log) := by
  obtain ⟨cs, rfl, hsz⟩ := okWide_struct Try.underlying61 ok
  obtain ⟨fuel, hf⟩ := h
  obtain ⟨x, lo, lc, wo, wc, hx, hk, hL, hS⟩ := reads_diff hf
  exact ⟨x, lo, lc, wo, wc, by rw [show cs = diffC x lo lc wo wc from Array.toList_inj.1 hx], hk, hL, hS⟩



theorem few_len8 {s : StV} {m : Nat} (h : fewM s m = true) : s.log.length ≤ m := by
  unfold fewM at h
  rw [Bool.and_eq_true, decide_eq_true_iff] at h
  exact h.2
theorem apply_two (s : StV) (d : DiffV) : (applyM s d).2 = 0 ∨ (applyM s d).2 = 80 := by
  unfold applyM
  split
  · exact .inl rfl
  · exact .inr rfl

set_option maxHeartbeats 16000000 in
theorem tells8_walk (s t : StV) (x : DiffV) (ao bo lo wo : Option Addr) (c d lc wc : Nat) (w : World) (hs0 : StIn s) (ht0 : StIn t) (hx0 : DiffIn x) (h : Sl w ao c 8 (entR s.log)) (h' : Sl w bo d 8 (entR t.log)) (hl : Sl w lo lc 8 (entR x.log)) (hwl : Sl w wo wc 8 (entR x.whole.log)) :
    Calls Try.prog 4 #[.agg (stC s ao c), .agg (stC t bo d), .agg (diffC x lo lc wo wc)] w fun en w' => en = .returned (.bool true) ∧ Below w.heap.size w w' := by
  obtain ⟨w1, hw1, hX, hY, hD, hb⟩ := three_vars w 40 40 61 (stC s ao c) (stC t bo d) (diffC x lo lc wo wc)
  go_enter Try.func4, Try.ntmps4
  go_wp2_with fail
  refine (known8_any _).mono ?_
  rintro en w2 ⟨rfl, hq⟩
  replace hX := hX.later hq
  replace hY := hY.later hq
  replace hD := hD.later hq
  replace hb := hb.trans (hq.mono hb.size)
  clear hq hw1
  go_wp2_with (first
    | (refine wpList_load_has (by rfl) 40 _ rfl (w.heap.size) rfl 40 (stC s ao c) _ Try.underlying40 rfl (st_size _ _ _) ?hg ?_; (case hg => exact hX))
    | fail)
  refine (few8_any s ao c _ hs0.base (h.later hb)).mono ?_
  rintro en w3 ⟨rfl, hq⟩
  replace hX := hX.later hq
  replace hY := hY.later hq
  replace hD := hD.later hq
  replace hb := hb.trans (hq.mono hb.size)
  clear hq
  cases hf1 : fewM s 12 with
  | false =>
    go_wp2
    go_ret
    exact ⟨rfl, hb⟩
  | true =>
  go_wp2_with (first
    | (refine wpList_load_has (by rfl) 40 _ rfl (w.heap.size + 1) rfl 40 (stC t bo d) _ Try.underlying40 rfl (st_size _ _ _) ?hg ?_; (case hg => exact hY))
    | fail)
  refine (few8_any t bo d _ ht0.base (h'.later hb)).mono ?_
  rintro en w4 ⟨rfl, hq⟩
  replace hX := hX.later hq
  replace hY := hY.later hq
  replace hD := hD.later hq
  replace hb := hb.trans (hq.mono hb.size)
  clear hq
  cases hf2 : fewM t 12 with
  | false =>
    go_wp2
    go_ret
    exact ⟨rfl, hb⟩
  | true =>
  have k3 := hD.d_whole
  go_wp2_with (first
    | (refine wpList_load_mid' (by rfl) 40 _ rfl (w.heap.size + 1 + 1) (3) rfl (stL x.whole wo wc) _ ?hg Try.underlying40 rfl (st_size _ _ _) ?_; (case hg => exact k3))
    | fail)
  clear k3
  refine (few8_any x.whole wo wc _ hx0.whole.base (hwl.later hb)).mono ?_
  rintro en w5 ⟨rfl, hq⟩
  replace hX := hX.later hq
  replace hY := hY.later hq
  replace hD := hD.later hq
  replace hb := hb.trans (hq.mono hb.size)
  clear hq
  cases hf3 : fewM x.whole 12 with
  | false =>
    go_wp2
    go_ret
    exact ⟨rfl, hb⟩
  | true =>
  have k2 := hD.d_log
  by_cases hlen : x.log.length ≤ 12
  · have i1 : ¬ (12 : Int) < (x.log.length : Int) := by omega
    have i2 : decide ((12 : Int) < (x.log.length : Int)) = false := by rw [decide_eq_false_iff_not]; omega
    have q1 := few_len8 hf1
    have q2 := few_len8 hf2
    have q3 := few_len8 hf3
    have hs := hs0.ok (by omega)
    have ht := ht0.ok (by omega)
    have hx : DiffOk x := ⟨hx0.kind1, hx0.kind2, hx0.fr, hx0.log, by omega, hx0.whole.ok (by omega)⟩
    clear hf1 hf2 hf3 q1 q2 q3 hlen hs0 ht0 hx0
    go_wp2_with (first
      | (refine wpList_load_has (by rfl) 40 _ rfl (w.heap.size) rfl 40 (stC s ao c) _ Try.underlying40 rfl (st_size _ _ _) ?hg ?_; (case hg => exact hX))
      | (refine wpList_load_has (by rfl) 40 _ rfl (w.heap.size + 1) rfl 40 (stC t bo d) _ Try.underlying40 rfl (st_size _ _ _) ?hg ?_; (case hg => exact hY))
      | fail)
    clear k2 i1 i2
    refine (make_any s t ao bo c d _ hs ht (h.later hb) (h'.later hb)).mono ?_
    rintro en w6 ⟨mo, mc, vo, vc, rfl, hG⟩
    have hM3 := hG.sl
    have hM4 := hG.wl
    replace hX := hX.later hG.below
    replace hY := hY.later hG.below
    replace hD := hD.later hG.below
    replace hb := hb.trans (hG.below.mono hb.size)
    clear hG
    obtain ⟨wa, hwa, hM1, hq⟩ := new_var w6 61 (diffC diff0 none 0 none 0) (diffC (makeM s t) mo mc vo vc)
    replace hX := hX.later hq
    replace hY := hY.later hq
    replace hD := hD.later hq
    replace hM3 := hM3.later hq
    replace hM4 := hM4.later hq
    replace hb := hb.trans (hq.mono hb.size)
    clear hq
    go_wp2_with (first
      | (refine wpList_alloc_has (by rfl) 61 rfl (diffC diff0 none 0 none 0) diff_zero ?_)
      | (refine wpList_store_to (by rfl) 61 _ _ rfl w6.heap.size rfl (diffC (makeM s t) mo mc vo vc) rfl 61 (diffC diff0 none 0 none 0) (diff_size _ _ _ _ _) (diff_same _ _ _ _ _ _ _ _ _ _) (diff_one _ _ _ _ _) ?hg wa ?hW ?_; (case hg => exact Has.new _ _ _); (case hW => exact hwa); clear hwa; generalize w6.heap.size = g1 at *)
      | (refine wpList_load_has (by rfl) 40 _ rfl (w.heap.size) rfl 40 (stC s ao c) _ Try.underlying40 rfl (st_size _ _ _) ?hg ?_; (case hg => exact hX))
      | (refine wpList_load_has (by rfl) 40 _ rfl (w.heap.size + 1) rfl 40 (stC t bo d) _ Try.underlying40 rfl (st_size _ _ _) ?hg ?_; (case hg => exact hY))
      | fail)
    refine (refmake_any s t ao bo c d _ hs ht (h.later hb) (h'.later hb)).mono ?_
    rintro en w7 ⟨no, nc, uo, uc, rfl, hM5, hM6, hq⟩
    replace hX := hX.later hq
    replace hY := hY.later hq
    replace hD := hD.later hq
    replace hM1 := hM1.later hq
    replace hM3 := hM3.later hq
    replace hM4 := hM4.later hq
    replace hb := hb.trans (hq.mono hb.size)
    clear hq
    have hMo := make_fit hs ht
    generalize makeM s t = M at *
    obtain ⟨wb, hwb, hM2, hq⟩ := new_var w7 61 (diffC diff0 none 0 none 0) (diffC M no nc uo uc)
    replace hX := hX.later hq
    replace hY := hY.later hq
    replace hD := hD.later hq
    replace hM1 := hM1.later hq
    replace hM3 := hM3.later hq
    replace hM4 := hM4.later hq
    replace hM5 := hM5.later hq
    replace hM6 := hM6.later hq
    replace hb := hb.trans (hq.mono hb.size)
    clear hq
    go_wp2_with (first
      | (refine wpList_alloc_has (by rfl) 61 rfl (diffC diff0 none 0 none 0) diff_zero ?_)
      | (refine wpList_store_to (by rfl) 61 _ _ rfl w7.heap.size rfl (diffC M no nc uo uc) rfl 61 (diffC diff0 none 0 none 0) (diff_size _ _ _ _ _) (diff_same _ _ _ _ _ _ _ _ _ _) (diff_one _ _ _ _ _) ?hg wb ?hW ?_; (case hg => exact Has.new _ _ _); (case hW => exact hwb); clear hwb; generalize w7.heap.size = g2 at *)
      | (refine wpList_load_has (by rfl) 40 _ rfl (w.heap.size) rfl 40 (stC s ao c) _ Try.underlying40 rfl (st_size _ _ _) ?hg ?_; (case hg => exact hX))
      | (refine wpList_load_has (by rfl) 61 _ rfl (w.heap.size + 1 + 1) rfl 61 (diffC x lo lc wo wc) _ Try.underlying61 rfl (diff_size _ _ _ _ _) ?hg ?_; (case hg => exact hD))
      | fail)
    refine (apply_any s x ao lo wo c lc wc _ hs hx (h.later hb) (hl.later hb) (hwl.later hb)).mono ?_
    rintro en w8 ⟨ro, rc, rfl, hG⟩
    have hA8 := hG.sl
    replace hX := hX.later hG.below
    replace hY := hY.later hG.below
    replace hD := hD.later hG.below
    replace hM1 := hM1.later hG.below
    replace hM2 := hM2.later hG.below
    replace hM3 := hM3.later hG.below
    replace hM4 := hM4.later hG.below
    replace hM5 := hM5.later hG.below
    replace hM6 := hM6.later hG.below
    replace hb := hb.trans (hG.below.mono hb.size)
    clear hG
    obtain ⟨wf, hwf, hA, hq⟩ := new_var w8 40 (stC st0 none 0) (stC (applyM s x).1 ro rc)
    replace hX := hX.later hq
    replace hY := hY.later hq
    replace hD := hD.later hq
    replace hM1 := hM1.later hq
    replace hM2 := hM2.later hq
    replace hM3 := hM3.later hq
    replace hM4 := hM4.later hq
    replace hM5 := hM5.later hq
    replace hM6 := hM6.later hq
    replace hA8 := hA8.later hq
    replace hb := hb.trans (hq.mono hb.size)
    clear hq
    go_wp2_with (first
      | (refine wpList_alloc_has (by rfl) 40 rfl (stC st0 none 0) st_zero ?_)
      | (refine wpList_store_to (by rfl) 40 _ _ rfl w8.heap.size rfl (stC (applyM s x).1 ro rc) rfl 40 (stC st0 none 0) (st_size _ _ _) (st_same _ _ _ _ _ _) (st_one _ _ _) ?hg wf ?hW ?_; (case hg => exact Has.new _ _ _); (case hW => exact hwf); clear hwf; generalize w8.heap.size = g3 at *)
      | (refine wpList_load_has (by rfl) 40 _ rfl (w.heap.size) rfl 40 (stC s ao c) _ Try.underlying40 rfl (st_size _ _ _) ?hg ?_; (case hg => exact hX))
      | (refine wpList_load_has (by rfl) 61 _ rfl (w.heap.size + 1 + 1) rfl 61 (diffC x lo lc wo wc) _ Try.underlying61 rfl (diff_size _ _ _ _ _) ?hg ?_; (case hg => exact hD))
      | fail)
    refine (refapply_any s x ao lo wo c lc wc _ hs hx (h.later hb) (hl.later hb) (hwl.later hb)).mono ?_
    rintro en w9 ⟨po, pc, rfl, hB8, hq⟩
    replace hX := hX.later hq
    replace hY := hY.later hq
    replace hM1 := hM1.later hq
    replace hM2 := hM2.later hq
    replace hM3 := hM3.later hq
    replace hM4 := hM4.later hq
    replace hM5 := hM5.later hq
    replace hM6 := hM6.later hq
    replace hA := hA.later hq
    replace hA8 := hA8.later hq
    replace hb := hb.trans (hq.mono hb.size)
    clear hq hD
    have hAo := apply_fit hs hx
    have hE := apply_two s x
    generalize (applyM s x).1 = A at *
    generalize (applyM s x).2 = E at *
    obtain ⟨wh, hwh, hB, hq⟩ := new_var w9 40 (stC st0 none 0) (stC A po pc)
    replace hX := hX.later hq
    replace hY := hY.later hq
    replace hM1 := hM1.later hq
    replace hM2 := hM2.later hq
    replace hM3 := hM3.later hq
    replace hM4 := hM4.later hq
    replace hM5 := hM5.later hq
    replace hM6 := hM6.later hq
    replace hA := hA.later hq
    replace hA8 := hA8.later hq
    replace hB8 := hB8.later hq
    replace hb := hb.trans (hq.mono hb.size)
    clear hq
    have h8 := h.later hb
    have h9 := h'.later hb
    rcases hE with rfl | rfl
    · rw [decide_eq_true (show (0 : Nat) = 0 from rfl)]
      go_wp2_with (first
        | (refine wpList_alloc_has (by rfl) 40 rfl (stC st0 none 0) st_zero ?_)
        | (refine wpList_store_to (by rfl) 40 _ _ rfl w9.heap.size rfl (stC A po pc) rfl 40 (stC st0 none 0) (st_size _ _ _) (st_same _ _ _ _ _ _) (st_one _ _ _) ?hg wh ?hW ?_; (case hg => exact Has.new _ _ _); (case hW => exact hwh); clear hwh; generalize w9.heap.size = g4 at *)
        | fail)
      have hbr : Below wh.heap.size wh wh.drew := (Below.refl _ _).drew
      refine wp_region_plan (fun W => Below wh.heap.size wh W) (Plan.of [(0, true), (1, true), (2, false), (3, true), (4, true), (5, true), (6, true), (7, true), (8, true), (9, true), (10, true), (11, true), (12, true), (13, true), (14, true), (15, true), (16, true), (17, true), (18, true), (19, true), (20, false), (21, true), (22, true), (23, true), (24, true), (26, true), (27, true), (25, false), (28, false), (29, true), (30, true), (31, true), (32, true), (34, true), (33, false), (35, false), (36, true), (37, true), (38, true)] .done) (by kernel_rfl) (by kernel_rfl) (by kernel_rfl) (by kernel_rfl) hbr ?_
      refine plan_take _ _ rfl (yields_load_has (by rfl) 61 _ rfl (g1) rfl 61 (diffC M mo mc vo vc) _ Try.underlying61 rfl (diff_size _ _ _ _ _) (fun W hW => hM1.later hW)) ?_
      try simp only [Act.put, List.setIfInBounds_toArray, List.set_cons_zero, List.set_cons_succ]
      refine plan_take _ _ rfl (yields_load_has (by rfl) 61 _ rfl (g2) rfl 61 (diffC M no nc uo uc) _ Try.underlying61 rfl (diff_size _ _ _ _ _) (fun W hW => hM2.later hW)) ?_
      try simp only [Act.put, List.setIfInBounds_toArray, List.set_cons_zero, List.set_cons_succ]
      refine plan_run _ rfl (fun K hK => ?_)
      go_simp
      refine (lawsame_any M mo vo no uo mc vc nc uc _ hMo (hM3.later hbr) (hM4.later hbr) (hM5.later hbr) (hM6.later hbr)).mono ?_
      rintro en wm ⟨rfl, hq⟩
      skip
      replace hbr := hbr.trans (hq.mono hbr.size)
      refine hK.out _ _ hbr ?_
      clear hK K hq
      try simp only [Act.put, List.setIfInBounds_toArray, List.set_cons_zero, List.set_cons_succ]
      iterate 15
        first
          | (refine plan_pass _ rfl (by rfl) ?_)
          | (refine plan_take _ _ rfl (.inl ⟨by rfl, fun W hS => by clear hS; go_simp; try with_reducible rfl⟩) ?_)
        try simp only [Act.put, List.setIfInBounds_toArray, List.set_cons_zero, List.set_cons_succ]
      refine plan_take _ _ rfl (yields_load_has (by rfl) 40 _ rfl (g3) rfl 40 (stC A ro rc) _ Try.underlying40 rfl (st_size _ _ _) (fun W hW => hA.later hW)) ?_
      try simp only [Act.put, List.setIfInBounds_toArray, List.set_cons_zero, List.set_cons_succ]
      refine plan_take _ _ rfl (yields_load_has (by rfl) 40 _ rfl (g4) rfl 40 (stC A po pc) _ Try.underlying40 rfl (st_size _ _ _) (fun W hW => hB.later hW)) ?_
      try simp only [Act.put, List.setIfInBounds_toArray, List.set_cons_zero, List.set_cons_succ]
      refine plan_run _ rfl (fun K hK => ?_)
      go_simp
      refine (refsame_any A A ro po rc pc _ hAo hAo (hA8.later hbr) (hB8.later hbr)).mono ?_
      rintro en wm ⟨rfl, hq⟩
      rw [same_self]
      replace hbr := hbr.trans (hq.mono hbr.size)
      refine hK.out _ _ hbr ?_
      clear hK K hq
      try simp only [Act.put, List.setIfInBounds_toArray, List.set_cons_zero, List.set_cons_succ]
      iterate 2
        first
          | (refine plan_pass _ rfl (by rfl) ?_)
          | (refine plan_take _ _ rfl (.inl ⟨by rfl, fun W hS => by clear hS; go_simp; try with_reducible rfl⟩) ?_)
        try simp only [Act.put, List.setIfInBounds_toArray, List.set_cons_zero, List.set_cons_succ]
      refine plan_take _ _ rfl (yields_load_has (by rfl) 40 _ rfl (w.heap.size) rfl 40 (stC s ao c) _ Try.underlying40 rfl (st_size _ _ _) (fun W hW => hX.later hW)) ?_
      try simp only [Act.put, List.setIfInBounds_toArray, List.set_cons_zero, List.set_cons_succ]
      refine plan_take _ _ rfl (yields_load_has (by rfl) 40 _ rfl (w.heap.size + 1) rfl 40 (stC t bo d) _ Try.underlying40 rfl (st_size _ _ _) (fun W hW => hY.later hW)) ?_
      try simp only [Act.put, List.setIfInBounds_toArray, List.set_cons_zero, List.set_cons_succ]
      refine plan_take _ _ rfl (yields_load_has (by rfl) 40 _ rfl (w.heap.size) rfl 40 (stC s ao c) _ Try.underlying40 rfl (st_size _ _ _) (fun W hW => hX.later hW)) ?_
      try simp only [Act.put, List.setIfInBounds_toArray, List.set_cons_zero, List.set_cons_succ]
      refine plan_take _ _ rfl (yields_load_has (by rfl) 40 _ rfl (w.heap.size + 1) rfl 40 (stC t bo d) _ Try.underlying40 rfl (st_size _ _ _) (fun W hW => hY.later hW)) ?_
      try simp only [Act.put, List.setIfInBounds_toArray, List.set_cons_zero, List.set_cons_succ]
      refine plan_run _ rfl (fun K hK => ?_)
      go_simp
      refine (extends_any s t ao bo c d _ hs ht (h8.later hbr) (h9.later hbr)).mono ?_
      rintro en wm ⟨rfl, hq⟩
      skip
      replace hbr := hbr.trans (hq.mono hbr.size)
      refine hK.out _ _ hbr ?_
      clear hK K hq
      try simp only [Act.put, List.setIfInBounds_toArray, List.set_cons_zero, List.set_cons_succ]
      refine plan_run _ rfl (fun K hK => ?_)
      go_simp
      refine (refextends_any s t ao bo c d _ hs ht (h8.later hbr) (h9.later hbr)).mono ?_
      rintro en wm ⟨rfl, hq⟩
      skip
      replace hbr := hbr.trans (hq.mono hbr.size)
      refine hK.out _ _ hbr ?_
      clear hK K hq
      try simp only [Act.put, List.setIfInBounds_toArray, List.set_cons_zero, List.set_cons_succ]
      generalize extendsM s t = be at *
      iterate 3
        first
          | (refine plan_pass _ rfl (by rfl) ?_)
          | (refine plan_take _ _ rfl (.inl ⟨by rfl, fun W hS => by clear hS; go_simp; try with_reducible rfl⟩) ?_)
        try simp only [Act.put, List.setIfInBounds_toArray, List.set_cons_zero, List.set_cons_succ]
      refine plan_take _ _ rfl (yields_load_has (by rfl) 61 _ rfl (g2) rfl 61 (diffC M no nc uo uc) _ Try.underlying61 rfl (diff_size _ _ _ _ _) (fun W hW => hM2.later hW)) ?_
      try simp only [Act.put, List.setIfInBounds_toArray, List.set_cons_zero, List.set_cons_succ]
      refine plan_take _ _ rfl (yields_load_has (by rfl) 61 _ rfl (g2) rfl 61 (diffC M no nc uo uc) _ Try.underlying61 rfl (diff_size _ _ _ _ _) (fun W hW => hM2.later hW)) ?_
      try simp only [Act.put, List.setIfInBounds_toArray, List.set_cons_zero, List.set_cons_succ]
      refine plan_run _ rfl (fun K hK => ?_)
      go_simp
      refine (bytes_any M no uo nc uc _ hMo).mono ?_
      rintro en wm ⟨rfl, hq⟩
      skip
      replace hbr := hbr.trans (hq.mono hbr.size)
      refine hK.out _ _ hbr ?_
      clear hK K hq
      try simp only [Act.put, List.setIfInBounds_toArray, List.set_cons_zero, List.set_cons_succ]
      refine plan_run _ rfl (fun K hK => ?_)
      go_simp
      refine (refbytes_any M no uo nc uc _ hMo).mono ?_
      rintro en wm ⟨rfl, hq⟩
      skip
      replace hbr := hbr.trans (hq.mono hbr.size)
      refine hK.out _ _ hbr ?_
      clear hK K hq
      try simp only [Act.put, List.setIfInBounds_toArray, List.set_cons_zero, List.set_cons_succ]
      generalize bytesM M = by8 at *
      iterate 3
        first
          | (refine plan_pass _ rfl (by rfl) ?_)
          | (refine plan_take _ _ rfl (.inl ⟨by rfl, fun W hS => by clear hS; go_simp; try with_reducible rfl⟩) ?_)
        try simp only [Act.put, List.setIfInBounds_toArray, List.set_cons_zero, List.set_cons_succ]
      refine plan_done ?_
      replace hb := hb.trans (hbr.mono hb.size)
      clear hbr
      go_wp2
      go_ret
      exact ⟨rfl, hb⟩
    · rw [decide_eq_false (show ¬ (80 : Nat) = 0 by omega)]
      go_wp2_with (first
        | (refine wpList_alloc_has (by rfl) 40 rfl (stC st0 none 0) st_zero ?_)
        | (refine wpList_store_to (by rfl) 40 _ _ rfl w9.heap.size rfl (stC A po pc) rfl 40 (stC st0 none 0) (st_size _ _ _) (st_same _ _ _ _ _ _) (st_one _ _ _) ?hg wh ?hW ?_; (case hg => exact Has.new _ _ _); (case hW => exact hwh); clear hwh; generalize w9.heap.size = g4 at *)
        | fail)
      have hbr : Below wh.heap.size wh wh.drew := (Below.refl _ _).drew
      refine wp_region_plan (fun W => Below wh.heap.size wh W) (Plan.of [(0, true), (1, true), (2, false), (3, true), (4, true), (5, true), (6, true), (7, true), (8, true), (9, true), (10, true), (11, true), (12, true), (13, true), (14, true), (15, true), (16, true), (17, true), (18, true), (19, true), (20, false), (21, true), (22, true), (23, true), (24, true), (26, true), (27, true), (25, false), (28, false), (29, true), (30, true), (31, true), (32, true), (34, true), (33, false), (35, false), (36, true), (37, true), (38, true)] .done) (by kernel_rfl) (by kernel_rfl) (by kernel_rfl) (by kernel_rfl) hbr ?_
      refine plan_take _ _ rfl (yields_load_has (by rfl) 61 _ rfl (g1) rfl 61 (diffC M mo mc vo vc) _ Try.underlying61 rfl (diff_size _ _ _ _ _) (fun W hW => hM1.later hW)) ?_
      try simp only [Act.put, List.setIfInBounds_toArray, List.set_cons_zero, List.set_cons_succ]
      refine plan_take _ _ rfl (yields_load_has (by rfl) 61 _ rfl (g2) rfl 61 (diffC M no nc uo uc) _ Try.underlying61 rfl (diff_size _ _ _ _ _) (fun W hW => hM2.later hW)) ?_
      try simp only [Act.put, List.setIfInBounds_toArray, List.set_cons_zero, List.set_cons_succ]
      refine plan_run _ rfl (fun K hK => ?_)
      go_simp
      refine (lawsame_any M mo vo no uo mc vc nc uc _ hMo (hM3.later hbr) (hM4.later hbr) (hM5.later hbr) (hM6.later hbr)).mono ?_
      rintro en wm ⟨rfl, hq⟩
      skip
      replace hbr := hbr.trans (hq.mono hbr.size)
      refine hK.out _ _ hbr ?_
      clear hK K hq
      try simp only [Act.put, List.setIfInBounds_toArray, List.set_cons_zero, List.set_cons_succ]
      iterate 15
        first
          | (refine plan_pass _ rfl (by rfl) ?_)
          | (refine plan_take _ _ rfl (.inl ⟨by rfl, fun W hS => by clear hS; go_simp; try with_reducible rfl⟩) ?_)
        try simp only [Act.put, List.setIfInBounds_toArray, List.set_cons_zero, List.set_cons_succ]
      refine plan_take _ _ rfl (yields_load_has (by rfl) 40 _ rfl (g3) rfl 40 (stC A ro rc) _ Try.underlying40 rfl (st_size _ _ _) (fun W hW => hA.later hW)) ?_
      try simp only [Act.put, List.setIfInBounds_toArray, List.set_cons_zero, List.set_cons_succ]
      refine plan_take _ _ rfl (yields_load_has (by rfl) 40 _ rfl (g4) rfl 40 (stC A po pc) _ Try.underlying40 rfl (st_size _ _ _) (fun W hW => hB.later hW)) ?_
      try simp only [Act.put, List.setIfInBounds_toArray, List.set_cons_zero, List.set_cons_succ]
      refine plan_run _ rfl (fun K hK => ?_)
      go_simp
      refine (refsame_any A A ro po rc pc _ hAo hAo (hA8.later hbr) (hB8.later hbr)).mono ?_
      rintro en wm ⟨rfl, hq⟩
      rw [same_self]
      replace hbr := hbr.trans (hq.mono hbr.size)
      refine hK.out _ _ hbr ?_
      clear hK K hq
      try simp only [Act.put, List.setIfInBounds_toArray, List.set_cons_zero, List.set_cons_succ]
      iterate 2
        first
          | (refine plan_pass _ rfl (by rfl) ?_)
          | (refine plan_take _ _ rfl (.inl ⟨by rfl, fun W hS => by clear hS; go_simp; try with_reducible rfl⟩) ?_)
        try simp only [Act.put, List.setIfInBounds_toArray, List.set_cons_zero, List.set_cons_succ]
      refine plan_take _ _ rfl (yields_load_has (by rfl) 40 _ rfl (w.heap.size) rfl 40 (stC s ao c) _ Try.underlying40 rfl (st_size _ _ _) (fun W hW => hX.later hW)) ?_
      try simp only [Act.put, List.setIfInBounds_toArray, List.set_cons_zero, List.set_cons_succ]
      refine plan_take _ _ rfl (yields_load_has (by rfl) 40 _ rfl (w.heap.size + 1) rfl 40 (stC t bo d) _ Try.underlying40 rfl (st_size _ _ _) (fun W hW => hY.later hW)) ?_
      try simp only [Act.put, List.setIfInBounds_toArray, List.set_cons_zero, List.set_cons_succ]
      refine plan_take _ _ rfl (yields_load_has (by rfl) 40 _ rfl (w.heap.size) rfl 40 (stC s ao c) _ Try.underlying40 rfl (st_size _ _ _) (fun W hW => hX.later hW)) ?_
      try simp only [Act.put, List.setIfInBounds_toArray, List.set_cons_zero, List.set_cons_succ]
      refine plan_take _ _ rfl (yields_load_has (by rfl) 40 _ rfl (w.heap.size + 1) rfl 40 (stC t bo d) _ Try.underlying40 rfl (st_size _ _ _) (fun W hW => hY.later hW)) ?_
      try simp only [Act.put, List.setIfInBounds_toArray, List.set_cons_zero, List.set_cons_succ]
      refine plan_run _ rfl (fun K hK => ?_)
      go_simp
      refine (extends_any s t ao bo c d _ hs ht (h8.later hbr) (h9.later hbr)).mono ?_
      rintro en wm ⟨rfl, hq⟩
      skip
      replace hbr := hbr.trans (hq.mono hbr.size)
      refine hK.out _ _ hbr ?_
      clear hK K hq
      try simp only [Act.put, List.setIfInBounds_toArray, List.set_cons_zero, List.set_cons_succ]
      refine plan_run _ rfl (fun K hK => ?_)
      go_simp
      refine (refextends_any s t ao bo c d _ hs ht (h8.later hbr) (h9.later hbr)).mono ?_
      rintro en wm ⟨rfl, hq⟩
      skip
      replace hbr := hbr.trans (hq.mono hbr.size)
      refine hK.out _ _ hbr ?_
      clear hK K hq
      try simp only [Act.put, List.setIfInBounds_toArray, List.set_cons_zero, List.set_cons_succ]
      generalize extendsM s t = be at *
      iterate 3
        first
          | (refine plan_pass _ rfl (by rfl) ?_)
          | (refine plan_take _ _ rfl (.inl ⟨by rfl, fun W hS => by clear hS; go_simp; try with_reducible rfl⟩) ?_)
        try simp only [Act.put, List.setIfInBounds_toArray, List.set_cons_zero, List.set_cons_succ]
      refine plan_take _ _ rfl (yields_load_has (by rfl) 61 _ rfl (g2) rfl 61 (diffC M no nc uo uc) _ Try.underlying61 rfl (diff_size _ _ _ _ _) (fun W hW => hM2.later hW)) ?_
      try simp only [Act.put, List.setIfInBounds_toArray, List.set_cons_zero, List.set_cons_succ]
      refine plan_take _ _ rfl (yields_load_has (by rfl) 61 _ rfl (g2) rfl 61 (diffC M no nc uo uc) _ Try.underlying61 rfl (diff_size _ _ _ _ _) (fun W hW => hM2.later hW)) ?_
      try simp only [Act.put, List.setIfInBounds_toArray, List.set_cons_zero, List.set_cons_succ]
      refine plan_run _ rfl (fun K hK => ?_)
      go_simp
      refine (bytes_any M no uo nc uc _ hMo).mono ?_
      rintro en wm ⟨rfl, hq⟩
      skip
      replace hbr := hbr.trans (hq.mono hbr.size)
      refine hK.out _ _ hbr ?_
      clear hK K hq
      try simp only [Act.put, List.setIfInBounds_toArray, List.set_cons_zero, List.set_cons_succ]
      refine plan_run _ rfl (fun K hK => ?_)
      go_simp
      refine (refbytes_any M no uo nc uc _ hMo).mono ?_
      rintro en wm ⟨rfl, hq⟩
      skip
      replace hbr := hbr.trans (hq.mono hbr.size)
      refine hK.out _ _ hbr ?_
      clear hK K hq
      try simp only [Act.put, List.setIfInBounds_toArray, List.set_cons_zero, List.set_cons_succ]
      generalize bytesM M = by8 at *
      iterate 3
        first
          | (refine plan_pass _ rfl (by rfl) ?_)
          | (refine plan_take _ _ rfl (.inl ⟨by rfl, fun W hS => by clear hS; go_simp; try with_reducible rfl⟩) ?_)
        try simp only [Act.put, List.setIfInBounds_toArray, List.set_cons_zero, List.set_cons_succ]
      refine plan_done ?_
      replace hb := hb.trans (hbr.mono hb.size)
      clear hbr
      go_wp2
      go_ret
      exact ⟨rfl, hb⟩
  · have i1 : (12 : Int) < (x.log.length : Int) := by omega
    have i2 : decide ((12 : Int) < (x.log.length : Int)) = true := by rw [decide_eq_true_iff]; omega
    go_wp2
    go_ret
    exact ⟨rfl, hb⟩
end Go.Proofs.Ytphlfepgaghhhaa
