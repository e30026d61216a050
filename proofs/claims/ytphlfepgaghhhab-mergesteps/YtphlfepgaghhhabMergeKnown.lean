/- paddocklaw8.known returns true. -/
import Derived.Test.YtphlfepgaghhhabMergeFace
namespace Go.Proofs.Ytphlfepgaghhhab
set_option linter.unusedSimpArgs false
set_option linter.unusedVariables false
set_option maxRecDepth 100000
open Go.RowKit

def k8O : OpV := ⟨1, 1, 1, 0, 0, [97]⟩
def k8E : EntV := ⟨1, 1, k8O⟩
def k8S : StV := ⟨0, base0, ent0, [k8E]⟩
def k8D : DiffV := ⟨9, 0, [], st0⟩
theorem k8O_built : Try.prog.built 37 [(0, .int .u8 1), (1, .int .u32 1), (2, .int .u8 1), (5, .string (ByteArray.mk #[97]))] = some (opC k8O) := by kernel_rfl
theorem k8E_built : Try.prog.built 39 [(0, .int .u32 1), (1, .int .u32 1), (2, .agg (opC k8O))] = some (entC k8E) := by kernel_rfl
theorem k8O_ok : OpOk k8O := ⟨by decide, by decide, by decide, by decide, by decide, by decide⟩
theorem k8E_ok : EntOk k8E := ⟨by show 1 < _; decide, by show 1 < _; decide, k8O_ok⟩
theorem k8O_writes : writesM k8O = true := by
  rw [writes_is, isOp_is]
  simp [k8O]
theorem k8_follows : followsM ent0 k8E = true := follows_is.2 ⟨k8O_writes, rfl, by show 0 ≤ 1; decide, by show 1 ≤ 60; decide⟩
theorem k8S_ok : StOk k8S := ⟨by show 0 < _; decide, base0_ok.in', ⟨by show 0 < _; decide, by show 0 < _; decide, op0_ok⟩, (fun e he => by rw [List.mem_singleton.1 he]; exact k8E_ok), by show 1 ≤ _; decide⟩
theorem k8S_is : isM k8S = true := by
  rw [is_is]
  refine ⟨by show 0 ≤ 60; decide, rfl, isBase0, by show 1 ≤ 6; decide, ?_⟩
  show (followsM ent0 k8E && true) = true
  rw [k8_follows]
  rfl
theorem k8_add : addM st0 k8E = (k8S, 0) := by
  rw [add_yes (can_is.2 ⟨is_st0, k8_follows⟩)]
  rfl
theorem k8_make : makeM st0 k8S = ⟨1, 0, [k8E], endsM k8S⟩ := by
  have h1 : same tSt (startAt st0 k8S.started) k8S = false := same_not (fun e => by have : ([] : List EntV) = [k8E] := congrArg StV.log e; cases this)
  have h2 : throughM st0 k8S = true := through_of (m := 0) is_st0 (Nat.le_refl _) rfl rfl rfl
  rw [make_1 is_st0 k8S_is h1 h2]
  have h3 : sharedN st0 k8S.log = 0 := by
    have := (shared_is is_st0 k8S.log 0 ent0 rfl ((is_is k8S).1 k8S_is).2.2.2.2 (Nat.le_refl _)).1
    have e : st0.log.length = 0 := rfl
    omega
  rw [h3]
  rfl
theorem k8_apply : applyM st0 ⟨1, 0, [k8E], endsM k8S⟩ = (k8S, 0) := by rw [← k8_make]; exact apply_make is_st0 k8S_is
theorem k8_bad : applyM k8S k8D = (st0, 80) := apply_no (.inr (.inl rfl))
theorem k8D_ok : DiffOk k8D := ⟨by decide, by decide, by decide, (fun e he => by cases he), by decide, st0_fit⟩
theorem k8_self : (makeM k8S k8S).kind = 0 := by
  rw [make_0 k8S_is k8S_is (by rw [same_is]; rfl)]
theorem k8_ext : extendsM st0 k8S = true := by
  rw [extends_yes is_st0 k8S_is, k8_make]
  rfl
theorem k8_noext : extendsM k8S st0 = false := by
  rw [extends_yes k8S_is is_st0]
  rfl
theorem k8T_ok : DiffOk ⟨1, 0, [k8E], endsM k8S⟩ := by rw [← k8_make]; exact make_fit st0_fit k8S_ok
theorem diff_kind {o : Oper} {ev : Operand → Value} (x : Operand) (ho : o.op = .field 48 x 0) (d : DiffV) (lo wo : Option Addr) (lc wc : Nat) (hx : ev x = .agg (diffC d lo lc wo wc)) (w : World) : (execOp ev o).run Try.prog w = .ok (.value (.int .i64 d.kind)) w :=
  run_field_one 48 x 0 ho (diffC d lo lc wo wc) hx _ _ _ Try.underlying48 rfl Try.underlying3 rfl _ rfl w

set_option maxHeartbeats 4000000 in
theorem known8_any (w : World) : Calls Try.prog 5 #[] w fun en w' => en = .returned (.bool true) ∧ Below w.heap.size w w' := by
  go_enter Try.func5, Try.ntmps5
  go_wp2_with (first
    | (refine wpList_build_has (by rfl) 42 #[] rfl (stC st0 none 0) (by simpa using st_built0) ?_)
    | (refine wpList_build_four8 (by rfl) 37 0 1 2 5 _ _ _ _ rfl (.int .u8 1) (.int .u32 1) (.int .u8 1) (.string (ByteArray.mk #[97])) rfl rfl rfl rfl (opC k8O) k8O_built ?_)
    | (refine wpList_build_three (by rfl) 39 0 1 2 _ _ _ rfl (.int .u32 1) (.int .u32 1) (.agg (opC k8O)) rfl rfl rfl (entC k8E) k8E_built ?_)
    | fail)
  refine (add_any st0 none 0 k8E _ st0_fit k8E_ok (Sl.nothing _ _)).mono ?_
  rintro en w1 ⟨ro, rc, rfl, hG⟩
  rw [k8_add] at hG
  rw [k8_add]
  have hS8 := hG.sl
  have hb := hG.below
  clear hG
  have hSo := k8S_ok
  have hmk : Hid _ := k8_make
  have hap : Hid _ := k8_apply
  have hbad : Hid _ := k8_bad
  have hself : Hid _ := k8_self
  have hext : Hid _ := k8_ext
  have hnoext : Hid _ := k8_noext
  have hTo := k8T_ok
  have hkE : Hid ((⟨1, 0, [k8E], endsM k8S⟩ : DiffV).kind = 1 ∧ (⟨1, 0, [k8E], endsM k8S⟩ : DiffV).log.length = 1) := ⟨rfl, rfl⟩
  generalize (⟨1, 0, [k8E], endsM k8S⟩ : DiffV) = D at *
  generalize k8S = S at *
  obtain ⟨w2, hw2, hX, hq⟩ := new_var w1 42 (stC st0 none 0) (stC S ro rc)
  replace hS8 := hS8.later hq
  replace hb := hb.trans (hq.mono hb.size)
  clear hq
  go_wp2_with (first
    | (refine wpList_alloc_has (by rfl) 42 rfl (stC st0 none 0) st_zero ?_)
    | (refine wpList_store_to (by rfl) 42 _ _ rfl w1.heap.size rfl (stC S ro rc) rfl 42 (stC st0 none 0) (st_size _ _ _) (st_same _ _ _ _ _ _) (st_one _ _ _) ?hg w2 ?hW ?_; (case hg => exact Has.new _ _ _); (case hW => exact hw2); clear hw2; generalize w1.heap.size = gs at *)
    | (refine wpList_build_has (by rfl) 42 #[] rfl (stC st0 none 0) (by simpa using st_built0) ?_)
    | (refine wpList_load_has (by rfl) 42 _ rfl (gs) rfl 42 (stC S ro rc) _ Try.underlying42 rfl (st_size _ _ _) ?hg ?_; (case hg => exact hX))
    | fail)
  refine (make_any st0 S none ro 0 rc _ st0_fit hSo (Sl.nothing _ _) hS8).mono ?_
  rintro en w3 ⟨lo, lc, wo, wc, rfl, hG⟩
  rw [hmk.out] at hG
  rw [hmk.out]
  have hDl := hG.sl
  have hDw := hG.wl
  replace hX := hX.later hG.below
  replace hS8 := hS8.later hG.below
  replace hb := hb.trans (hG.below.mono hb.size)
  clear hG
  obtain ⟨w4, hw4, hD, hq⟩ := new_var w3 48 (diffC diff0 none 0 none 0) (diffC D lo lc wo wc)
  replace hX := hX.later hq
  replace hS8 := hS8.later hq
  replace hDl := hDl.later hq
  replace hDw := hDw.later hq
  replace hb := hb.trans (hq.mono hb.size)
  clear hq
  go_wp2_with (first
    | (refine wpList_alloc_has (by rfl) 48 rfl (diffC diff0 none 0 none 0) diff_zero ?_)
    | (refine wpList_store_to (by rfl) 48 _ _ rfl w3.heap.size rfl (diffC D lo lc wo wc) rfl 48 (diffC diff0 none 0 none 0) (diff_size _ _ _ _ _) (diff_same _ _ _ _ _ _ _ _ _ _) (diff_one _ _ _ _ _) ?hg w4 ?hW ?_; (case hg => exact Has.new _ _ _); (case hW => exact hw4); clear hw4; generalize w3.heap.size = gd at *)
    | (refine wpList_build_has (by rfl) 42 #[] rfl (stC st0 none 0) (by simpa using st_built0) ?_)
    | (refine wpList_load_has (by rfl) 48 _ rfl (gd) rfl 48 (diffC D lo lc wo wc) _ Try.underlying48 rfl (diff_size _ _ _ _ _) ?hg ?_; (case hg => exact hD))
    | fail)
  refine (apply_any st0 D none lo wo 0 lc wc _ st0_fit hTo (Sl.nothing _ _) hDl hDw).mono ?_
  rintro en w5 ⟨ko, kc, rfl, hG⟩
  rw [hap.out] at hG
  rw [hap.out]
  have hT8 := hG.sl
  replace hX := hX.later hG.below
  replace hS8 := hS8.later hG.below
  replace hD := hD.later hG.below
  replace hb := hb.trans (hG.below.mono hb.size)
  clear hG
  obtain ⟨w6, hw6, hT, hq⟩ := new_var w5 42 (stC st0 none 0) (stC S ko kc)
  replace hX := hX.later hq
  replace hS8 := hS8.later hq
  replace hD := hD.later hq
  replace hT8 := hT8.later hq
  replace hb := hb.trans (hq.mono hb.size)
  clear hq
  go_wp2_with (first
    | (refine wpList_alloc_has (by rfl) 42 rfl (stC st0 none 0) st_zero ?_)
    | (refine wpList_store_to (by rfl) 42 _ _ rfl w5.heap.size rfl (stC S ko kc) rfl 42 (stC st0 none 0) (st_size _ _ _) (st_same _ _ _ _ _ _) (st_one _ _ _) ?hg w6 ?hW ?_; (case hg => exact Has.new _ _ _); (case hW => exact hw6); clear hw6; generalize w5.heap.size = gt at *)
    | (refine wpList_load_has (by rfl) 42 _ rfl (gs) rfl 42 (stC S ro rc) _ Try.underlying42 rfl (st_size _ _ _) ?hg ?_; (case hg => exact hX))
    | (refine wpList_build_one (by rfl) 48 0 _ rfl (.int .i64 9) rfl (diffC k8D none 0 none 0) (diff_built1 9) ?_)
    | fail)
  refine (apply_any S k8D ro none none rc 0 0 _ hSo k8D_ok hS8 (Sl.nothing _ _) (Sl.nothing _ _)).mono ?_
  rintro en w7 ⟨uo, uc, rfl, hG⟩
  rw [hbad.out]
  replace hX := hX.later hG.below
  replace hS8 := hS8.later hG.below
  replace hD := hD.later hG.below
  replace hT := hT.later hG.below
  replace hT8 := hT8.later hG.below
  replace hb := hb.trans (hG.below.mono hb.size)
  clear hG
  obtain ⟨w8, hw8, hU, hq⟩ := new_var w7 42 (stC st0 none 0) (stC st0 uo uc)
  replace hX := hX.later hq
  replace hS8 := hS8.later hq
  replace hD := hD.later hq
  replace hT := hT.later hq
  replace hT8 := hT8.later hq
  replace hb := hb.trans (hq.mono hb.size)
  clear hq
  have k0 := hD.d_kind
  have k2 := hD.d_log
  rw [hkE.out.1] at k0
  rw [hkE.out.2] at k2
  go_wp2_with (first
    | (refine wpList_alloc_has (by rfl) 42 rfl (stC st0 none 0) st_zero ?_)
    | (refine wpList_store_to (by rfl) 42 _ _ rfl w7.heap.size rfl (stC st0 uo uc) rfl 42 (stC st0 none 0) (st_size _ _ _) (st_same _ _ _ _ _ _) (st_one _ _ _) ?hg w8 ?hW ?_; (case hg => exact Has.new _ _ _); (case hW => exact hw8); clear hw8; generalize w7.heap.size = gu at *)
    | (refine wpList_load_has (by rfl) 42 _ rfl (gs) rfl 42 (stC S ro rc) _ Try.underlying42 rfl (st_size _ _ _) ?hg ?_; (case hg => exact hX))
    | (refine wpList_load_has (by rfl) 42 _ rfl (gt) rfl 42 (stC S ko kc) _ Try.underlying42 rfl (st_size _ _ _) ?hg ?_; (case hg => exact hT))
    | fail)
  refine (same_any S S ro ko rc kc _ hSo hSo hS8 hT8).mono ?_
  rintro en w9 ⟨rfl, hq⟩
  rw [same_self]
  replace hX := hX.later hq
  replace hS8 := hS8.later hq
  replace hb := hb.trans (hq.mono hb.size)
  clear hq k0 k2 hD hT hT8 hU
  go_wp2_with (first
    | (refine wpList_load_has (by rfl) 42 _ rfl (gs) rfl 42 (stC S ro rc) _ Try.underlying42 rfl (st_size _ _ _) ?hg ?_; (case hg => exact hX))
    | fail)
  refine (make_any S S ro ro rc rc _ hSo hSo hS8 hS8).mono ?_
  rintro en w10 ⟨lo, lc, wo, wc, rfl, hG⟩
  replace hX := hX.later hG.below
  replace hS8 := hS8.later hG.below
  replace hb := hb.trans (hG.below.mono hb.size)
  clear hG
  generalize makeM S S = M at *
  have hkk : (.int .i64 M.kind : Value) = .int .i64 0 := by rw [hself.out]
  go_wp2_with (first
    | (refine wpList_val (.int .i64 0) (by rfl) (hkk ▸ diff_kind _ rfl M _ _ _ _ rfl) ?_)
    | (refine wpList_build_has (by rfl) 42 #[] rfl (stC st0 none 0) (by simpa using st_built0) ?_)
    | (refine wpList_load_has (by rfl) 42 _ rfl (gs) rfl 42 (stC S ro rc) _ Try.underlying42 rfl (st_size _ _ _) ?hg ?_; (case hg => exact hX))
    | fail)
  refine (extends_any st0 S none ro 0 rc _ st0_fit hSo (Sl.nothing _ _) hS8).mono ?_
  rintro en w11 ⟨rfl, hq⟩
  rw [hext.out]
  replace hX := hX.later hq
  replace hS8 := hS8.later hq
  replace hb := hb.trans (hq.mono hb.size)
  clear hq
  go_wp2_with (first
    | (refine wpList_build_has (by rfl) 42 #[] rfl (stC st0 none 0) (by simpa using st_built0) ?_)
    | (refine wpList_load_has (by rfl) 42 _ rfl (gs) rfl 42 (stC S ro rc) _ Try.underlying42 rfl (st_size _ _ _) ?hg ?_; (case hg => exact hX))
    | fail)
  refine (extends_any S st0 ro none rc 0 _ hSo st0_fit hS8 (Sl.nothing _ _)).mono ?_
  rintro en w12 ⟨rfl, hq⟩
  rw [hnoext.out]
  replace hb := hb.trans (hq.mono hb.size)
  clear hq
  go_wp2
  go_ret
  exact ⟨rfl, hb⟩
end Go.Proofs.Ytphlfepgaghhhab
