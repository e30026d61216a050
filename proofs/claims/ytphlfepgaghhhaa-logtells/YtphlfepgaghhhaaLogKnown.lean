/- paddocklaw7.known returns true. -/
import Derived.Test.YtphlfepgaghhhaaLogAdd
namespace Go.Proofs.Ytphlfepgaghhhaa
set_option linter.unusedSimpArgs false
set_option linter.unusedVariables false
set_option maxRecDepth 100000
open Go.RowKit

theorem wpList_build_three' {P : Program} {ops : Array Oper} {rest : List Oper} {o : Oper} {a : Act} {w : World} {Q : Exit → Act → World → Prop} (hw : Region.wanted o (yielded ops a.tmps) = true) (t : TypeId) (i j k : Nat) (x y z : Operand) (ho : o.op = .build t #[(i, x), (j, y), (k, z)]) (p q r : Value) (hx : a.eval x = p) (hy : a.eval y = q) (hz : a.eval z = r) (c : Array Value) (hf : P.built t [(i, p), (j, q), (k, r)] = some c)
    (h : wpList P ops Q rest (a.put o.dst (.agg c)) w) : wpList P ops Q (o :: rest) a w :=
  wpList_build_has hw t _ ho c (by simpa [hx, hy, hz] using hf) h

def kO (n : Nat) : OpV := ⟨1, n, 1, 0, 0, [97]⟩
def kD : Nat → List OpV
  | 0 => []
  | m + 1 => kD m ++ [kO (m + 1)]
theorem kD_len (m : Nat) : (kD m).length = m := by
  induction m with
  | zero => rfl
  | succ m ih => show (kD m ++ [_]).length = _; rw [List.length_append, ih]; rfl
theorem kO_writes (n : Nat) (h : 1 ≤ n) : writesM (kO n) = true := by
  rw [writes_is, isOp_is]
  simp [kO]
  omega
theorem kO_ok (n : Nat) (h : n < 4294967296) : OpOk (kO n) := ⟨by show 1 < 256; decide, h, by show 1 < 256; decide, by show 0 < 256; decide, by show 0 < 256; decide, by show 1 ≤ _; decide⟩
theorem kD_writes (m : Nat) : ∀ o ∈ kD m, writesM o = true := by
  induction m with
  | zero => intro o ho; cases ho
  | succ m ih =>
    intro o ho
    rcases List.mem_append.1 ho with ho | ho
    · exact ih o ho
    · rw [List.mem_singleton.1 ho]; exact kO_writes _ (by omega)
theorem kD_ok (m : Nat) (hm : m < 1000) : ∀ o ∈ kD m, OpOk o := by
  induction m with
  | zero => intro o ho; cases ho
  | succ m ih =>
    intro o ho
    rcases List.mem_append.1 ho with ho | ho
    · exact ih (by omega) o ho
    · rw [List.mem_singleton.1 ho]; exact kO_ok _ (by omega)
theorem kS_ok (m : Nat) (hm : m < 1000) : StOk (stOf 1 (kD m)) := sK_ok (by decide) (kD_ok m hm) (by rw [kD_len]; omega) (by omega)
theorem kS_add (m : Nat) : addM (stOf 1 (kD m)) ⟨1, m + 1, kO (m + 1)⟩ = (stOf 1 (kD (m + 1)), 0) := by
  have h := stOf_add (q := 1) (D := kD m) (o := kO (m + 1)) (by decide) (kD_writes m)
  rw [kD_len, if_pos (kO_writes _ (by omega))] at h
  exact h
theorem kO_built (n : Nat) : Try.prog.built 35 [(0, .int .u8 1), (1, .int .u32 (n : Int)), (2, .int .u8 1), (5, .string (ByteArray.mk #[97]))] = some (opC (kO n)) := by kernel_rfl
theorem kE_built (n : Nat) (o : OpV) : Try.prog.built 37 [(0, .int .u32 1), (1, .int .u32 (n : Int)), (2, .agg (opC o))] = some (entC ⟨1, n, o⟩) := by kernel_rfl
def kB : OpV := ⟨1, 9, 4, 0, 0, []⟩
theorem kB_ok : OpOk kB := ⟨by decide, by decide, by decide, by decide, by decide, by decide⟩
theorem kB_built : Try.prog.built 35 [(0, .int .u8 1), (1, .int .u32 9), (2, .int .u8 4)] = some (opC kB) := by kernel_rfl
theorem kF_built : Try.prog.built 37 [(0, .int .u32 1), (1, .int .u32 9), (2, .agg (opC kB))] = some (entC ⟨1, 9, kB⟩) := by kernel_rfl
theorem kS_is : isM (stOf 1 (kD 7)) = true := sK_is (by decide) (kD_writes 7) (by rw [kD_len]; decide)
theorem kS_head : headM (stOf 1 (kD 7)) = (1, 7) := by
  have h := sK_headM (q := 1) (D := kD 7) (k := (kD 7).length - 6) (by decide) (kD_writes 7) (by rw [kD_len]; decide) (by omega)
  rw [kD_len] at h
  unfold stOf
  rw [kD_len, h]
  rfl
theorem kS_bad : addM (stOf 1 (kD 7)) ⟨1, 9, kB⟩ = (st0, 10) := by
  refine add_no ?_
  cases hc : canM (stOf 1 (kD 7)) ⟨1, 9, kB⟩ with
  | false => rfl
  | true =>
    have h := (follows_is.1 (can_is.1 hc).2).2.1
    have hh : headE (stOf 1 (kD 7)) = posQ 1 (kD 7).length := sK_head (by omega)
    rw [hh, posQ_n, kD_len] at h
    cases h
theorem k_data : (((allM base0 (kD 7)).1).obj 0).data = [97] := by kernel_rfl
theorem base_ext30 (b : BaseV) : (baseC b).extract 0 30 = (objsL b.obj).toArray := by kernel_rfl
theorem kS_data : ((foldM (stOf 1 (kD 7))).obj 0).data = [97] := by
  have h : foldM (stOf 1 (kD 7)) = (allM base0 (kD 7)).1 := sK_fold (by decide) (kD_writes 7) (by rw [kD_len]; decide)
  rw [h]
  exact k_data
theorem kS_len : (stOf 1 (kD 7)).log.length = 6 := by
  show (sK 1 (kD 7) _).log.length = 6
  rw [sK_len, kD_len]
theorem kS_tail : (stOf 1 (kD 7)).tail.n = 1 := by
  show (sK 1 (kD 7) _).tail.n = 1
  rw [sK_tail_n, kD_len]

theorem base_objs {o : Oper} {ev : Operand → Value} (x : Operand) (ho : o.op = .field 33 x 0) (b : BaseV) (hx : ev x = .agg (baseC b)) (w : World) : (execOp ev o).run Try.prog w = .ok (.value (.agg (objsL b.obj).toArray)) w :=
  run_field_row 33 x 0 ho (baseC b) hx _ _ _ 30 Try.underlying33 rfl Try.underlying26 rfl (by kernel_rfl) _ (base_ext30 b) w
theorem obj_data {o : Oper} {ev : Operand → Value} (x : Operand) (ho : o.op = .field 25 x 1) (y : ObjV) (hx : ev x = .agg (objC y)) (w : World) : (execOp ev o).run Try.prog w = .ok (.value (strV y.data)) w :=
  run_field_one 25 x 1 ho (objC y) hx _ _ _ Try.underlying25 rfl Try.underlying9 rfl _ rfl w

set_option maxHeartbeats 2000000 in
theorem known_any (w : World) : Calls Try.prog 9 #[] w fun en w' => en = .returned (.bool true) ∧ Below w.heap.size w w' := by
  obtain ⟨w1, hw1, hX1, hb1⟩ := new_var w 40 (stC st0 none 0) (stC st0 none 0)
  go_enter Try.func9, Try.ntmps9
  go_wp2_with (first
    | (refine wpList_build_has (by rfl) 40 #[] rfl (stC st0 none 0) (by simpa using st_built0) ?_)
    | (refine wpList_alloc_has (by rfl) 40 rfl (stC st0 none 0) st_zero ?_)
    | (refine wpList_store_to (by rfl) 40 _ _ rfl w.heap.size rfl (stC st0 none 0) rfl 40 (stC st0 none 0) (st_size _ _ _) (st_same _ _ _ _ _ _) (st_one _ _ _) ?hg w1 ?hW ?_; (case hg => exact Has.new _ _ _); (case hW => exact hw1); clear hw1))
  go_loopw [2] (fun i wr => ∃ (n : Nat) (ro : Option Addr) (rc : Nat), n ≤ 7 ∧ i = .int .u32 ((n + 1 : Nat) : Int) ∧ Has wr w.heap.size 40 (stC (stOf 1 (kD n)) ro rc) ∧ Sl wr ro rc 8 (entR (stOf 1 (kD n)).log) ∧ (∀ d, ro = some d → w.heap.size < d.block) ∧ Below w.heap.size w wr) (fun i _ => 8 - (intOf i).toNat)
  case atStart => exact ⟨0, none, 0, by decide, rfl, hX1, Sl.nothing _ _, (fun d hd => by cases hd), hb1⟩
  case round =>
    clear hX1 hb1
    obtain ⟨n, ro, rc, hn, rfl, hX, hS8, hap, hb⟩ := hrel
    by_cases hlt : n < 7
    · have hltI : (n : Int) < 7 := by omega
      have i1 : (n : Int) + 1 ≤ 7 := by omega
      have hso := kS_ok n (by omega)
      have hadd := kS_add n
      have heo : EntOk ⟨1, n + 1, kO (n + 1)⟩ := ⟨by show 1 < _; decide, by show n + 1 < _; omega, kO_ok _ (by omega)⟩
      have hlt0 := hX.lt
      go_wp2_with (first
        | (refine wpList_load_has (by rfl) 40 _ rfl w.heap.size rfl 40 (stC (stOf 1 (kD n)) ro rc) _ Try.underlying40 rfl (st_size _ _ _) ?hg ?_; (case hg => exact hX))
        | (refine wpList_build_four (by rfl) 35 0 1 2 5 _ _ _ _ rfl (.int .u8 1) (.int .u32 ((n + 1 : Nat) : Int)) (.int .u8 1) (.string (ByteArray.mk #[97])) rfl rfl rfl rfl (opC (kO (n + 1))) (kO_built _) ?_)
        | (refine wpList_build_three' (by rfl) 37 0 1 2 _ _ _ rfl (.int .u32 1) (.int .u32 ((n + 1 : Nat) : Int)) (.agg (opC (kO (n + 1)))) rfl rfl rfl (entC ⟨1, n + 1, kO (n + 1)⟩) (kE_built _ _) ?_))
      refine (add_any (stOf 1 (kD n)) ro rc ⟨1, n + 1, kO (n + 1)⟩ _ hso heo hS8).mono ?_
      rintro en w3 ⟨so, sc, rfl, hG⟩
      rw [hadd] at hG
      rw [hadd]
      replace hX := hX.later hG.below
      have hb3 := hb.trans (hG.below.mono hb.size)
      have hnew : ∀ d, so = some d → w.heap.size < d.block := fun d hd => by have := hG.new d hd; omega
      obtain ⟨w4, hw4, hT, hq⟩ := new_var w3 40 (stC st0 none 0) (stC (stOf 1 (kD (n + 1))) so sc)
      have hsl := hG.sl.later hq
      replace hX := hX.later hq
      replace hb3 := hb3.trans (hq.mono hb3.size)
      have hX5 := hX.row (stC (stOf 1 (kD (n + 1))) so sc)
      have hsl5 := hsl.row_other (k := w.heap.size) (fun d hd => by have := hnew d hd; omega) (stC (stOf 1 (kD (n + 1))) so sc)
      have hb5 := below_setRow hb3 (Nat.le_refl _) (stC (stOf 1 (kD (n + 1))) so sc)
      clear hq hG hadd hS8 hap hso heo
      go_wp2_with (first
        | (refine wpList_alloc_has (by rfl) 40 rfl (stC st0 none 0) st_zero ?_)
        | (refine wpList_store_to (by rfl) 40 _ _ rfl w3.heap.size rfl (stC (stOf 1 (kD (n + 1))) so sc) rfl 40 (stC st0 none 0) (st_size _ _ _) (st_same _ _ _ _ _ _) (st_one _ _ _) ?hg w4 ?hW ?_; (case hg => exact Has.new _ _ _); (case hW => exact hw4); clear hw4)
        | (refine wpList_load_has (by rfl) 40 _ rfl w3.heap.size rfl 40 (stC (stOf 1 (kD (n + 1))) so sc) _ Try.underlying40 rfl (st_size _ _ _) ?hg ?_; (case hg => exact hT))
        | (refine wpList_store_has (by rfl) 40 _ _ rfl w.heap.size rfl (stC (stOf 1 (kD (n + 1))) so sc) rfl 40 (stC (stOf 1 (kD n)) ro rc) (st_size _ _ _) (st_same _ _ _ _ _ _) (st_one _ _ _) ?hg ?_; (case hg => exact hX)))
      go_roundw
      case rel => exact ⟨n + 1, so, sc, by omega, by go_num, hX5, hsl5, hnew, hb5⟩
      case measure => simp [intOf]; omega
    · have e5 : n = 7 := by omega
      subst e5
      have hso := kS_ok 7 (by decide)
      have hbad := kS_bad
      have hhead := kS_head
      have his := kS_is
      have hdata := kS_data
      have hlen := kS_len
      have htail := kS_tail
      clear hlt hn
      generalize stOf 1 (kD 7) = S at *
      have hbo : EntOk ⟨1, 9, kB⟩ := ⟨by show 1 < _; decide, by show 9 < _; decide, kB_ok⟩
      rw [show (((7 : Nat) + 1 : Nat) : Int) = 8 from rfl]
      go_wp2_with (first
        | (refine wpList_load_has (by rfl) 40 _ rfl w.heap.size rfl 40 (stC S ro rc) _ Try.underlying40 rfl (st_size _ _ _) ?hg ?_; (case hg => exact hX))
        | (refine wpList_build_three' (by rfl) 35 0 1 2 _ _ _ rfl (.int .u8 1) (.int .u32 9) (.int .u8 4) rfl rfl rfl (opC kB) kB_built ?_)
        | (refine wpList_build_three' (by rfl) 37 0 1 2 _ _ _ rfl (.int .u32 1) (.int .u32 9) (.agg (opC kB)) rfl rfl rfl (entC ⟨1, 9, kB⟩) kF_built ?_))
      refine (add_any S ro rc ⟨1, 9, kB⟩ _ hso hbo hS8).mono ?_
      rintro en w3 ⟨so, sc, rfl, hG⟩
      rw [hbad]
      replace hX := hX.later hG.below
      replace hS8 := hS8.later hG.below
      replace hb := hb.trans (hG.below.mono hb.size)
      obtain ⟨w4, hw4, hT, hq⟩ := new_var w3 40 (stC st0 none 0) (stC st0 so sc)
      replace hX := hX.later hq
      replace hS8 := hS8.later hq
      replace hb := hb.trans (hq.mono hb.size)
      clear hq hG hbad hbo
      go_wp2_with (first
        | (refine wpList_alloc_has (by rfl) 40 rfl (stC st0 none 0) st_zero ?_)
        | (refine wpList_store_to (by rfl) 40 _ _ rfl w3.heap.size rfl (stC st0 so sc) rfl 40 (stC st0 none 0) (st_size _ _ _) (st_same _ _ _ _ _ _) (st_one _ _ _) ?hg w4 ?hW ?_; (case hg => exact Has.new _ _ _); (case hW => exact hw4); clear hw4)
        | (refine wpList_load_has (by rfl) 40 _ rfl w.heap.size rfl 40 (stC S ro rc) _ Try.underlying40 rfl (st_size _ _ _) ?hg ?_; (case hg => exact hX)))
      refine (head_any S ro rc _ hso hS8).mono ?_
      rintro en w5 ⟨rfl, hq⟩
      rw [hhead]
      replace hX := hX.later hq
      replace hS8 := hS8.later hq
      replace hb := hb.trans (hq.mono hb.size)
      have hl := hX.st_log
      have ht := hX.st_tail_n
      rw [hlen] at hl
      rw [htail] at ht
      clear hq hT hhead
      go_wp2_with (first
        | (refine wpList_load_has (by rfl) 40 _ rfl w.heap.size rfl 40 (stC S ro rc) _ Try.underlying40 rfl (st_size _ _ _) ?hg ?_; (case hg => exact hX)))
      refine (is_any S ro rc _ hso hS8).mono ?_
      rintro en w6 ⟨rfl, hq⟩
      rw [his]
      replace hX := hX.later hq
      replace hS8 := hS8.later hq
      replace hb := hb.trans (hq.mono hb.size)
      clear hq hl ht
      go_wp2_with (first
        | (refine wpList_load_has (by rfl) 40 _ rfl w.heap.size rfl 40 (stC S ro rc) _ Try.underlying40 rfl (st_size _ _ _) ?hg ?_; (case hg => exact hX)))
      refine (fold_any S ro rc _ hso hS8).mono ?_
      rintro en w7 ⟨rfl, hq⟩
      replace hb := hb.trans (hq.mono hb.size)
      clear hq hX hS8
      generalize foldM S = B at *
      have hext := objs_at_n B.obj 0
      have hst : strV (B.obj 0).data = .string (ByteArray.mk #[97]) := by rw [hdata]; rfl
      go_wp2_with (first
        | (refine wpList_val (.agg (objsL B.obj).toArray) (by rfl) (base_objs _ rfl B rfl) ?_)
        | (refine wpList_index_row (by rfl) 26 _ _ rfl 0 (objsL B.obj).toArray rfl rfl 25 6 5 _ Try.underlying26 (by decide) Try.underlying25 rfl obj_size5 ?_; rw [show (objsL B.obj).toArray.extract (0 * 5) (0 * 5 + 5) = objC (B.obj 0) from hext])
        | (refine wpList_val (.string (ByteArray.mk #[97])) (by rfl) (hst ▸ obj_data _ rfl (B.obj 0) rfl) ?_))
      go_ret
      exact ⟨rfl, hb⟩
end Go.Proofs.Ytphlfepgaghhhaa
