/- The contract of paddocklaw5.alike: a history of the program's and one of the document's of the same increments are alike. -/
import Derived.Test.YtmfgmdglpeadbaaRefAdd
import Derived.Test.YtmfgmdglpeadbaaRefIv
import Derived.Test.YtmfgmdglpeadbaaIvSame
namespace Go.Proofs.Ytmfgmdglpeadbaa
set_option linter.unusedSimpArgs false
set_option linter.unusedVariables false
set_option maxRecDepth 100000
open Go.RowKit

theorem neq_map_same (a : MapV) (ha : MapOk a) (w : World) : (binOp .neq 44 (.agg (mapC a)) (.agg (mapC a))).run Try.prog w = .ok (.bool false) w := by
  have h := eq_map_same a ha w
  rw [run_eql_struct] at h
  rw [run_neq_struct]
  cases hr : (Op.equalIn 10000 44 (.agg (mapC a)) (.agg (mapC a))).run Try.prog w with
  | ok r w' =>
    rw [hr] at h
    have hh : r = true ∧ w' = w := by simpa [Result.andThen] using h
    obtain ⟨rfl, rfl⟩ := hh
    rfl
  | halt x w' =>
    rw [hr] at h
    simp [Result.andThen] at h

theorem neq_inc_same (a : IncV) (ha : IncOk a) (w : World) : (binOp .neq 32 (.agg (incC a)) (.agg (incC a))).run Try.prog w = .ok (.bool false) w := by
  have h := eq_inc a a ha ha w
  have hs : sameInc a a = true := by rw [sameInc_is]
  rw [run_eql_struct, hs] at h
  rw [run_neq_struct]
  cases hr : (Op.equalIn 10000 32 (.agg (incC a)) (.agg (incC a))).run Try.prog w with
  | ok r w' =>
    rw [hr] at h
    have hh : r = true ∧ w' = w := by simpa [Result.andThen] using h
    obtain ⟨rfl, rfl⟩ := hh
    rfl
  | halt x w' =>
    rw [hr] at h
    simp [Result.andThen] at h

section
variable {ops : Array Oper} {S : World → Prop}
theorem yields_neq_map {o : Oper} {a : Act} (m : MapV) (hm : MapOk m) (hw : Region.wanted o (yielded ops a.tmps) = true) (x y : Operand) (ty' : TypeId) (ho : o.op = .binOp .neq 44 x y ty') (hx : a.eval x = .agg (mapC m)) (hy : a.eval y = .agg (mapC m)) :
    YieldsIf Try.prog ops S o (.bool false) a :=
  yields_bin_agg hw .neq 44 ty' x y ho _ _ hx hy _ guard_map (neq_map_same m hm)
theorem yields_neq_inc {o : Oper} {a : Act} (m : IncV) (hm : IncOk m) (hw : Region.wanted o (yielded ops a.tmps) = true) (x y : Operand) (ty' : TypeId) (ho : o.op = .binOp .neq 32 x y ty') (hx : a.eval x = .agg (incC m)) (hy : a.eval y = .agg (incC m)) :
    YieldsIf Try.prog ops S o (.bool false) a :=
  yields_bin_agg hw .neq 32 ty' x y ho _ _ hx hy _ guard_inc (neq_inc_same m hm)
end

theorem fld_acting (s : Int) (bo : Option Addr) (n d : Nat) (W : World) : (Instr.field 55 (.agg #[.int .u32 s, .slice bo n d]) 1).run Try.prog W = .ok (.slice bo n d) W := by kernel_rfl
theorem fld_since (s : Int) (bo : Option Addr) (n d : Nat) (W : World) : (Instr.field 55 (.agg #[.int .u32 s, .slice bo n d]) 0).run Try.prog W = .ok (.int .u32 s) W := by kernel_rfl

set_option maxHeartbeats 8000000 in
theorem alike_any {Is : World → Nat → List IncV → (Nat → Prop) → Prop} (S : HistSpec Is) {p r : Nat} {xs : List IncV} {F G : Nat → Prop} (g : Nat) (w : World) (hH : Is w p xs F) (hR : IsR w r xs G) (hg : g < 256) :
    Calls Try.prog 14 #[ptr p, ptr r, .int .u8 g] w fun e w' => e = .returned (.bool true) ∧ Below w.heap.size w w' := by
  have hpt : ptr p = .pointer (some ⟨p, 0, none⟩) := rfl
  have hrt : ptr r = .pointer (some ⟨r, 0, none⟩) := rfl
  obtain ⟨hgood, lo, lc, hP, hS⟩ := isR_get hR
  have hl := lenH hgood
  obtain ⟨m, hm⟩ : ∃ m, m = xs.length + 1 := ⟨_, rfl⟩
  have hlast := fun W (hW : Is W p xs F) => S.last hW
  have hrlast := fun W (hW : Has W r 30 #[.slice lo xs.length lc]) => rlast_any r lo lc xs W hW (by omega)
  have hrmap := fun W (hW : Has W r 30 #[.slice lo xs.length lc]) (hS : Sl W lo lc 3 (incR xs)) => rmap_any r lo lc xs m W hW hS hgood (by omega)
  have hmap := fun W (hW : Is W p xs F) => S.map m hW (by omega)
  rw [mapE_yes (by omega), show m - 1 = xs.length by omega, hpt] at hmap
  rw [← hm, hpt] at hlast
  rw [← hm, hrt] at hrlast
  rw [show min (m - 1) xs.length = xs.length by omega, hrt] at hrmap
  have hokm := okH hgood xs.length (Nat.le_refl _)
  have hm60 : m ≤ 60 := by omega
  have hmI : (m : Int) ≤ 60 := by omega
  have hmm : ((m : Int) == (m : Int)) = true := by simp
  clear hm
  rw [hpt, hrt]
  go_enter Try.func14, Try.ntmps14
  go_wp2_with fail
  refine (hlast _ hH).mono ?_
  rintro e w1 ⟨rfl, hb⟩
  go_wp2_with fail
  refine (hrlast _ (hP.later hb)).mono ?_
  rintro e w1' ⟨rfl, rfl⟩
  go_wp2_with fail
  refine (hrlast _ (hP.later hb)).mono ?_
  rintro e w1'' ⟨rfl, rfl⟩
  go_wp2_with fail
  refine (hmap _ (S.later hH hb)).mono ?_
  rintro e w2 ⟨rfl, hq⟩
  replace hb := hb.trans (hq.mono hb.size)
  have hM := (Has.new w2 44 (mapC zeroM)).row (mapC (mapH xs xs.length))
  have hbb := below_setRow ((Below.refl w2.heap.size w2).alloc (Nat.le_refl _) (.cells (mapC zeroM) 44)) (Nat.le_refl _) (mapC (mapH xs xs.length))
  replace hb := hb.trans (hbb.mono hb.size)
  clear hq hbb
  go_wp2_with (first
    | (refine alloc_map (by rfl) rfl ?_)
    | (refine store_map (mapH xs xs.length) zeroM (by rfl) _ _ rfl _ rfl rfl ?hg ?_; (case hg => exact Has.new _ _ _); generalize (w2.alloc (.cells (mapC zeroM) 44)).setRow w2.heap.size (mapC (mapH xs xs.length)) = w3 at *; generalize w2.heap.size = gm at *))
  have hbd := hb.drew
  refine wp_region_plan (fun W => Below w.heap.size w W ∧ Has W gm 44 (mapC (mapH xs xs.length))) (Plan.of [(0, true), (1, true), (2, true), (3, true), (4, true), (5, true), (6, false), (7, false), (8, true), (9, true)] .done) (by kernel_rfl) (by kernel_rfl) (by kernel_rfl) (by kernel_rfl) ⟨hbd, hM.drew⟩ ?_
  iterate 3
    first
      | (refine plan_pass _ rfl (by rfl) ?_)
      | (refine plan_take _ _ rfl (.inl ⟨by rfl, fun W hS => by clear hS; go_simp; try with_reducible rfl⟩) ?_)
    try simp only [Act.put, List.setIfInBounds_toArray, List.set_cons_zero, List.set_cons_succ]
  refine plan_take _ _ rfl (yields_map _ (by rfl) _ rfl gm rfl (fun _ h => h.2)) ?_
  try simp only [Act.put, List.setIfInBounds_toArray, List.set_cons_zero, List.set_cons_succ]
  iterate 2
    first
      | (refine plan_pass _ rfl (by rfl) ?_)
      | (refine plan_take _ _ rfl (.inl ⟨by rfl, fun W hS => by clear hS; go_simp; try with_reducible rfl⟩) ?_)
    try simp only [Act.put, List.setIfInBounds_toArray, List.set_cons_zero, List.set_cons_succ]
  refine plan_run _ rfl (fun K hK => ?_)
  go_simp
  refine (hrlast _ (hP.later hbd)).mono ?_
  rintro e wq ⟨rfl, rfl⟩
  refine hK.out _ _ ⟨hbd, hM.drew⟩ ?_
  clear hK K
  refine plan_run _ rfl (fun K hK => ?_)
  go_simp
  refine (hrmap _ (hP.later hbd) (hS.later hbd)).mono ?_
  rintro e w4 ⟨rfl, hq⟩
  replace hb := hbd.trans (hq.mono hb.size)
  replace hM := hM.drew.later hq
  refine hK.out _ _ ⟨hb, hM⟩ ?_
  clear hK K hq hbd
  refine plan_take _ _ rfl (yields_neq_map _ hokm (by rfl) _ _ _ rfl rfl rfl) ?_
  try simp only [Act.put, List.setIfInBounds_toArray, List.set_cons_zero, List.set_cons_succ]
  iterate 1
    first
      | (refine plan_pass _ rfl (by rfl) ?_)
      | (refine plan_take _ _ rfl (.inl ⟨by rfl, fun W hS => by clear hS; go_simp; try with_reducible rfl⟩) ?_)
    try simp only [Act.put, List.setIfInBounds_toArray, List.set_cons_zero, List.set_cons_succ]
  refine plan_done ?_
  go_wp2
  clear hM hlast hrlast hrmap hmap
  go_loopw [9] (fun i wr => ∃ q : Nat, q ≤ 4 ∧ i = .int .u8 q ∧ Below w.heap.size w wr) (fun i _ => 4 - (intOf i).toNat)
  case atStart => exact ⟨0, by omega, rfl, hb⟩
  case round =>
    clear hb
    obtain ⟨q, hq4, rfl, hb⟩ := hrel
    by_cases hlt : q < 4
    · have hqI : (q : Int) < 4 := by omega
      have hint := fun W (hW : Is W p xs F) => S.intervals q hW (by omega)
      have hrint := fun W (hW : Has W r 30 #[.slice lo xs.length lc]) (hS : Sl W lo lc 3 (incR xs)) => rint_any r lo lc xs q W hW hS hgood (by omega)
      have hact := fun W (hW : Is W p xs F) => S.acting q hW (by omega)
      have hrnow := fun W (hW : Has W r 30 #[.slice lo xs.length lc]) (hS : Sl W lo lc 3 (incR xs)) => rnow_any r lo lc xs q W hW hS hgood (by omega)
      have hsin := fun W (hW : Is W p xs F) => S.since q hW (by omega)
      rw [hpt] at hint hact hsin
      rw [hrt] at hrint hrnow
      have hf1 := fld_acting
      have hf0 := fld_since
      generalize ivals xs q = L at *
      generalize nowH xs q = A at *
      generalize sinceH xs q = s at *
      go_wp2_with fail
      refine (hint _ (S.later hH hb)).mono ?_
      rintro e w5 ⟨ao, c, rfl, hV, hq⟩
      replace hb := hb.trans (hq.mono hb.size)
      clear hq
      go_wp2_with fail
      refine (hrint _ (hP.later hb) (hS.later hb)).mono ?_
      rintro e w6 ⟨bo, d, rfl, hV2, hq⟩
      replace hb := hb.trans (hq.mono hb.size)
      replace hV := hV.later hq
      clear hq
      go_wp2_with fail
      refine (ivs_same ao bo c d L _ hV hV2).mono ?_
      rintro e w7 ⟨rfl, nn, hw7⟩
      replace hb : Below w.heap.size w w7 := hw7 ▸ ⟨hb.os, hb.tape, hb.output, hb.size, hb.block⟩
      clear hw7 hV hV2
      go_wp2_with fail
      refine (hact _ (S.later hH hb)).mono ?_
      rintro e w8 ⟨ao1, c1, rfl, hA, hq, _⟩
      replace hb := hb.trans (hq.mono hb.size)
      clear hq
      go_wp2_with fail
      refine (hrnow _ (hP.later hb) (hS.later hb)).mono ?_
      rintro e w9 ⟨bo1, d1, rfl, hA2, hq⟩
      replace hb := hb.trans (hq.mono hb.size)
      replace hA := hA.later hq
      clear hq
      go_wp2_with fail
      refine (ints_any ao1 bo1 c1 d1 A A _ hA hA2).mono ?_
      rintro e w10 ⟨rfl, nn2, hw10⟩
      replace hb : Below w.heap.size w w10 := hw10 ▸ ⟨hb.os, hb.tape, hb.output, hb.size, hb.block⟩
      clear hw10 hA hA2
      rw [decide_eq_true rfl]
      go_wp2_with fail
      refine (hsin _ (S.later hH hb)).mono ?_
      rintro e w11 ⟨rfl, hq⟩
      replace hb := hb.trans (hq.mono hb.size)
      clear hq
      go_wp2_with fail
      refine (hrnow _ (hP.later hb) (hS.later hb)).mono ?_
      rintro e w12 ⟨bo2, d2, rfl, _, hq⟩
      replace hb := hb.trans (hq.mono hb.size)
      clear hq
      clear hint hrint hact hrnow hsin
      go_wp2
      go_roundw
      case rel => exact ⟨q + 1, by omega, by go_num, hb⟩
      case measure => simp [intOf]; omega
    · have e4 : q = 4 := by omega
      subst e4
      by_cases hg4 : g < 4
      · have hgI : (g : Int) < 4 := by omega
        go_wp2
        go_ret
        exact ⟨rfl, hb⟩
      · have hgI : (4 : Int) ≤ (g : Int) := by omega
        have hint := fun W (hW : Is W p xs F) => S.intervals g hW hg
        have hact := fun W (hW : Is W p xs F) => S.acting g hW hg
        have hsin := fun W (hW : Is W p xs F) => S.since g hW hg
        have hno : ivals xs g = [] := if_neg hg4
        have hnw : nowH xs g = [] := if_neg hg4
        rw [hpt, hno] at hint
        rw [hpt, hnw] at hact
        rw [hpt, since_none xs hg4] at hsin
        clear hno hnw hg4
        go_wp2_with fail
        refine (hint _ (S.later hH hb)).mono ?_
        rintro e w5 ⟨ao, c, rfl, _, hq⟩
        replace hb := hb.trans (hq.mono hb.size)
        clear hq
        go_wp2_with fail
        refine (hact _ (S.later hH hb)).mono ?_
        rintro e w8 ⟨ao1, c1, rfl, _, hq, _⟩
        replace hb := hb.trans (hq.mono hb.size)
        clear hq
        go_wp2_with fail
        refine (hsin _ (S.later hH hb)).mono ?_
        rintro e w11 ⟨rfl, hq⟩
        replace hb := hb.trans (hq.mono hb.size)
        clear hq
        go_wp2
        go_ret
        exact ⟨rfl, hb⟩
end Go.Proofs.Ytmfgmdglpeadbaa
