/- JnlRec, JnlCaught, joined. -/
import Derived.Test.YtpnpjblohijajabGreatGrp21
import Derived.Deep.RegionWith
import Derived.DeepKeys
import Derived.Laws.StructEq
import Derived.Test.YtpnpjblohijajabGreatGrp8
import Derived.Recover
namespace Go.Proofs.YtpnpjblohijajabGreat
section
set_option linter.unusedSimpArgs false
set_option linter.unusedVariables false
set_option maxRecDepth 100000
open Go.RowKit Go.MapKept

theorem hd_built2 (a b : Nat) : Tryz.prog.built 73 [(0, .int .u64 (a : Int)), (1, .int .i64 (b : Int))] = some (hdC ⟨a, b, 0, 0⟩) := by kernel_rfl
section
variable {ops : Array Oper} {Q : Exit → Act → World → Prop} {S : World → Prop} {i : Nat} {p : Plan} {a : Act} {w : World}
theorem plan_nowJ (o : Oper) (v : Value) (ho : nth ops.toList i = some o) (hw : Region.wanted o (yielded ops a.tmps) = true)
    (hy : YieldsIf Tryz.prog ops (fun W => W = w) o v a) (hS : S w) (h : wpPlan Tryz.prog ops Q S p (a.put o.dst v) w) : wpPlan Tryz.prog ops Q S (Plan.run i p) a w := by
  refine plan_run o ho fun K hK => ?_
  rw [if_pos hw]
  obtain ⟨_, f⟩ | ⟨f, _⟩ := hy
  · unfold Oper.wp
    rw [f w rfl]
    exact hK.out _ _ hS h
  · rw [hw] at f; cases f
theorem plan_sliceS (o : Oper) (ho : nth ops.toList i = some o) (hw : Region.wanted o (yielded ops a.tmps) = true) (x : Operand) (hop : o.op = .buildSlice 22 1 #[(0, x)]) (s : List UInt8) (hx : a.eval x = strV s)
    (hS : S (w.alloc (.cells #[strV s] 9))) (h : wpPlan Tryz.prog ops Q S p (a.put o.dst (.slice (some ⟨w.heap.size, 0, none⟩) 1 1)) (w.alloc (.cells #[strV s] 9))) : wpPlan Tryz.prog ops Q S (Plan.run i p) a w := by
  refine plan_run o ho fun K hK => ?_
  rw [if_pos hw]
  have hr := slice_one_s s w
  have hp : (#[(0, x)] : Array (Nat × Operand)).map (fun (i, x) => (i, a.eval x)) = #[(0, strV s)] := by simp [hx]
  have e : (execOp a.eval o).run Tryz.prog w = .ok (.value (.slice (some ⟨w.heap.size, 0, none⟩) 1 1)) (w.alloc (.cells #[strV s] 9)) := by
    unfold execOp
    simp only [hop]
    simp only [hp, Sem.run_bind, hr, Result.andThen_ok, Sem.run_pure]
  unfold Oper.wp
  rw [e]
  exact hK.out _ _ hS h
theorem plan_appS (o : Oper) (ho : nth ops.toList i = some o) (hw : Region.wanted o (yielded ops a.tmps) = true) (s x : Operand)
    (hop : o.op = Op.call { callee := Callee.builtin Builtin.append, args := #[s, x], argTypes := #[22, 22] })
    (base : Nat) (v : Value) (n : Nat) (l : List (List UInt8)) (hs : a.eval s = v) (ad : Addr) (k c : Nat) (m : List (List UInt8)) (hx : a.eval x = .slice (some ad) k c) (hv : w.ownsRow base 9 1 v n (SsV l)) (h : Strs w (some ad) c m) (hk : k = m.length) (hl : n + k ≤ 1000000000) (hbase : base ≤ w.heap.size)
    (hK : ∀ ao' c' w', w'.ownsRow base 9 1 (.slice ao' (n + k) c') (n + k) (SsV (l ++ m)) → w.grownBy w' v.ownBlock → S w' ∧ wpPlan Tryz.prog ops Q S p (a.put o.dst (.slice ao' (n + k) c')) w') : wpPlan Tryz.prog ops Q S (Plan.run i p) a w := by
  refine plan_run o ho fun K hK' => ?_
  rw [if_pos hw]
  obtain ⟨v', w', hr, hown, hgr⟩ := run_appS w o.type base v n l hv ad k c m h hk hl hbase
  obtain ⟨_, ao', c', rfl, _, _⟩ := strs_own hown
  obtain ⟨h1, h2⟩ := hK ao' c' w' hown hgr
  unfold Oper.wp
  simp [execOp, hop, resolve, invoke, builtin, hs, hx, hr, Result.andThen]
  exact hK'.out _ _ h1 h2
end
theorem co_hd : Tryz.prog.cellsOf 73 = 4 := by kernel_rfl
theorem key_hd : Tryz.prog.keyTypeAt 8 73 = true := by kernel_rfl
theorem eq_self_in (t : TypeId) (c : Array Value) (hk : Tryz.prog.keyTypeAt 8 t = true) (hf : (Value.agg c).formed Tryz.prog t = true) (hl : ∃ K, Tryz.prog.keyLits 8 t c.toList = some K) (w : World) : (Op.equalIn 10000 t (.agg c) (.agg c)).run Tryz.prog w = .ok true w := by
  obtain ⟨K, e⟩ := hl
  obtain ⟨r, hr, hiff⟩ := run_equalIn_deep 9992 8 t hk w 8 8 (.agg c) (.agg c) K K hf hf e e
  rw [hiff.2 rfl] at hr
  exact hr
theorem eq_self (t : TypeId) (c : Array Value) (hk : Tryz.prog.keyTypeAt 8 t = true) (hf : (Value.agg c).formed Tryz.prog t = true) (hl : ∃ K, Tryz.prog.keyLits 8 t c.toList = some K) (w : World) : (binOp .eql t (.agg c) (.agg c)).run Tryz.prog w = .ok (.bool true) w := by
  rw [run_eql_struct, eq_self_in t c hk hf hl w]
  rfl
theorem wf_u64 {n : Nat} (h : n < 18446744073709551616) : (Lit.int .u64 n).wf = true := by
  simp [Lit.wf, IntKind.min, IntKind.max, IntKind.signed, IntKind.bits]; omega
theorem wf_i64 {n : Nat} (h : n < 9223372036854775808) : (Lit.int .i64 n).wf = true := by
  simp [Lit.wf, IntKind.min, IntKind.max, IntKind.signed, IntKind.bits]; omega
theorem co_u64 : Tryz.prog.cellsOf 71 = 1 := by kernel_rfl
theorem co_int : Tryz.prog.cellsOf 3 = 1 := by kernel_rfl
theorem hd_lits (h : HdV) (ok : HdOk h) : ∃ K, Tryz.prog.keyLits 8 73 (hdC h).toList = some K := by
  have w0 := wf_u64 ok.num
  have w1 : (Lit.int .i64 (h.half : Int)).wf = true := wf_i64 (by have := ok.half; omega)
  have w2 : (Lit.int .i64 (h.len : Int)).wf = true := wf_i64 (by have := ok.len; omega)
  have w3 := wf_u64 ok.sum
  have e0 : Tryz.prog.keyLits 7 71 [.int .u64 (h.num : Int)] = some [.int .u64 (h.num : Int)] := by
    unfold Program.keyLits
    rw [Tryz.underlying71]
    simp [w0]
  have e1 : Tryz.prog.keyLits 7 3 [.int .i64 (h.half : Int)] = some [.int .i64 (h.half : Int)] := by
    unfold Program.keyLits
    rw [Tryz.underlying3]
    simp [w1]
  have e2 : Tryz.prog.keyLits 7 3 [.int .i64 (h.len : Int)] = some [.int .i64 (h.len : Int)] := by
    unfold Program.keyLits
    rw [Tryz.underlying3]
    simp [w2]
  have e3 : Tryz.prog.keyLits 7 71 [.int .u64 (h.sum : Int)] = some [.int .u64 (h.sum : Int)] := by
    unfold Program.keyLits
    rw [Tryz.underlying71]
    simp [w3]
  unfold Program.keyLits
  rw [Tryz.underlying73]
  simp [hdC, co_u64, co_int, e0, e1, e2, e3]
  exact co_hd.symm
theorem eq_hd (h : HdV) (ok : HdOk h) (w : World) : (binOp .eql 73 (.agg (hdC h)) (.agg (hdC h))).run Tryz.prog w = .ok (.bool true) w :=
  eq_self 73 (hdC h) key_hd (by simp [Value.formed, Tryz.underlying73, co_hd]; rfl) (hd_lits h ok) w
theorem guard_hd : Tryz.prog.eqGuardType Tryz.prog.depth 73 = false := by kernel_rfl
theorem sheet_two : ∀ l : List (List UInt8), 2 * l.length ≤ (sheetB l).length
  | [] => Nat.le_refl _
  | s :: l => by
    have := sheet_two l
    rw [sheetB_cons, List.length_append, recB_length, List.length_cons]
    omega
theorem sheet_le2 (l : List (List UInt8)) (k : Nat) : (sheetB (l.drop k)).length ≤ (sheetB l).length := by
  have : sheetB l = sheetB (l.take k) ++ sheetB (l.drop k) := by rw [← sheetB_app, List.take_append_drop]
  rw [this, List.length_append]
  omega
theorem Has.keepB {w w' : World} {g n : Nat} {t : TypeId} {c : Array Value} (h : Has w g t c) (hb : Below n w w') (hg : g < n) : Has w' g t c := by
  unfold Has at *
  rw [hb.block g hg]
  exact h
def lenV : Value → Nat
  | .slice _ n _ => n
  | _ => 0
theorem own_mono {w : World} {base base' n k : Nat} {e : TypeId} {v : Value} {xs : List Value} (h : w.ownsRow base e k v n xs) (hb : base' ≤ base) : w.ownsRow base' e k v n xs :=
  ⟨h.1, h.2.imp id fun ⟨g, cap, cur, hv, hg, hr⟩ => ⟨g, cap, cur, hv, Nat.le_trans hb hg, hr⟩⟩
theorem own_but {w w' : World} {base n g : Nat} {e : TypeId} {k : Nat} {v : Value} {xs : List Value} (h : w.ownsRow base e k v n xs) (hq : But g w w') (hg : g < base) : w'.ownsRow base e k v n xs := by
  obtain ⟨h1, h2⟩ := h
  refine ⟨h1, h2.imp id ?_⟩
  rintro ⟨b, cap, cur, hv, hb, hc, hr⟩
  refine ⟨b, cap, cur, hv, hb, ?_, hr⟩
  rw [hq.block b (Array.getElem?_eq_some_iff.1 hc).1 (by omega)]
  exact hc
set_option maxHeartbeats 8000000 in
theorem recordsOf_good (p kb mb n : Nat) (d : DskV) (h : HdV) (l : List (List UInt8)) (w : World) (hD : DiskAt w p kb mb n d) (ho : d.off = false) (hn : 8 ≤ n) (hok : HdOk h) (hh : h.half ≤ 1) (hlen : h.len = (sheetB l).length) (hsum : h.sum = sumM 0 l)
    (hlim : h.len ≤ limitM n) (hrec : ∀ r ∈ l, r.length ≤ 20000) (hbody : bodyM d (firstM n h.half) h.len = sheetB l) :
    Calls Tryz.prog 50 #[.pointer (some ⟨p, 0, none⟩), .agg (hdC h)] w fun e w' => ∃ bo bc, e = .returned (.slice bo l.length bc) ∧ w'.ownsRow w.heap.size 9 1 (.slice bo l.length bc) l.length (SsV l) ∧ Below w.heap.size w w' := by
  have hn1 := hD.n1
  have hfit := (first_in hn hh hlim).2
  obtain ⟨w1, hw1, hX, hb1⟩ := one_var w 73 (hdC h)
  have s1 : Hid (w1.heap.size = w.heap.size + 1) := by show _ = _; rw [← hw1]; simp
  have hD1 := (hD.later hb1).drew
  have c1 := hX.hd_half
  have c2 := hX.hd_len
  have hli := limit_any p kb mb n d w1.drew hD1 hn
  have hli2 : limitM n ≤ 1000000 := by unfold limitM; omega
  obtain ⟨M, hM⟩ : ∃ M, limitM n = M := ⟨_, rfl⟩
  rw [hM] at hli hlim hli2
  obtain ⟨L, hL⟩ : ∃ L, h.len = L := ⟨_, rfl⟩
  rw [hL] at hlim c2
  obtain ⟨H, hH⟩ : ∃ H, h.half = H := ⟨_, rfl⟩
  rw [hH] at hh c1
  replace hli : Hid _ := hli
  replace hL : Hid _ := hL
  replace hH : Hid _ := hH
  replace hfit : Hid _ := hfit
  replace hlen : Hid _ := hlen
  replace hsum : Hid _ := hsum
  replace hbody : Hid _ := hbody
  have dH : decide ((H : Int) ≤ 1) = true := decide_eq_true (by omega)
  have dL : decide ((L : Int) ≤ (M : Int)) = true := decide_eq_true (by omega)
  clear hM
  go_enter Tryz.func50, Tryz.ntmps50
  go_wp2_with (first
    | (refine Go.Great.wpList_boxTo rfl 73 _ rfl _ rfl w.heap.size rfl (hdC h) rfl ?_; rw [hw1]; clear hw1)
    | fail)
  refine wp_region_plan (fun W => W = w1.drew) (Plan.of [(0, true), (1, true), (2, true), (3, true), (4, true), (5, true), (6, true), (7, false), (8, true), (9, true), (10, false)] .done) (by kernel_rfl) (by kernel_rfl) (by kernel_rfl) (by kernel_rfl) rfl ?_
  iterate 7
    first
      | (refine plan_pass _ rfl (by rfl) ?_)
      | (refine plan_take _ _ rfl (.inl ⟨by rfl, fun W hS => by obtain rfl := hS; go_simp; try with_reducible rfl⟩) ?_)
    try simp only [Act.put, List.setIfInBounds_toArray, List.set_cons_zero, List.set_cons_succ]
  refine plan_run _ rfl (fun K hK => ?_)
  go_simp
  refine Calls.mono hli.out ?_
  rintro e w2 ⟨rfl, rfl⟩
  refine hK.out _ _ rfl ?_
  clear hK K hli
  iterate 2
    first
      | (refine plan_pass _ rfl (by rfl) ?_)
      | (refine plan_take _ _ rfl (.inl ⟨by rfl, fun W hS => by obtain rfl := hS; go_simp; try with_reducible rfl⟩) ?_)
    try simp only [Act.put, List.setIfInBounds_toArray, List.set_cons_zero, List.set_cons_succ]
  refine plan_run _ rfl (fun K hK => ?_)
  go_simp
  refine (must_yes 10 _).mono ?_
  rintro e w2 ⟨rfl, rfl⟩
  refine hK.out _ _ rfl ?_
  clear hK K
  refine plan_done ?_
  have hX1 : Has w1.drew w.heap.size 73 (hdC h) := hX.drew
  have hb1' : Below w.heap.size w w1.drew := hb1.drew
  have s1' : Hid (w1.drew.heap.size = w.heap.size + 1) := s1
  have c0 := hX1.hd_num
  have c1' := hX1.hd_half
  rw [hH.out] at c1'
  obtain ⟨wd, hwd⟩ : ∃ W, w1.drew = W := ⟨_, rfl⟩
  rw [hwd] at hX1 hb1' s1' c0 c1' hD1 ⊢
  obtain ⟨w2, hw2, hT, hq2⟩ := new_var wd 73 (hdC hd0) (hdC ⟨h.num, H, 0, 0⟩)
  have hX2 := hX1.later hq2
  have hD2 := hD1.later hq2
  have hb2 := hb1'.trans (hq2.mono hb1'.size)
  have hbo := bytesOf_any p kb mb n d h w2 hD2 ho hn (by rw [hH.out]; exact hh) (by have := hfit.out; omega)
  rw [hbody.out] at hbo
  replace hbo : Hid _ := hbo
  clear hX hb1 s1 hwd hX1 hb1' hD hD1 hD2 hq2 c1 c2 w1
  go_wp2_with (first
    | (refine wpList_build_has (by rfl) 73 #[(0, _), (1, _)] rfl (hdC ⟨h.num, H, 0, 0⟩) (by simpa using hd_built2 h.num H) ?_)
    | (refine wpList_alloc_has (by rfl) 73 rfl (hdC hd0) hd_zero ?_)
    | (refine wpList_store_to (by rfl) 73 _ _ rfl wd.heap.size rfl (hdC ⟨h.num, H, 0, 0⟩) rfl 73 (hdC hd0) (hd_size _) rfl (hd_one _) ?hg w2 ?hW ?_; (case hg => exact Has.new _ _ _); (case hW => exact hw2); clear hw2)
    | (refine wpList_load_has (by rfl) 73 _ rfl w.heap.size rfl 73 (hdC h) _ Tryz.underlying73 rfl (hd_size _) ?hg ?_; (case hg => exact hX2))
    | fail)
  refine Calls.mono hbo.out ?_
  rintro e w3 ⟨bo, bc, rfl, hB, hq⟩
  clear hbo
  have hT3 := hT.later hq
  have hX3 := hX2.later hq
  have hb3 := hb2.trans (hq.mono hb2.size)
  have hz3 : w2.heap.size ≤ w3.heap.size := hq.size
  have s3 : Hid (wd.heap.size < w2.heap.size) := hT.lt
  rw [hlen.out]
  clear hT hX2 hb2 hq
  go_wp2
  go_loopw [5, 7] (fun u v wr => ∃ k lo lc bo bc, k ≤ l.length ∧ u = .slice lo k lc ∧ v = .slice bo (sheetB (l.drop k)).length bc ∧ wr.ownsRow w2.heap.size 9 1 (.slice lo k lc) k (SsV (l.take k)) ∧ By wr bo bc (sheetB (l.drop k)) ∧ Has wr wd.heap.size 73 (hdC (withAll ⟨h.num, H, 0, 0⟩ (l.take k))) ∧ Has wr w.heap.size 73 (hdC h) ∧ Below w.heap.size w wr ∧ w2.heap.size ≤ wr.heap.size) (fun u _ _ => l.length - lenV u)
  case atStart => exact ⟨0, none, 0, bo, bc, Nat.zero_le _, rfl, by rw [List.drop_zero], own_nilS _ _, by rw [List.drop_zero]; exact hB, hT3, hX3, hb3, hz3⟩
  case round =>
    clear hB hT3 hX3 hb3 hz3
    obtain ⟨k, lo, lc, bo, bc, hk, rfl, rfl, hS, hB, hT, hX, hb, hz⟩ := hrel
    by_cases hkl : k < l.length
    · have hS0 : Hid (wr.ownsRow w2.heap.size 9 1 (.slice lo k lc) k (SsV (l.take k))) := hS
      have hdr : sheetB (l.drop k) = txtB (mkS l[k]) ++ sheetB (l.drop (k + 1)) := by rw [List.drop_eq_getElem_cons hkl, sheetB_cons, txt_rec]
      have hsr := hrec l[k] (List.getElem_mem hkl)
      have hA0 : Hid (l.take (k + 1) = l.take k ++ [l[k]]) := List.take_succ_eq_append_getElem hkl
      have hTn : Hid (withAll ⟨h.num, H, 0, 0⟩ (l.take (k + 1)) = withM (withAll ⟨h.num, H, 0, 0⟩ (l.take k)) l[k]) := by
        show _ = _
        unfold withAll
        rw [hA0.out, List.foldl_append]
        rfl
      have hTl : Hid ((withAll ⟨h.num, H, 0, 0⟩ (l.take k)).len ≤ 1000000000) := by
        show _ ≤ _
        rw [with_all]
        have h1 := sheet_le l k
        have h2 := hlen.out
        have h3 := hL.out
        show 0 + (sheetB (l.take k)).length ≤ 1000000000
        omega
      have hTu : Hid ((withAll ⟨h.num, H, 0, 0⟩ (l.take k)).sum < 18446744073709551616) := by
        show _ < _
        rw [with_all]
        exact sum_lt _ _ (show 0 < 18446744073709551616 by decide)
      have hk9 : k ≤ 1000000 := by
        have h1 := sheet_taken l
        have h2 := hlen.out
        have h3 := hL.out
        have h4 : 2 * l.length ≤ (sheetB l).length := sheet_two l
        omega
      obtain ⟨T, hTT⟩ : ∃ T, withAll ⟨h.num, H, 0, 0⟩ (l.take k) = T := ⟨_, rfl⟩
      rw [hTT] at hT hTn hTl hTu
      have hA : Hid (SsV (l.take (k + 1)) = SsV (l.take k ++ [l[k]])) := by show _ = _; rw [hA0.out]
      obtain ⟨A, hAA⟩ : ∃ A, l.take k = A := ⟨_, rfl⟩
      rw [hAA] at hS hA
      obtain ⟨s, hs⟩ : ∃ s, l[k] = s := ⟨_, rfl⟩
      rw [hs] at hdr hsr hTn hA
      obtain ⟨R, hR'⟩ : ∃ R, sheetB (l.drop (k + 1)) = R := ⟨_, rfl⟩
      have hRr : Hid (sheetB (l.drop (k + 1)) = R) := hR'
      rw [hR'] at hdr
      have hlR : R.length ≤ 1000000 := by
        have h1 := sheet_le2 l (k + 1)
        rw [hR'] at h1
        have h2 := hlen.out
        have h3 := hL.out
        omega
      rw [hdr] at hB ⊢
      rw [List.length_append, txtB_length, mkS_size]
      have hgt := gett_allJ bo bc (s.length + 2 + R.length) (mkS s) R 20000 wr hB (by rw [mkS_size]) (by omega) (by rw [mkS_size]; omega) (by rw [mkS_size]; omega)
      have hcap := hB.cap
      have hle := hB.le
      rw [List.length_append, txtB_length, mkS_size] at hle
      have hsl1 : Hid (s.length ≤ 65535) := by show _ ≤ _; omega
      have hsl : Hid (s.length ≤ 65535) := hsl1
      obtain ⟨sl, hsl0⟩ : ∃ n, s.length = n := ⟨_, rfl⟩
      rw [hsl0] at hgt hle hsl hsr ⊢
      obtain ⟨rl, hrl⟩ : ∃ n, R.length = n := ⟨_, rfl⟩
      rw [hrl] at hgt hle hlR ⊢
      obtain ⟨tl, htl⟩ : ∃ n, sl + 2 + rl = n := ⟨_, rfl⟩
      rw [htl] at hgt hle ⊢
      have hpos : (0 : Int) < (tl : Int) := by omega
      have hR : Hid ((sheetB (l.drop (k + 1))).length = rl) := by show _ = _; rw [hR', hrl]
      replace hgt : Hid _ := hgt
      replace hsl0 : Hid _ := hsl0
      clear hdr hTT hA0 hAA hs hR' hrl htl hB
      go_wp2_with fail
      refine Calls.mono hgt.out ?_
      rintro e v0 ⟨g, c', rfl, hB, ⟨hg, hgl⟩, hq⟩
      clear hgt
      replace hT := (hT.later hq).drew
      replace hX := (hX.later hq).drew
      replace hS := own_keptE (own_keptE hS hq) (show Below v0.heap.size v0 v0.drew from (Below.refl _ _).drew)
      replace hB := hB.later (show Below v0.heap.size v0 v0.drew from (Below.refl _ _).drew)
      replace hb := (hb.trans (hq.mono hb.size)).drew
      have hgw : w2.heap.size ≤ g := Nat.le_trans hz hg
      replace hgs : ∀ q, (Value.slice lo k lc).ownBlock = some q → q < wr.heap.size := fun q hqq => (hS0.out.lt q hqq).2
      replace hz : w2.heap.size ≤ v0.drew.heap.size := Nat.le_trans hz hq.size
      replace hgl : g < v0.drew.heap.size := hgl
      clear hq
      go_wp2_with (first
        | (go_at_call 33; refine (must_yes 10 _).mono ?_; rintro e w9 ⟨rfl, h9⟩; have h9' := h9.symm; clear h9; subst h9')
        | fail)
      refine wp_region_plan (fun _ => True) (Plan.of [(0, true), (1, true), (5, true), (7, true)] (.either 2 (.either 3 (Plan.of [(4, false), (6, false), (8, true), (9, false), (10, true)] .done) 4 (Plan.of [(3, false), (6, false), (8, true), (9, false), (10, true)] .done)) 4 (Plan.of [(2, false), (3, false), (6, false), (8, true), (9, false), (10, true)] .done))) (by kernel_rfl) (by kernel_rfl) (by kernel_rfl) (by kernel_rfl) trivial ?_
      obtain ⟨v1, hv1⟩ : ∃ W, v0.drew = W := ⟨_, rfl⟩
      rw [hv1] at hT hX hS hB hb hz hgl ⊢
      clear hv1
      iterate 4
        first
          | (refine plan_pass _ rfl (by rfl) ?_)
          | (refine plan_take _ _ rfl (.inl ⟨by rfl, fun W hS => by clear hS; go_simp; try with_reducible rfl⟩) ?_)
        try simp only [Act.put, List.setIfInBounds_toArray, List.set_cons_zero, List.set_cons_succ]
      refine plan_either ?_ ?_
      · have hqa : Below v1.heap.size v1 (v1.alloc (.cells #[strV s] 9)) := (Below.refl _ _).alloc (Nat.le_refl _) _
        refine plan_sliceS _ rfl (by rfl) _ rfl s rfl trivial ?_
        try simp only [Act.put, List.setIfInBounds_toArray, List.set_cons_zero, List.set_cons_succ]
        have hN := Strs.new v1 s (0, 0)
        replace hT := hT.later hqa
        replace hX := hX.later hqa
        replace hS := own_keptE hS hqa
        replace hB := hB.later hqa
        replace hb := hb.trans (hqa.mono hb.size)
        replace hz := Nat.le_trans hz hqa.size
        replace hgl := Nat.lt_of_lt_of_le hgl hqa.size
        obtain ⟨vd, hvd⟩ : ∃ W, v1.alloc (.cells #[strV s] 9) = W := ⟨_, rfl⟩
        rw [hvd] at hT hX hS hB hb hz hgl hN ⊢
        clear hvd hqa
        refine plan_either ?_ ?_
        · refine plan_appS _ rfl (by rfl) _ _ rfl w2.heap.size _ k A rfl ⟨v1.heap.size, 0, none⟩ 1 1 [s] rfl hS hN rfl (by omega) hz ?_
          rintro lo' lc' ve hS3 hgr
          refine ⟨trivial, ?_⟩
          try simp only [Act.put, List.setIfInBounds_toArray, List.set_cons_zero, List.set_cons_succ]
          have hq3 : Below w2.heap.size vd ve := (Below.refl _ _).grown hgr hz (fun q hq => (hS.lt q hq).1)
          replace hT := hT.keepB hq3 (by have := s3.out; omega)
          replace hX := hX.keepB hq3 (by have := s3.out; have := s1'.out; omega)
          replace hB := hB.same (b := ve) (fun ad had => by cases had; exact hgr.block g hgl (fun z => Nat.lt_irrefl _ (Nat.lt_of_lt_of_le (hgs g z.symm) hg)))
          replace hb := hb.trans (hq3.mono (by have := s3.out; have := s1'.out; omega))
          replace hz := Nat.le_trans hz hq3.size
          replace hgl := Nat.lt_of_lt_of_le hgl hq3.size
          clear hq3 hgr hN hS
          refine plan_nowJ _ _ rfl (by rfl) (yields_load_has (by rfl) 73 _ rfl wd.heap.size rfl 73 (hdC T) _ Tryz.underlying73 rfl (hd_size _) (fun W e => e ▸ hT)) trivial ?_
          try simp only [Act.put, List.setIfInBounds_toArray, List.set_cons_zero, List.set_cons_succ]
          refine plan_run _ rfl (fun K hK => ?_)
          go_simp
          refine Calls.mono (with_any T s ve hTl.out hsl1.out hTu.out) ?_
          rintro e vf ⟨rfl, hq4⟩
          replace hT := hT.later hq4
          replace hX := hX.later hq4
          replace hS3 := own_keptE hS3 hq4
          replace hB := hB.later hq4
          replace hb := hb.trans (hq4.mono hb.size)
          replace hz := Nat.le_trans hz hq4.size
          replace hgl := Nat.lt_of_lt_of_le hgl hq4.size
          refine hK.out _ _ trivial ?_
          clear hK K hq4
          try simp only [Act.put, List.setIfInBounds_toArray, List.set_cons_zero, List.set_cons_succ]
          iterate 1
            first
              | (refine plan_pass _ rfl (by rfl) ?_)
              | (refine plan_take _ _ rfl (.inl ⟨by rfl, fun W hS => by clear hS; go_simp; try with_reducible rfl⟩) ?_)
            try simp only [Act.put, List.setIfInBounds_toArray, List.set_cons_zero, List.set_cons_succ]
          have hT5 := hT.row (hdC (withM T s))
          have hbt : But wd.heap.size vf (vf.setRow wd.heap.size (hdC (withM T s))) := but_row _ _
          have hX5 := hbt.has hX (by have := s1'.out; omega)
          have hS5 := own_but hS3 hbt s3.out
          have hB5 := hB.same (b := vf.setRow wd.heap.size (hdC (withM T s))) (fun ad had => by cases had; exact hbt.block _ hgl (show g ≠ wd.heap.size by have := s3.out; omega))
          have hb5 := below_setRow hb (show w.heap.size ≤ wd.heap.size by have := s1'.out; omega) (hdC (withM T s))
          have hz5 := Nat.le_trans hz hbt.size
          refine plan_store_has _ rfl (by rfl) 73 _ _ rfl wd.heap.size rfl (hdC (withM T s)) rfl 73 (hdC T) (hd_size _) rfl (hd_one _) hT trivial ?_
          try simp only [Act.put, List.setIfInBounds_toArray, List.set_cons_zero, List.set_cons_succ]
          iterate 1
            first
              | (refine plan_pass _ rfl (by rfl) ?_)
              | (refine plan_take _ _ rfl (.inl ⟨by rfl, fun W hS => by clear hS; go_simp; try with_reducible rfl⟩) ?_)
            try simp only [Act.put, List.setIfInBounds_toArray, List.set_cons_zero, List.set_cons_succ]
          refine plan_done ?_
          clear hT hX hS3 hB hb hz hbt
          obtain ⟨v5, hv5⟩ : ∃ W, vf.setRow wd.heap.size (hdC (withM T s)) = W := ⟨_, rfl⟩
          rw [hv5] at hT5 hX5 hS5 hB5 hb5 hz5 ⊢
          clear hv5
          go_wp2
          go_roundw
          case rel => exact ⟨k + 1, lo', lc', some ⟨g, 0, none⟩, c', by omega, rfl, by rw [hR.out], by rw [hA.out]; exact hS5, by rw [hRr.out]; exact hB5, by rw [hTn.out]; exact hT5, hX5, hb5, hz5⟩
          case measure => simp [lenV]; omega
        · refine plan_nowJ _ _ rfl (by rfl) (yields_load_has (by rfl) 73 _ rfl wd.heap.size rfl 73 (hdC T) _ Tryz.underlying73 rfl (hd_size _) (fun W e => e ▸ hT)) trivial ?_
          try simp only [Act.put, List.setIfInBounds_toArray, List.set_cons_zero, List.set_cons_succ]
          refine plan_appS _ rfl (by rfl) _ _ rfl w2.heap.size _ k A rfl ⟨v1.heap.size, 0, none⟩ 1 1 [s] rfl hS hN rfl (by omega) hz ?_
          rintro lo' lc' ve hS3 hgr
          refine ⟨trivial, ?_⟩
          try simp only [Act.put, List.setIfInBounds_toArray, List.set_cons_zero, List.set_cons_succ]
          have hq3 : Below w2.heap.size vd ve := (Below.refl _ _).grown hgr hz (fun q hq => (hS.lt q hq).1)
          replace hT := hT.keepB hq3 (by have := s3.out; omega)
          replace hX := hX.keepB hq3 (by have := s3.out; have := s1'.out; omega)
          replace hB := hB.same (b := ve) (fun ad had => by cases had; exact hgr.block g hgl (fun z => Nat.lt_irrefl _ (Nat.lt_of_lt_of_le (hgs g z.symm) hg)))
          replace hb := hb.trans (hq3.mono (by have := s3.out; have := s1'.out; omega))
          replace hz := Nat.le_trans hz hq3.size
          replace hgl := Nat.lt_of_lt_of_le hgl hq3.size
          clear hq3 hgr hN hS
          refine plan_run _ rfl (fun K hK => ?_)
          go_simp
          refine Calls.mono (with_any T s ve hTl.out hsl1.out hTu.out) ?_
          rintro e vf ⟨rfl, hq4⟩
          replace hT := hT.later hq4
          replace hX := hX.later hq4
          replace hS3 := own_keptE hS3 hq4
          replace hB := hB.later hq4
          replace hb := hb.trans (hq4.mono hb.size)
          replace hz := Nat.le_trans hz hq4.size
          replace hgl := Nat.lt_of_lt_of_le hgl hq4.size
          refine hK.out _ _ trivial ?_
          clear hK K hq4
          try simp only [Act.put, List.setIfInBounds_toArray, List.set_cons_zero, List.set_cons_succ]
          iterate 1
            first
              | (refine plan_pass _ rfl (by rfl) ?_)
              | (refine plan_take _ _ rfl (.inl ⟨by rfl, fun W hS => by clear hS; go_simp; try with_reducible rfl⟩) ?_)
            try simp only [Act.put, List.setIfInBounds_toArray, List.set_cons_zero, List.set_cons_succ]
          have hT5 := hT.row (hdC (withM T s))
          have hbt : But wd.heap.size vf (vf.setRow wd.heap.size (hdC (withM T s))) := but_row _ _
          have hX5 := hbt.has hX (by have := s1'.out; omega)
          have hS5 := own_but hS3 hbt s3.out
          have hB5 := hB.same (b := vf.setRow wd.heap.size (hdC (withM T s))) (fun ad had => by cases had; exact hbt.block _ hgl (show g ≠ wd.heap.size by have := s3.out; omega))
          have hb5 := below_setRow hb (show w.heap.size ≤ wd.heap.size by have := s1'.out; omega) (hdC (withM T s))
          have hz5 := Nat.le_trans hz hbt.size
          refine plan_store_has _ rfl (by rfl) 73 _ _ rfl wd.heap.size rfl (hdC (withM T s)) rfl 73 (hdC T) (hd_size _) rfl (hd_one _) hT trivial ?_
          try simp only [Act.put, List.setIfInBounds_toArray, List.set_cons_zero, List.set_cons_succ]
          iterate 1
            first
              | (refine plan_pass _ rfl (by rfl) ?_)
              | (refine plan_take _ _ rfl (.inl ⟨by rfl, fun W hS => by clear hS; go_simp; try with_reducible rfl⟩) ?_)
            try simp only [Act.put, List.setIfInBounds_toArray, List.set_cons_zero, List.set_cons_succ]
          refine plan_done ?_
          clear hT hX hS3 hB hb hz hbt
          obtain ⟨v5, hv5⟩ : ∃ W, vf.setRow wd.heap.size (hdC (withM T s)) = W := ⟨_, rfl⟩
          rw [hv5] at hT5 hX5 hS5 hB5 hb5 hz5 ⊢
          clear hv5
          go_wp2
          go_roundw
          case rel => exact ⟨k + 1, lo', lc', some ⟨g, 0, none⟩, c', by omega, rfl, by rw [hR.out], by rw [hA.out]; exact hS5, by rw [hRr.out]; exact hB5, by rw [hTn.out]; exact hT5, hX5, hb5, hz5⟩
          case measure => simp [lenV]; omega
      · refine plan_nowJ _ _ rfl (by rfl) (yields_load_has (by rfl) 73 _ rfl wd.heap.size rfl 73 (hdC T) _ Tryz.underlying73 rfl (hd_size _) (fun W e => e ▸ hT)) trivial ?_
        try simp only [Act.put, List.setIfInBounds_toArray, List.set_cons_zero, List.set_cons_succ]
        have hqa : Below v1.heap.size v1 (v1.alloc (.cells #[strV s] 9)) := (Below.refl _ _).alloc (Nat.le_refl _) _
        refine plan_sliceS _ rfl (by rfl) _ rfl s rfl trivial ?_
        try simp only [Act.put, List.setIfInBounds_toArray, List.set_cons_zero, List.set_cons_succ]
        have hN := Strs.new v1 s (0, 0)
        replace hT := hT.later hqa
        replace hX := hX.later hqa
        replace hS := own_keptE hS hqa
        replace hB := hB.later hqa
        replace hb := hb.trans (hqa.mono hb.size)
        replace hz := Nat.le_trans hz hqa.size
        replace hgl := Nat.lt_of_lt_of_le hgl hqa.size
        obtain ⟨vd, hvd⟩ : ∃ W, v1.alloc (.cells #[strV s] 9) = W := ⟨_, rfl⟩
        rw [hvd] at hT hX hS hB hb hz hgl hN ⊢
        clear hvd hqa
        refine plan_appS _ rfl (by rfl) _ _ rfl w2.heap.size _ k A rfl ⟨v1.heap.size, 0, none⟩ 1 1 [s] rfl hS hN rfl (by omega) hz ?_
        rintro lo' lc' ve hS3 hgr
        refine ⟨trivial, ?_⟩
        try simp only [Act.put, List.setIfInBounds_toArray, List.set_cons_zero, List.set_cons_succ]
        have hq3 : Below w2.heap.size vd ve := (Below.refl _ _).grown hgr hz (fun q hq => (hS.lt q hq).1)
        replace hT := hT.keepB hq3 (by have := s3.out; omega)
        replace hX := hX.keepB hq3 (by have := s3.out; have := s1'.out; omega)
        replace hB := hB.same (b := ve) (fun ad had => by cases had; exact hgr.block g hgl (fun z => Nat.lt_irrefl _ (Nat.lt_of_lt_of_le (hgs g z.symm) hg)))
        replace hb := hb.trans (hq3.mono (by have := s3.out; have := s1'.out; omega))
        replace hz := Nat.le_trans hz hq3.size
        replace hgl := Nat.lt_of_lt_of_le hgl hq3.size
        clear hq3 hgr hN hS
        refine plan_run _ rfl (fun K hK => ?_)
        go_simp
        refine Calls.mono (with_any T s ve hTl.out hsl1.out hTu.out) ?_
        rintro e vf ⟨rfl, hq4⟩
        replace hT := hT.later hq4
        replace hX := hX.later hq4
        replace hS3 := own_keptE hS3 hq4
        replace hB := hB.later hq4
        replace hb := hb.trans (hq4.mono hb.size)
        replace hz := Nat.le_trans hz hq4.size
        replace hgl := Nat.lt_of_lt_of_le hgl hq4.size
        refine hK.out _ _ trivial ?_
        clear hK K hq4
        try simp only [Act.put, List.setIfInBounds_toArray, List.set_cons_zero, List.set_cons_succ]
        iterate 1
          first
            | (refine plan_pass _ rfl (by rfl) ?_)
            | (refine plan_take _ _ rfl (.inl ⟨by rfl, fun W hS => by clear hS; go_simp; try with_reducible rfl⟩) ?_)
          try simp only [Act.put, List.setIfInBounds_toArray, List.set_cons_zero, List.set_cons_succ]
        have hT5 := hT.row (hdC (withM T s))
        have hbt : But wd.heap.size vf (vf.setRow wd.heap.size (hdC (withM T s))) := but_row _ _
        have hX5 := hbt.has hX (by have := s1'.out; omega)
        have hS5 := own_but hS3 hbt s3.out
        have hB5 := hB.same (b := vf.setRow wd.heap.size (hdC (withM T s))) (fun ad had => by cases had; exact hbt.block _ hgl (show g ≠ wd.heap.size by have := s3.out; omega))
        have hb5 := below_setRow hb (show w.heap.size ≤ wd.heap.size by have := s1'.out; omega) (hdC (withM T s))
        have hz5 := Nat.le_trans hz hbt.size
        refine plan_store_has _ rfl (by rfl) 73 _ _ rfl wd.heap.size rfl (hdC (withM T s)) rfl 73 (hdC T) (hd_size _) rfl (hd_one _) hT trivial ?_
        try simp only [Act.put, List.setIfInBounds_toArray, List.set_cons_zero, List.set_cons_succ]
        iterate 1
          first
            | (refine plan_pass _ rfl (by rfl) ?_)
            | (refine plan_take _ _ rfl (.inl ⟨by rfl, fun W hS => by clear hS; go_simp; try with_reducible rfl⟩) ?_)
          try simp only [Act.put, List.setIfInBounds_toArray, List.set_cons_zero, List.set_cons_succ]
        refine plan_done ?_
        clear hT hX hS3 hB hb hz hbt
        obtain ⟨v5, hv5⟩ : ∃ W, vf.setRow wd.heap.size (hdC (withM T s)) = W := ⟨_, rfl⟩
        rw [hv5] at hT5 hX5 hS5 hB5 hb5 hz5 ⊢
        clear hv5
        go_wp2
        go_roundw
        case rel => exact ⟨k + 1, lo', lc', some ⟨g, 0, none⟩, c', by omega, rfl, by rw [hR.out], by rw [hA.out]; exact hS5, by rw [hRr.out]; exact hB5, by rw [hTn.out]; exact hT5, hX5, hb5, hz5⟩
        case measure => simp [lenV]; omega
    · have hkk : k = l.length := by omega
      have hall : Hid (withAll ⟨h.num, H, 0, 0⟩ (l.take k) = h) := by
        show _ = _
        rw [hkk, List.take_length, with_all]
        have h1 := hlen.out
        have h2 := hsum.out
        have h3 := hH.out
        exact HdV.ext' rfl h3.symm (by show 0 + (sheetB l).length = h.len; omega) h2.symm
      rw [hall.out] at hT
      have hdn : sheetB (l.drop k) = [] := by rw [hkk, List.drop_length]; rfl
      rw [hdn] at hB ⊢
      have hbn : ∃ m, ([] : List UInt8).length = m ∧ m = 0 := ⟨0, rfl, rfl⟩
      have hcap := hB.cap
      have heq := fun W => eq_hd h hok W
      have htk : SsV (l.take k) = SsV l := by rw [hkk, List.take_length]
      rw [htk] at hS
      obtain ⟨ll, hll⟩ : ∃ x, l.length = x := ⟨_, rfl⟩
      rw [hll] at hkk
      subst hkk
      have hfin : Hid _ := own_mono hS (show w.heap.size ≤ w2.heap.size by have := s3.out; have := s1'.out; omega)
      have hll' : Hid (l.length = k) := hll
      clear hall hdn hB htk hS hbn hlen hsum hbody hfit hk hkl hll hrec
      go_wp2_with (first
        | (refine wpList_load_has (by rfl) 73 _ rfl w.heap.size rfl 73 (hdC h) _ Tryz.underlying73 rfl (hd_size _) ?hg ?_; (case hg => exact hX))
        | (refine wpList_load_has (by rfl) 73 _ rfl wd.heap.size rfl 73 (hdC h) _ Tryz.underlying73 rfl (hd_size _) ?hg ?_; (case hg => exact hT))
        | (refine wpList_bin_agg (by rfl) .eql 73 _ _ _ rfl (hdC h) (hdC h) rfl rfl (.bool true) guard_hd ?hg ?_; (case hg => exact heq _))
        | (go_at_call 33; refine (must_yes 10 _).mono ?_; rintro e w9 ⟨rfl, h9⟩; have h9' := h9.symm; clear h9; subst h9')
        | fail)
      go_ret
      have e1 := hll'.out
      subst e1
      exact ⟨lo, lc, rfl, hfin.out, hb⟩
end

section
set_option linter.unusedSimpArgs false
set_option linter.unusedVariables false
set_option maxRecDepth 100000
open Go.RowKit Go.MapKept

theorem jcatch_idle (p : Addr) (w : World) :
    CallsD Tryz.prog 85 #[.pointer (some p)] .returning w fun e u' w' => e = .returned (.tuple #[]) ∧ u' = .returning ∧ w' = w := by
  refine callsD_of_wpS Tryz.func85 rfl fun c₀ cs hu => ?_
  apply wpS_seq
  apply wpS_region
  simp [wpOpsS, go_sem, recoverD, hu, Tryz.ntmps85, Exit.thenS, Array.replicate]
  apply wpS_seq
  apply wpS_region
  simp [wpOpsS, go_sem, Exit.thenS, Array.replicate]
  refine wpS_cond (t := false) (by simp [Act.eval]) ?_
  simp only [Bool.false_eq_true, if_false]
  refine wpS_of_wp (wp_skip ?_)
  cases c₀
  simp_all [bodyPostS, results, Tryz.results85]
theorem jcatch_panicking (p : Addr) (x y : Int) (older : List PanicEntry) (w : World) (hc : w.cell? p = some (.int .i64 y)) (hz : w.frozen? p = false) :
    CallsD Tryz.prog 85 #[.pointer (some p)] (.panicking ({ v := .iface 25 (.int .i64 x), recovered := false } :: older)) w fun e u' w' =>
      e = .returned (.tuple #[]) ∧ u' = .panicking ({ v := .iface 25 (.int .i64 x), recovered := true } :: older) ∧ w' = w.setCell p (.int .i64 x) := by
  have hta : ∀ (x : Int) (w : World), (Instr.typeAssert (.iface 25 (.int .i64 x)) 20 25 false).run Tryz.prog w = .ok (.int .i64 x) w := fun _ _ => by kernel_rfl
  refine callsD_of_wpS Tryz.func85 rfl fun c₀ cs hu => ?_
  apply wpS_seq
  apply wpS_region
  simp [wpOpsS, go_sem, recoverD, hu, Tryz.ntmps85, Exit.thenS, hta, Array.replicate]
  apply wpS_seq
  apply wpS_region
  simp [wpOpsS, go_sem, Exit.thenS, Array.replicate]
  refine wpS_cond (t := true) (by simp [Act.eval]) ?_
  simp only [if_true]
  refine wpS_of_wp ?_
  go_wp2_with fail
  cases c₀
  simp_all [bodyPostS, results, Tryz.results85]
/-- journal.caught over a closure that returns. -/
theorem jcaught_ok (a b : Value) (w : World) (R : World → Prop)
    (hF : Calls Tryz.prog 54 #[a, b] (w.alloc (.cells #[.int .i64 0] 25)) fun e w' => e = .returned (.tuple #[]) ∧ R w')
    (hR : ∀ w1, R w1 → (∃ v, w1.cell? ⟨w.heap.size, 0, none⟩ = some v) ∧ w1.frozen? ⟨w.heap.size, 0, none⟩ = false) :
    Calls Tryz.prog 53 #[.func (.func 54) #[] #[a, b]] w fun e w' => e = .returned (.int .i64 0) ∧ ∃ w1, R w1 ∧ w' = w1.setCell ⟨w.heap.size, 0, none⟩ (.int .i64 0) := by
  have hmf : ∀ (fn : Fn) (first cap : Array Value) (w : World), (Instr.makeFunc fn first cap).run Tryz.prog w = .ok (.func fn first cap) w := fun _ _ _ _ => rfl
  replace hF : Hid _ := hF
  replace hR : Hid _ := hR
  go_enter_defers Tryz.func53, Tryz.ntmps53
  go_wp2_with fail
  refine Calls.mono hF.out ?_
  rintro e w' ⟨rfl, hw⟩
  obtain ⟨⟨v0, hc⟩, hz⟩ := hR.out w' hw
  have HW : Hid (R w') := hw
  clear hw
  go_wp2
  refine leaves_cons (f := 85) (args := #[.pointer (some ⟨w.heap.size, 0, none⟩)]) (by simp) (by simp [go_sem]) ?_
  refine (jcatch_idle ⟨w.heap.size, 0, none⟩ _).mono ?_
  rintro e u' w'' ⟨rfl, rfl, rfl⟩
  have hc2 : (w'.setCell ⟨w.heap.size, 0, none⟩ (.int .i64 0)).cell? ⟨w.heap.size, 0, none⟩ = some (.int .i64 0) := by
    rw [World.cell?_setCell_same _ _ _ hc]
  simp [Leaves, settle, results, Tryz.results53, go_sem, hc2]
  exact ⟨w', HW.out, rfl⟩
/-- journal.caught over a closure that throws a number. -/
theorem jcaught_err (a b : Value) (n : Nat) (w : World) (R : World → Prop)
    (hF : Calls Tryz.prog 54 #[a, b] (w.alloc (.cells #[.int .i64 0] 25)) fun e w' => e = thrownJ n ∧ R w')
    (hR : ∀ w1, R w1 → w1.cell? ⟨w.heap.size, 0, none⟩ = some (.int .i64 0) ∧ w1.frozen? ⟨w.heap.size, 0, none⟩ = false) :
    Calls Tryz.prog 53 #[.func (.func 54) #[] #[a, b]] w fun e w' => e = .returned (.int .i64 (n : Nat)) ∧ ∃ w1, R w1 ∧ w' = w1.setCell ⟨w.heap.size, 0, none⟩ (.int .i64 (n : Nat)) := by
  have hmf : ∀ (fn : Fn) (first cap : Array Value) (w : World), (Instr.makeFunc fn first cap).run Tryz.prog w = .ok (.func fn first cap) w := fun _ _ _ _ => rfl
  replace hF : Hid _ := hF
  replace hR : Hid _ := hR
  go_enter_defers Tryz.func53, Tryz.ntmps53
  go_wp2_with fail
  refine Calls.mono hF.out ?_
  rintro e w' ⟨rfl, hw⟩
  obtain ⟨hc, hz⟩ := hR.out w' hw
  have HW : Hid (R w') := hw
  clear hw
  unfold thrownJ
  go_wp2
  refine leaves_cons (f := 85) (args := #[.pointer (some ⟨w.heap.size, 0, none⟩)]) (by simp) (by simp [go_sem]) ?_
  refine (jcatch_panicking ⟨w.heap.size, 0, none⟩ n 0 [] _ hc hz).mono ?_
  rintro e u' w'' ⟨rfl, rfl, rfl⟩
  have hc2 : (w'.setCell ⟨w.heap.size, 0, none⟩ (.int .i64 n)).cell? ⟨w.heap.size, 0, none⟩ = some (.int .i64 n) := by
    rw [World.cell?_setCell_same _ _ _ hc]
  simp [Leaves, settle, results, Tryz.results53, go_sem, hc2]
  exact ⟨w', HW.out, rfl⟩
end
end Go.Proofs.YtpnpjblohijajabGreat
