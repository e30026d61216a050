/- The contracts of the document's history that only read: Last, Map; Same. -/
import Derived.Test.YtlbokkbngbpmiaaIncRows
import Derived.Test.YtlbokkbngbpmiaaRefApply
import Derived.Test.YtlbokkbngbpmiaaPackMaps
import Derived.Test.YtlbokkbngbpmiaaPackTools
namespace Go.Proofs.Ytlbokkbngbpmiaa
set_option linter.unusedSimpArgs false
set_option linter.unusedVariables false
open Go.RowKit

set_option maxRecDepth 100000 in
theorem rlast_any (p : Nat) (ao : Option Addr) (c : Nat) (xs : List IncV) (w : World) (hP : Has w p 81 #[.slice ao xs.length c]) (hl : xs.length ≤ 1000) :
    Calls Try.prog 31 #[ptr p] w fun e w' => e = .returned (.int .u32 (xs.length + 1 : Nat)) ∧ w' = w := by
  have c0 := hP.cell 0
  rw [show (#[Value.slice ao xs.length c])[0]? = some (.slice ao xs.length c) from rfl] at c0
  have hlI : (xs.length : Int) ≤ 1000 := by omega
  have hpt : ptr p = .pointer (some ⟨p, 0, none⟩) := rfl
  rw [hpt]
  go_enter Try.func31, Try.ntmps31
  go_wp2
  go_ret
  exact ⟨rfl, rfl⟩

theorem run_map_on {ev : Operand → Value} {o : Oper} {w : World} (m : MapV) (x : Operand) (ho : o.op = .load 106 x) (g : Nat) (hx : ev x = .pointer (some ⟨g, 0, none⟩)) (hg : Has w g 106 (mapC m)) : (execOp ev o).run Try.prog w = .ok (.value (.agg (mapC m))) w := by
  unfold execOp
  simp only [ho, hx]
  simp only [Sem.run_bind, Instr.loadAt, Instr.sureAddr, Sem.run_pure, Result.andThen]
  rw [run_loadVar_row w g 106 106 (mapC m) (0, 0) _ hg Try.underlying106 rfl (map_size m)]

theorem plan_run_is {P : Program} {ops : Array Oper} {Q : Exit → Act → World → Prop} {S : World → Prop} {i : Nat} {p : Plan} {a : Act} {w : World} (o : Oper) (v : Value) (ho : nth ops.toList i = some o) (hw : Region.wanted o (yielded ops a.tmps) = true)
    (hr : (execOp a.eval o).run P w = .ok (.value v) w) (hS : S w) (h : wpPlan P ops Q S p (a.put o.dst v) w) : wpPlan P ops Q S (Plan.run i p) a w := by
  refine plan_run o ho fun K hK => ?_
  rw [if_pos hw]
  unfold Oper.wp
  rw [hr]
  exact hK.out _ _ hS h

set_option maxRecDepth 100000 in
set_option maxHeartbeats 2000000 in
theorem rmap_any (p : Nat) (ao : Option Addr) (c : Nat) (xs : List IncV) (ep : Nat) (w : World) (hP : Has w p 81 #[.slice ao xs.length c]) (hS : Sl w ao c 3 (incR xs)) (hg : Good xs) (he : ep < 4294967296) :
    Calls Try.prog 53 #[ptr p, .int .u32 ep] w fun e w' => e = .returned (.agg (mapC (mapH xs (min (ep - 1) xs.length)))) ∧ Below w.heap.size w w' := by
  have hl := lenH hg
  have hlI : (xs.length : Int) ≤ 59 := by omega
  have hcap := hS.cap
  have hle := hS.le
  rw [incR_len] at hle
  have hpt : ptr p = .pointer (some ⟨p, 0, none⟩) := rfl
  rw [hpt]
  have hPl := hP.lt
  have hR0 := Has.new w 106 (mapC zeroM)
  have hb0 := (Below.refl w.heap.size w).alloc (Nat.le_refl _) (.cells (mapC zeroM) 106)
  go_enter Try.func53, Try.ntmps53
  go_wp2_with (first
    | (go_at_call 63; refine (reffirst_any _).mono ?_; rintro e w1 ⟨rfl, hq⟩; have hR := hR0.later hq; have hb := hb0.trans (hq.mono hb0.size); clear hq hR0 hb0)
    | (refine alloc_map (by rfl) rfl ?_)
    | (refine store_map firstM zeroM (by rfl) _ _ rfl _ rfl rfl ?hg ?_; (case hg => exact Has.new _ _ _); have hM := (Has.new w1 106 (mapC zeroM)).row (mapC firstM); have hbb := below_setRow ((Below.refl w1.heap.size w1).alloc (Nat.le_refl _) (.cells (mapC zeroM) 106)) (Nat.le_refl _) (mapC firstM); have hRl := hR.lt; replace hR := hR.later hbb; replace hb := hb.trans (hbb.mono hb.size); clear hbb; generalize (w1.alloc (.cells (mapC zeroM) 106)).setRow w1.heap.size (mapC firstM) = w2 at *))
  go_loopw [6] (fun i wr => ∃ n : Nat, n ≤ xs.length ∧ n ≤ ep - 1 ∧ i = .int .i64 n ∧ Has wr w1.heap.size 106 (mapC (mapH xs n)) ∧ Has wr w.heap.size 106 (mapC zeroM) ∧ Below w.heap.size w wr) (fun i _ => xs.length - (intOf i).toNat)
  case atStart => exact ⟨0, Nat.zero_le _, Nat.zero_le _, rfl, hM, hR, hb⟩
  case round =>
    clear hM hR hb
    obtain ⟨n, hn, hne, rfl, hM, hR, hb⟩ := hrel
    have hPr := hP.later hb
    have c0 := hPr.cell 0
    rw [show (#[Value.slice ao xs.length c])[0]? = some (.slice ao xs.length c) from rfl] at c0
    by_cases hep : n + 2 ≤ ep
    · have hepI : (n : Int) + 2 ≤ (ep : Int) := by omega
      by_cases hlt : n < xs.length
      · have hnI : (n : Int) < (xs.length : Int) := by omega
        cases ao with
        | none => have h1 := hS.nil rfl; omega
        | some ad =>
          have hgn := hg n hlt
          have hok := okH hg n hn
          have hst : Hid (mapH xs (n + 1) = applyM (mapH xs n) xs[n]) := by
            show _ = _
            rw [mapH_succ hlt]
            unfold applyM
            rw [hgn.1]
            rfl
          have hci : ∀ W, Below w.heap.size w W → ∀ j v, (incC xs[n]).toList[j]? = some v → W.cell? ((ad.add (n * 3)).add j) = some v := fun W hW => incR_at (hS.later hW) n hlt
          have hcP : ∀ W, Below w.heap.size w W → W.cell? ⟨p, 0, none⟩ = some (.slice (some ad) xs.length c) := fun W hW => by
            have := (hP.later hW).cell 0
            rw [this]
            rfl
          have hxo := hgn.2
          clear hgn
          generalize xs[n] = x at *
          generalize mapH xs n = m at *
          go_wp2
          refine wp_region_plan (fun W => Below w.heap.size w W) (Plan.of [(1, true), (2, true), (3, true), (4, true), (5, true), (6, true), (7, true), (0, false), (8, false), (9, true), (10, true), (11, true), (12, false)] .done) (by kernel_rfl) (by kernel_rfl) (by kernel_rfl) (by kernel_rfl) hb.drew ?_
          iterate 3
            first
              | (refine plan_pass _ rfl (by rfl) ?_)
              | (refine plan_take _ _ rfl (.inl ⟨by rfl, fun W hS => by clear hS; go_simp; try with_reducible rfl⟩) ?_)
            try simp only [Act.put, List.setIfInBounds_toArray, List.set_cons_zero, List.set_cons_succ]
          iterate 1
            first
              | (refine plan_pass _ rfl (by rfl) ?_)
              | (refine plan_take _ _ rfl (.inl ⟨by rfl, fun W hS => by have z1 := hcP W hS; go_simp; try with_reducible rfl⟩) ?_)
            try simp only [Act.put, List.setIfInBounds_toArray, List.set_cons_zero, List.set_cons_succ]
          iterate 2
            first
              | (refine plan_pass _ rfl (by rfl) ?_)
              | (refine plan_take _ _ rfl (.inl ⟨by rfl, fun W hS => by clear hS; go_simp; try with_reducible rfl⟩) ?_)
            try simp only [Act.put, List.setIfInBounds_toArray, List.set_cons_zero, List.set_cons_succ]
          refine plan_take _ _ rfl (yields_inc_at x (by rfl) _ rfl (ad.add (n * 3)) rfl hci) ?_
          try simp only [Act.put, List.setIfInBounds_toArray, List.set_cons_zero, List.set_cons_succ]
          refine plan_run_is _ _ rfl (by rfl) (run_map_on m _ rfl w1.heap.size rfl hM.drew) hb.drew ?_
          try simp only [Act.put, List.setIfInBounds_toArray, List.set_cons_zero, List.set_cons_succ]
          refine plan_run _ rfl (fun K hK => ?_)
          go_simp
          refine (refapply_any m x _ hok hxo).mono ?_
          rintro e w3 ⟨rfl, hq⟩
          replace hM := hM.drew.later hq
          replace hR := hR.drew.later hq
          have hb3 := hb.drew.trans (hq.mono hb.size)
          refine hK.out _ _ hb3 ?_
          clear hK K hq hb
          iterate 3
            first
              | (refine plan_pass _ rfl (by rfl) ?_)
              | (refine plan_take _ _ rfl (.inl ⟨by rfl, fun W hS => by clear hS; go_simp; try with_reducible rfl⟩) ?_)
            try simp only [Act.put, List.setIfInBounds_toArray, List.set_cons_zero, List.set_cons_succ]
          have hs1 : w.heap.size ≤ w1.heap.size := by omega
          refine plan_store_has _ rfl (by rfl) 106 _ _ rfl w1.heap.size rfl (mapC (applyM m x)) rfl 106 (mapC m) (map_size _) (by rw [mapC_size, mapC_size]) (mapC_one _) hM (below_setRow hb3 hs1 _) ?_
          try simp only [Act.put, List.setIfInBounds_toArray, List.set_cons_zero, List.set_cons_succ]
          refine plan_done ?_
          have hM2 := hM.row (mapC (applyM m x))
          have hR2 := hR.row_other (k := w1.heap.size) (by omega) (mapC (applyM m x))
          have hb4 := below_setRow hb3 hs1 (mapC (applyM m x))
          go_wp2
          go_roundw
          case rel => exact ⟨n + 1, by omega, by omega, by go_num, by rw [hst.out]; exact hM2, hR2, hb4⟩
          case measure => simp [intOf]; omega
      · have hnI : (xs.length : Int) ≤ (n : Int) := by omega
        have e5 : min (ep - 1) xs.length = n := by omega
        have e5' : Hid _ := e5
        clear e5
        go_wp2_with (first
          | (refine load_map (mapH xs n) (by rfl) _ rfl w1.heap.size rfl ?hg ?_; (case hg => exact hM))
          | (refine store_map (mapH xs n) zeroM (by rfl) _ _ rfl _ rfl rfl ?hg ?_; (case hg => exact hR)))
        exact ret_map (mapH xs n) rfl _ rfl (hR.row _) rfl ⟨by rw [e5'.out], below_setRow hb (Nat.le_refl _) _⟩
    · have hepI : (ep : Int) < (n : Int) + 2 := by omega
      have e5 : min (ep - 1) xs.length = n := by omega
      have e5' : Hid _ := e5
      clear e5
      go_wp2_with (first
        | (refine load_map (mapH xs n) (by rfl) _ rfl w1.heap.size rfl ?hg ?_; (case hg => exact hM))
        | (refine store_map (mapH xs n) zeroM (by rfl) _ _ rfl _ rfl rfl ?hg ?_; (case hg => exact hR)))
      exact ret_map (mapH xs n) rfl _ rfl (hR.row _) rfl ⟨by rw [e5'.out], below_setRow hb (Nat.le_refl _) _⟩
end Go.Proofs.Ytlbokkbngbpmiaa
