/- ObjectsApart, walked. -/
import Derived.Test.YtjajfeplgilejaaObjSteps
import Derived.Test.YtjajfeplgilejaaEqMore6
namespace Go.Proofs.Ytjajfeplgilejaa
set_option linter.unusedSimpArgs false
set_option linter.unusedVariables false
set_option maxRecDepth 100000
open Go.RowKit

set_option maxHeartbeats 4000000 in
theorem apart_walk (S : ObjSpec) (ao : Option Addr) (c : Nat) (l : List OpV) (o : OpV) (w : World) (h : Sl w ao c 6 (opR l)) (hl : ∀ x ∈ l, OpOk x) (ho : OpOk o) :
    Calls Try.prog 6 #[.slice ao l.length c, .agg (opC o)] w fun e w' => e = .returned (.bool true) ∧ Below w.heap.size w w' := by
  have hle := h.le
  have hol : (opR l).length = l.length := by unfold opR; rw [List.length_map]
  rw [hol] at hle
  have hcap := h.cap
  have hO := Has.new w 42 (opC o)
  have hb := (Below.refl w.heap.size w).alloc (Nat.le_refl _) (.cells (opC o) 42)
  go_enter Try.func6, Try.ntmps6
  go_wp2_with fail
  refine (oknown_any S _).mono ?_
  rintro e w1 ⟨rfl, hq⟩
  replace hO := hO.later hq
  replace hb := hb.trans (hq.mono hb.size)
  clear hq
  by_cases hlong : 20 < l.length
  · have hI : (20 : Int) < (l.length : Int) := by omega
    clear hlong
    go_wp2_with fail
    go_ret
    exact ⟨rfl, hb⟩
  have hI : ¬ ((20 : Int) < (l.length : Int)) := by omega
  have hI2 : (l.length : Int) ≤ 20 := by omega
  go_wp2_with (first
    | (refine wpList_build_has (by rfl) 35 #[] rfl (baseC base0) (by simpa using base_built) ?_))
  refine (S.all base0 ao c l _ base0_ok (h.later hb) hl (by omega)).mono ?_
  rintro e w3 ⟨ro, rc, rfl, _, hq⟩
  replace hO := hO.later hq
  replace hb := hb.trans (hq.mono hb.size)
  clear hq
  have hB0 := all_ok base0_ok l hl
  generalize (allM base0 l).1 = B at *
  obtain ⟨w4, hw4, hB, hq⟩ := base_var w3 B
  replace hO := hO.later hq
  replace hb := hb.trans (hq.mono hb.size)
  clear hq
  go_wp2_with (first
    | (refine wpList_alloc_has (by rfl) 35 rfl (baseC base0) base_zero ?_)
    | (refine wpList_store_to (by rfl) 35 _ _ rfl w3.heap.size rfl (baseC B) rfl 35 (baseC base0) (base_size _) rfl (base_one _) ?hg w4 ?hW ?_; (case hg => exact Has.new _ _ _); (case hW => exact hw4); clear hw4; generalize w3.heap.size = gb at *)
    | (refine wpList_load_has (by rfl) 35 _ rfl (gb) rfl 35 (baseC (B)) _ Try.underlying35 rfl (base_size _) ?hg ?_; (case hg => first | exact hB))
    | (refine wpList_load_has (by rfl) 42 _ rfl (w.heap.size) rfl 42 (opC (o)) _ Try.underlying42 rfl (op_size _) ?hg ?_; (case hg => first | exact hO)))
  refine (S.do' B o _ hB0 ho).mono ?_
  rintro e w5 ⟨rfl, hq⟩
  replace hO := hO.later hq
  replace hB := hB.later hq
  replace hb := hb.trans (hq.mono hb.size)
  clear hq
  have hC0 := do_ok hB0 ho
  have hbad := do_bad (b := B) (o := o)
  have hobj := fun i => do_obj_other (b := B) (o := o) i
  have hlast := fun i => do_last_other (b := B) (o := o) i
  have hcode := do_code (b := B) (o := o)
  generalize hre : (doM B o).2 = r at *
  generalize hCe : (doM B o).1 = C at *
  obtain ⟨w6, hw6, hn6, hC, hr, hq⟩ := do_vars w5 C r
  replace hO := hO.later hq
  replace hB := hB.later hq
  replace hb := hb.trans (hq.mono hb.size)
  clear hq
  have e1 := fun W => eq_base B hB0 W
  go_wp2_with (first
    | (refine wpList_alloc_has (by rfl) 35 rfl (baseC base0) base_zero ?_)
    | (refine wpList_alloc_has (by rfl) 30 rfl (resC res0) res_zero ?_; rw [alloc_size])
    | (refine wpList_store_has (by rfl) 35 _ _ rfl w5.heap.size rfl (baseC C) rfl 35 (baseC base0) (base_size _) rfl (base_one _) ?hg ?_; (case hg => exact (Has.new _ _ _).alloc _))
    | (refine wpList_store_to (by rfl) 30 _ _ rfl (w5.heap.size + 1) rfl (resC r) rfl 30 (resC res0) (res_size _) rfl (res_one _) ?hg w6 ?hW ?_; (case hg => exact hn6); (case hW => exact hw6))
    | (refine wpList_load_has (by rfl) 42 _ rfl (w.heap.size) rfl 42 (opC (o)) _ Try.underlying42 rfl (op_size _) ?hg ?_; (case hg => first | exact hO)))
  refine (S.writes o _ ho).mono ?_
  rintro e w7 ⟨rfl, hq⟩
  replace hO := hO.later hq
  replace hB := hB.later hq
  replace hC := hC.later hq
  replace hr := hr.later hq
  replace hb := hb.trans (hq.mono hb.size)
  clear hq hw6 hn6
  generalize w5.heap.size = gc at *
  cases hw : writesM o with
  | false =>
    have hd := hbad hw
    rw [hd] at hre hCe
    subst hre
    replace hCe : B = C := hCe
    subst hCe
    have r0 : w7.cell? ⟨gc + 1, 0, none⟩ = some (.int .u8 3) := (hr.cell 0).trans rfl
    go_wp2_with (first
      | (refine wpList_load_has (by rfl) 35 _ rfl (gc) rfl 35 (baseC (B)) _ Try.underlying35 rfl (base_size _) ?hg ?_; (case hg => first | exact hC))
      | (refine wpList_load_has (by rfl) 35 _ rfl (gb) rfl 35 (baseC (B)) _ Try.underlying35 rfl (base_size _) ?hg ?_; (case hg => first | exact hB))
      | (refine wpList_bin_agg (by rfl) .eql 35 _ _ _ rfl (baseC B) (baseC B) rfl rfl (.bool true) guard_base ?hg ?_; (case hg => exact e1 _)))
    go_ret
    exact ⟨rfl, hb⟩
  | true =>
    obtain ⟨hc1, hc3, hob, _, _, _⟩ := writes_client hw
    clear hbad hre hCe e1
    have q3 := (hO.cell 3).trans (show (opC o)[3]? = some (.int .u8 (o.obj : Int)) from rfl)
    have q0 := (hO.cell 0).trans (show (opC o)[0]? = some (.int .u8 (o.client : Int)) from rfl)
    go_wp2_with fail
    go_loopw [9] (fun i wr => ∃ n : Nat, n ≤ 6 ∧ i = .int .i64 n ∧ Below w7.heap.size w7 wr) (fun i _ => 6 - (intOf i).toNat)
    case atStart => exact ⟨0, Nat.zero_le _, rfl, Below.refl _ _⟩
    case round =>
      obtain ⟨n, hn, rfl, hbr⟩ := hrel
      by_cases hlt : n < 6
      · have hnI : (n : Int) < 6 := by omega
        have q3W := fun W (hW : Below wr.heap.size wr W) => ((hO.later (hbr.trans (hW.mono hbr.size))).cell 3).trans (show (opC o)[3]? = some (.int .u8 (o.obj : Int)) from rfl)
        have hwo : IntKind.i64.wrap (o.obj : Int) = (o.obj : Int) := by
          simp [IntKind.wrap, IntKind.bits, IntKind.signed]
          omega
        generalize o.obj = ob at *
        go_wp2_with fail
        by_cases heq : n = ob
        · subst heq
          refine wp_region_plan (fun W => Below wr.heap.size wr W) (Plan.of [(0, true), (1, true), (2, true), (3, true), (4, true), (5, true), (6, true), (7, true), (8, true), (9, true), (10, true), (11, true), (12, true), (13, true), (14, true), (15, true)] .done) (by kernel_rfl) (by kernel_rfl) (by kernel_rfl) (by kernel_rfl) (Below.refl _ _).drew ?_
          iterate 2
            first
              | (refine plan_pass _ rfl (by rfl) ?_)
              | (refine plan_take _ _ rfl (.inl ⟨by rfl, fun W hS => by clear hS; go_simp; try with_reducible rfl⟩) ?_)
            try simp only [Act.put, List.setIfInBounds_toArray, List.set_cons_zero, List.set_cons_succ]
          iterate 1
            first
              | (refine plan_pass _ rfl (by rfl) ?_)
              | (refine plan_take _ _ rfl (.inl ⟨by rfl, fun W hS => by have z1 := q3W W hS; go_simp; try with_reducible rfl⟩) ?_)
            try simp only [Act.put, List.setIfInBounds_toArray, List.set_cons_zero, List.set_cons_succ]
          refine plan_take _ (.int .i64 (n : Int)) rfl (.inl ⟨by rfl, fun W hS => by clear hS; go_simp; try with_reducible rfl⟩) ?_
          try simp only [Act.put, List.setIfInBounds_toArray, List.set_cons_zero, List.set_cons_succ]
          refine plan_take _ (.bool false) rfl (.inl ⟨by rfl, fun W hS => by clear hS; go_simp; try with_reducible rfl⟩) ?_
          try simp only [Act.put, List.setIfInBounds_toArray, List.set_cons_zero, List.set_cons_succ]
          iterate 11
            first
              | (refine plan_pass _ rfl (by rfl) ?_)
              | (refine plan_take _ _ rfl (.inl ⟨by rfl, fun W hS => by clear hS; go_simp; try with_reducible rfl⟩) ?_)
            try simp only [Act.put, List.setIfInBounds_toArray, List.set_cons_zero, List.set_cons_succ]
          refine plan_done ?_
          go_wp2_with fail
          go_roundw
          case rel => exact ⟨n + 1, by omega, by go_num, hbr.drew⟩
          case measure => simp [intOf]; omega
        · have hneI : ((n : Int) == (ob : Int)) = false := by rw [beq_eq_false_iff_ne]; omega
          have hneP : ¬ ((n : Int) = (ob : Int)) := by omega
          have hX := hobj ⟨n, hlt⟩ heq
          have hXo := hB0.obj ⟨n, hlt⟩
          have hCr := fun W (hW : Below wr.heap.size wr W) => (hC.later (hbr.trans (hW.mono hbr.size))).obj_at ⟨n, hlt⟩
          have hBr := fun W (hW : Below wr.heap.size wr W) => (hB.later (hbr.trans (hW.mono hbr.size))).obj_at ⟨n, hlt⟩
          rw [hX] at hCr
          generalize B.obj ⟨n, hlt⟩ = X at *
          refine wp_region_plan (fun W => Below wr.heap.size wr W) (Plan.of [(0, true), (1, true), (2, true), (3, true), (4, true), (5, true), (6, true), (7, true), (8, true), (9, true), (10, true), (11, true), (12, true), (13, true), (14, true), (15, true)] .done) (by kernel_rfl) (by kernel_rfl) (by kernel_rfl) (by kernel_rfl) (Below.refl _ _).drew ?_
          iterate 2
            first
              | (refine plan_pass _ rfl (by rfl) ?_)
              | (refine plan_take _ _ rfl (.inl ⟨by rfl, fun W hS => by clear hS; go_simp; try with_reducible rfl⟩) ?_)
            try simp only [Act.put, List.setIfInBounds_toArray, List.set_cons_zero, List.set_cons_succ]
          iterate 1
            first
              | (refine plan_pass _ rfl (by rfl) ?_)
              | (refine plan_take _ _ rfl (.inl ⟨by rfl, fun W hS => by have z1 := q3W W hS; go_simp; try with_reducible rfl⟩) ?_)
            try simp only [Act.put, List.setIfInBounds_toArray, List.set_cons_zero, List.set_cons_succ]
          refine plan_take _ (.int .i64 (ob : Int)) rfl (.inl ⟨by rfl, fun W hS => by clear hS; go_simp; try with_reducible rfl⟩) ?_
          try simp only [Act.put, List.setIfInBounds_toArray, List.set_cons_zero, List.set_cons_succ]
          refine plan_take _ (.bool true) rfl (.inl ⟨by rfl, fun W hS => by clear hS; go_simp; try with_reducible rfl⟩) ?_
          try simp only [Act.put, List.setIfInBounds_toArray, List.set_cons_zero, List.set_cons_succ]
          iterate 4
            first
              | (refine plan_pass _ rfl (by rfl) ?_)
              | (refine plan_take _ _ rfl (.inl ⟨by rfl, fun W hS => by clear hS; go_simp; try with_reducible rfl⟩) ?_)
            try simp only [Act.put, List.setIfInBounds_toArray, List.set_cons_zero, List.set_cons_succ]
          refine plan_take _ _ rfl (yieldsIf_load_mid (by rfl) 26 _ rfl gc (n * 5) rfl (objL X) _ hCr Try.underlying26 rfl (obj_size X)) ?_
          try simp only [Act.put, List.setIfInBounds_toArray, List.set_cons_zero, List.set_cons_succ]
          iterate 3
            first
              | (refine plan_pass _ rfl (by rfl) ?_)
              | (refine plan_take _ _ rfl (.inl ⟨by rfl, fun W hS => by clear hS; go_simp; try with_reducible rfl⟩) ?_)
            try simp only [Act.put, List.setIfInBounds_toArray, List.set_cons_zero, List.set_cons_succ]
          refine plan_take _ _ rfl (yieldsIf_load_mid (by rfl) 26 _ rfl gb (n * 5) rfl (objL X) _ hBr Try.underlying26 rfl (obj_size X)) ?_
          try simp only [Act.put, List.setIfInBounds_toArray, List.set_cons_zero, List.set_cons_succ]
          refine plan_take _ _ rfl (yields_bin_agg (by rfl) .neq 26 _ _ _ rfl (objC X) (objC X) rfl rfl (.bool false) guard_obj (neq_obj X hXo)) ?_
          try simp only [Act.put, List.setIfInBounds_toArray, List.set_cons_zero, List.set_cons_succ]
          iterate 1
            first
              | (refine plan_pass _ rfl (by rfl) ?_)
              | (refine plan_take _ _ rfl (.inl ⟨by rfl, fun W hS => by clear hS; go_simp; try with_reducible rfl⟩) ?_)
            try simp only [Act.put, List.setIfInBounds_toArray, List.set_cons_zero, List.set_cons_succ]
          refine plan_done ?_
          go_wp2_with fail
          go_roundw
          case rel => exact ⟨n + 1, by omega, by go_num, hbr.drew⟩
          case measure => simp [intOf]; omega
      · have e6 : n = 6 := by omega
        subst e6
        replace hO := hO.later hbr
        replace hB := hB.later hbr
        replace hC := hC.later hbr
        replace hr := hr.later hbr
        replace hb := hb.trans (hbr.mono hb.size)
        clear hlt hn q3 q0 hobj
        generalize wr = wo at *
        obtain ⟨k, hke⟩ : ∃ k, o.client = k + 1 := ⟨o.client - 1, by omega⟩
        have q0W := fun W (hW : Below wo.heap.size wo W) => ((hO.later hW).cell 0).trans (show (opC o)[0]? = some (.int .u8 (o.client : Int)) from rfl)
        rw [hke] at q0W
        replace q0W : ∀ W, Below wo.heap.size wo W → W.cell? ⟨w.heap.size, 0, none⟩ = some (.int .u8 ((k : Int) + 1)) := q0W
        rw [show o.client - 1 = k by omega] at hlast
        have hk3 : k < 3 := by omega
        have hw1 : IntKind.i64.wrap ((k : Int) + 1) = (k : Int) + 1 := by
          simp [IntKind.wrap, IntKind.bits, IntKind.signed]
          omega
        have hw2 : IntKind.i64.wrap ((k : Int) + 1 - 1) = (k : Int) := by
          simp [IntKind.wrap, IntKind.bits, IntKind.signed]
          omega
        have hw3 : IntKind.i64.wrap (k : Int) = (k : Int) := by
          simp [IntKind.wrap, IntKind.bits, IntKind.signed]
          omega
        go_wp2_with fail
        go_loopw [10] (fun i wr => ∃ n : Nat, n ≤ 3 ∧ i = .int .i64 n ∧ Below wo.heap.size wo wr) (fun i _ => 3 - (intOf i).toNat)
        case atStart => exact ⟨0, Nat.zero_le _, rfl, Below.refl _ _⟩
        case round =>
          obtain ⟨n, hn, rfl, hbs⟩ := hrel
          by_cases hlt : n < 3
          · have hnI : (n : Int) < 3 := by omega
            have q0V := fun W (hW : Below wr.heap.size wr W) => q0W W (hbs.trans (hW.mono hbs.size))
            go_wp2_with fail
            by_cases heq : n = k
            · subst heq
              refine wp_region_plan (fun W => Below wr.heap.size wr W) (Plan.of [(0, true), (1, true), (2, true), (3, true), (4, true), (5, true), (6, true), (7, true), (8, true), (9, true), (10, true), (11, true), (12, true), (13, true), (14, true), (15, true), (16, true)] .done) (by kernel_rfl) (by kernel_rfl) (by kernel_rfl) (by kernel_rfl) (Below.refl _ _).drew ?_
              iterate 2
                first
                  | (refine plan_pass _ rfl (by rfl) ?_)
                  | (refine plan_take _ _ rfl (.inl ⟨by rfl, fun W hS => by clear hS; go_simp; try with_reducible rfl⟩) ?_)
                try simp only [Act.put, List.setIfInBounds_toArray, List.set_cons_zero, List.set_cons_succ]
              iterate 1
                first
                  | (refine plan_pass _ rfl (by rfl) ?_)
                  | (refine plan_take _ _ rfl (.inl ⟨by rfl, fun W hS => by have z1 := q0V W hS; go_simp; try with_reducible rfl⟩) ?_)
                try simp only [Act.put, List.setIfInBounds_toArray, List.set_cons_zero, List.set_cons_succ]
              refine plan_take _ (.int .i64 ((n : Int) + 1)) rfl (.inl ⟨by rfl, fun W hS => by clear hS; go_simp; try with_reducible rfl⟩) ?_
              try simp only [Act.put, List.setIfInBounds_toArray, List.set_cons_zero, List.set_cons_succ]
              refine plan_take _ (.int .i64 (n : Int)) rfl (.inl ⟨by rfl, fun W hS => by clear hS; go_simp; try with_reducible rfl⟩) ?_
              try simp only [Act.put, List.setIfInBounds_toArray, List.set_cons_zero, List.set_cons_succ]
              refine plan_take _ (.bool false) rfl (.inl ⟨by rfl, fun W hS => by clear hS; go_simp; try with_reducible rfl⟩) ?_
              try simp only [Act.put, List.setIfInBounds_toArray, List.set_cons_zero, List.set_cons_succ]
              iterate 11
                first
                  | (refine plan_pass _ rfl (by rfl) ?_)
                  | (refine plan_take _ _ rfl (.inl ⟨by rfl, fun W hS => by clear hS; go_simp; try with_reducible rfl⟩) ?_)
                try simp only [Act.put, List.setIfInBounds_toArray, List.set_cons_zero, List.set_cons_succ]
              refine plan_done ?_
              go_wp2_with fail
              go_roundw
              case rel => exact ⟨n + 1, by omega, by go_num, hbs.drew⟩
              case measure => simp [intOf]; omega
            · have hneI : ((n : Int) == (k : Int)) = false := by rw [beq_eq_false_iff_ne]; omega
              have hneP : ¬ ((n : Int) = (k : Int)) := by omega
              have hX := hlast ⟨n, hlt⟩ heq
              have hX1 := hB0.seq ⟨n, hlt⟩
              have hX2 := hB0.code ⟨n, hlt⟩
              have hX3 := hB0.rdata ⟨n, hlt⟩
              have hCr := fun W (hW : Below wr.heap.size wr W) => (hC.later (hbs.trans (hW.mono hbs.size))).last_at ⟨n, hlt⟩
              have hBr := fun W (hW : Below wr.heap.size wr W) => (hB.later (hbs.trans (hW.mono hbs.size))).last_at ⟨n, hlt⟩
              rw [hX] at hCr
              generalize B.last ⟨n, hlt⟩ = X at *
              refine wp_region_plan (fun W => Below wr.heap.size wr W) (Plan.of [(0, true), (1, true), (2, true), (3, true), (4, true), (5, true), (6, true), (7, true), (8, true), (9, true), (10, true), (11, true), (12, true), (13, true), (14, true), (15, true), (16, true)] .done) (by kernel_rfl) (by kernel_rfl) (by kernel_rfl) (by kernel_rfl) (Below.refl _ _).drew ?_
              iterate 2
                first
                  | (refine plan_pass _ rfl (by rfl) ?_)
                  | (refine plan_take _ _ rfl (.inl ⟨by rfl, fun W hS => by clear hS; go_simp; try with_reducible rfl⟩) ?_)
                try simp only [Act.put, List.setIfInBounds_toArray, List.set_cons_zero, List.set_cons_succ]
              iterate 1
                first
                  | (refine plan_pass _ rfl (by rfl) ?_)
                  | (refine plan_take _ _ rfl (.inl ⟨by rfl, fun W hS => by have z1 := q0V W hS; go_simp; try with_reducible rfl⟩) ?_)
                try simp only [Act.put, List.setIfInBounds_toArray, List.set_cons_zero, List.set_cons_succ]
              refine plan_take _ (.int .i64 ((k : Int) + 1)) rfl (.inl ⟨by rfl, fun W hS => by clear hS; go_simp; try with_reducible rfl⟩) ?_
              try simp only [Act.put, List.setIfInBounds_toArray, List.set_cons_zero, List.set_cons_succ]
              refine plan_take _ (.int .i64 (k : Int)) rfl (.inl ⟨by rfl, fun W hS => by clear hS; go_simp; try with_reducible rfl⟩) ?_
              try simp only [Act.put, List.setIfInBounds_toArray, List.set_cons_zero, List.set_cons_succ]
              refine plan_take _ (.bool true) rfl (.inl ⟨by rfl, fun W hS => by clear hS; go_simp; try with_reducible rfl⟩) ?_
              try simp only [Act.put, List.setIfInBounds_toArray, List.set_cons_zero, List.set_cons_succ]
              iterate 4
                first
                  | (refine plan_pass _ rfl (by rfl) ?_)
                  | (refine plan_take _ _ rfl (.inl ⟨by rfl, fun W hS => by clear hS; go_simp; try with_reducible rfl⟩) ?_)
                try simp only [Act.put, List.setIfInBounds_toArray, List.set_cons_zero, List.set_cons_succ]
              refine plan_take _ _ rfl (yieldsIf_load_mid (by rfl) 32 _ rfl gc (30 + n * 3) rfl (lastL X) _ hCr Try.underlying32 rfl (last_size X)) ?_
              try simp only [Act.put, List.setIfInBounds_toArray, List.set_cons_zero, List.set_cons_succ]
              iterate 3
                first
                  | (refine plan_pass _ rfl (by rfl) ?_)
                  | (refine plan_take _ _ rfl (.inl ⟨by rfl, fun W hS => by clear hS; go_simp; try with_reducible rfl⟩) ?_)
                try simp only [Act.put, List.setIfInBounds_toArray, List.set_cons_zero, List.set_cons_succ]
              refine plan_take _ _ rfl (yieldsIf_load_mid (by rfl) 32 _ rfl gb (30 + n * 3) rfl (lastL X) _ hBr Try.underlying32 rfl (last_size X)) ?_
              try simp only [Act.put, List.setIfInBounds_toArray, List.set_cons_zero, List.set_cons_succ]
              refine plan_take _ _ rfl (yields_bin_agg (by rfl) .neq 32 _ _ _ rfl (lastC X) (lastC X) rfl rfl (.bool false) guard_last (neq_last X hX1 hX2 hX3)) ?_
              try simp only [Act.put, List.setIfInBounds_toArray, List.set_cons_zero, List.set_cons_succ]
              iterate 1
                first
                  | (refine plan_pass _ rfl (by rfl) ?_)
                  | (refine plan_take _ _ rfl (.inl ⟨by rfl, fun W hS => by clear hS; go_simp; try with_reducible rfl⟩) ?_)
                try simp only [Act.put, List.setIfInBounds_toArray, List.set_cons_zero, List.set_cons_succ]
              refine plan_done ?_
              go_wp2_with fail
              go_roundw
              case rel => exact ⟨n + 1, by omega, by go_num, hbs.drew⟩
              case measure => simp [intOf]; omega
          · have e3 : n = 3 := by omega
            subst e3
            replace hB := hB.later hbs
            replace hC := hC.later hbs
            replace hr := hr.later hbs
            replace hb := hb.trans (hbs.mono hb.size)
            clear hlt hn q0W hlast
            have r0 := (hr.cell 0).trans (show (resC r)[0]? = some (.int .u8 (r.code : Int)) from rfl)
            have hrc := hC0.2.1
            by_cases hcd : r.code = 0
            · rw [hcd] at r0
              go_wp2_with fail
              go_ret
              exact ⟨rfl, hb⟩
            · have hX := hcode hcd
              have hcdI : ((r.code : Int) == 0) = false := by rw [beq_eq_false_iff_ne]; omega
              have hcdP : ¬ ((r.code : Int) = 0) := by omega
              have hCo := hC.objs_at
              have hBo := hB.objs_at
              rw [hX] at hCo
              have e5 := eq_objs B hB0
              have hsz := objs_size B.obj
              generalize r.code = rc' at *
              generalize objsL B.obj = L at *
              go_wp2_with (first
                | (refine wpList_load_mid' (by rfl) 27 _ rfl gc 0 rfl L _ ?hg Try.underlying27 rfl hsz ?_; (case hg => exact hCo))
                | (refine wpList_load_mid' (by rfl) 27 _ rfl gb 0 rfl L _ ?hg Try.underlying27 rfl hsz ?_; (case hg => exact hBo))
                | (refine wpList_bin_agg (by rfl) .eql 27 _ _ _ rfl L.toArray L.toArray rfl rfl (.bool true) guard_objs ?hg ?_; (case hg => exact e5 _)))
              go_ret
              exact ⟨rfl, hb⟩
end Go.Proofs.Ytjajfeplgilejaa
