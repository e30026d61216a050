/- The contract of the document's Accepted. -/
import Derived.Test.YthpmkhbkbpifkaaRefPro
namespace Go.Proofs.Ythpmkhbkbpifkaa
set_option linter.unusedSimpArgs false
set_option linter.unusedVariables false
set_option maxRecDepth 100000
open Go.RowKit

theorem at_lod {P : Program} {ops : Array Oper} {rest : List Oper} {d : Option Tmp} {t : TypeId} {p : String} {af : Array Edge} {gd : Option (Nat × Bool)} {a : Act} {w : World} {Q : Exit → Act → World → Prop} {u : TypeId} {x : Operand} (h : wpList P ops Q (⟨d, .load u x, t, p, af, gd⟩ :: rest) a w) : wpList P ops Q (⟨d, .load u x, t, p, af, gd⟩ :: rest) a w := h
theorem at_stx {P : Program} {ops : Array Oper} {rest : List Oper} {d : Option Tmp} {t : TypeId} {p : String} {af : Array Edge} {gd : Option (Nat × Bool)} {a : Act} {w : World} {Q : Exit → Act → World → Prop} {u : TypeId} {x y : Operand} (h : wpList P ops Q (⟨d, .store u x y, t, p, af, gd⟩ :: rest) a w) : wpList P ops Q (⟨d, .store u x y, t, p, af, gd⟩ :: rest) a w := h

set_option maxHeartbeats 8000000 in
theorem raccepted_any (r : Nat) (v : ProV) (j : Nat) (b : BalV) (w : World) (h : Has w r 34 (refpC v)) (hv : ProOk v) (hj : j < 256) (hb : BalOk b) :
    Calls Try.prog 15 #[.pointer (some ⟨r, 0, none⟩), .int .u8 (j : Int), .agg (balC b)] w fun e w' => e = .returned (.bool (accdM v j b).2) ∧ Has w' r 34 (refpC (accdM v j b).1) ∧ But r w w' := by
  obtain ⟨w1, hw1, hB, hbw⟩ := one_var w 31 (balC b)
  have hlt := h.lt
  have hA := h.later hbw
  go_enter Try.func15, Try.ntmps15
  go_wp2
  clear hw1
  cases c1 : sameBal v.b bal0 with
  | true =>
    have hd : deafA v j b = true := by unfold deafA; simp [c1]
    have hP : Hid (accdM v j b = (v, false)) := by show _ = _; unfold accdM; rw [if_pos hd]
    clear hd
    refine wp_region_plan (fun W => (Has W r 34 (refpC v) ∧ Has W w.heap.size 31 (balC b)) ∧ Below w.heap.size w W) (Plan.of [(0, true), (1, true), (2, true), (3, true), (4, true), (5, true), (6, true), (7, true), (8, true), (9, true), (10, true), (11, true), (12, true), (13, true), (14, true), (15, true), (16, true), (17, true), (18, true), (19, true), (20, true), (21, true), (22, true), (23, true), (24, true), (25, true), (26, true), (27, true), (28, true), (29, true), (30, true), (31, true), (32, true)] .done) (by kernel_rfl) (by kernel_rfl) (by kernel_rfl) (by kernel_rfl) ⟨⟨hA.drew, hB.drew⟩, hbw.drew⟩ ?_
    iterate 3
      first
        | (refine plan_pass _ rfl (by rfl) ?_)
        | (refine plan_take _ _ rfl (.inl ⟨by rfl, fun W hS => by clear hS; go_simp; try with_reducible rfl⟩) ?_)
      try simp only [Act.put, List.setIfInBounds_toArray, List.set_cons_zero, List.set_cons_succ]
    refine plan_take _ _ rfl (yields_bal_mid v.b (by rfl) _ rfl r 4 rfl (fun _ h => rp_b h.1.1)) ?_
    try simp only [Act.put, List.setIfInBounds_toArray, List.set_cons_zero, List.set_cons_succ]
    refine plan_take _ _ rfl (yields_build_bal0 (by rfl) rfl) ?_
    try simp only [Act.put, List.setIfInBounds_toArray, List.set_cons_zero, List.set_cons_succ]
    refine plan_take _ _ rfl (yields_bal_eq v.b bal0 hv.b bal0_ok (by rfl) _ _ _ rfl rfl rfl) ?_
    try simp only [Act.put, List.setIfInBounds_toArray, List.set_cons_zero, List.set_cons_succ]
    rw [c1]
    iterate 1
      first
        | (refine plan_pass _ rfl (by rfl) ?_)
        | (refine plan_take _ _ rfl (.inl ⟨by rfl, fun W hS => by clear hS; go_simp; try with_reducible rfl⟩) ?_)
      try simp only [Act.put, List.setIfInBounds_toArray, List.set_cons_zero, List.set_cons_succ]
    iterate 26
      first
        | (refine plan_pass _ rfl (by rfl) ?_)
        | (refine plan_take _ _ rfl (.inl ⟨by rfl, fun W hS => by clear hS; go_simp; try with_reducible rfl⟩) ?_)
      try simp only [Act.put, List.setIfInBounds_toArray, List.set_cons_zero, List.set_cons_succ]
    refine plan_done ?_
    have hA2 := hA.drew
    have hw2 := hbw.drew
    clear hA hB hbw
    generalize w1.drew = w2 at *
    go_wp2
    go_ret
    exact ⟨by rw [hP.out]; rfl, by rw [hP.out]; exact hA2, But.of hw2⟩
  | false =>
    cases c2 : sameBal b v.b with
    | false =>
      have hd : deafA v j b = true := by unfold deafA; simp [c1, c2]
      have hP : Hid (accdM v j b = (v, false)) := by show _ = _; unfold accdM; rw [if_pos hd]
      clear hd
      refine wp_region_plan (fun W => (Has W r 34 (refpC v) ∧ Has W w.heap.size 31 (balC b)) ∧ Below w.heap.size w W) (Plan.of [(0, true), (1, true), (2, true), (3, true), (4, true), (5, true), (6, true), (7, true), (8, true), (9, true), (10, true), (11, true), (12, true), (13, true), (14, true), (15, true), (16, true), (17, true), (18, true), (19, true), (20, true), (21, true), (22, true), (23, true), (24, true), (25, true), (26, true), (27, true), (28, true), (29, true), (30, true), (31, true), (32, true)] .done) (by kernel_rfl) (by kernel_rfl) (by kernel_rfl) (by kernel_rfl) ⟨⟨hA.drew, hB.drew⟩, hbw.drew⟩ ?_
      iterate 3
        first
          | (refine plan_pass _ rfl (by rfl) ?_)
          | (refine plan_take _ _ rfl (.inl ⟨by rfl, fun W hS => by clear hS; go_simp; try with_reducible rfl⟩) ?_)
        try simp only [Act.put, List.setIfInBounds_toArray, List.set_cons_zero, List.set_cons_succ]
      refine plan_take _ _ rfl (yields_bal_mid v.b (by rfl) _ rfl r 4 rfl (fun _ h => rp_b h.1.1)) ?_
      try simp only [Act.put, List.setIfInBounds_toArray, List.set_cons_zero, List.set_cons_succ]
      refine plan_take _ _ rfl (yields_build_bal0 (by rfl) rfl) ?_
      try simp only [Act.put, List.setIfInBounds_toArray, List.set_cons_zero, List.set_cons_succ]
      refine plan_take _ _ rfl (yields_bal_eq v.b bal0 hv.b bal0_ok (by rfl) _ _ _ rfl rfl rfl) ?_
      try simp only [Act.put, List.setIfInBounds_toArray, List.set_cons_zero, List.set_cons_succ]
      rw [c1]
      iterate 1
        first
          | (refine plan_pass _ rfl (by rfl) ?_)
          | (refine plan_take _ _ rfl (.inl ⟨by rfl, fun W hS => by clear hS; go_simp; try with_reducible rfl⟩) ?_)
        try simp only [Act.put, List.setIfInBounds_toArray, List.set_cons_zero, List.set_cons_succ]
      refine plan_take _ _ rfl (yields_bal b (by rfl) _ rfl w.heap.size rfl (fun _ h => h.1.2)) ?_
      try simp only [Act.put, List.setIfInBounds_toArray, List.set_cons_zero, List.set_cons_succ]
      iterate 3
        first
          | (refine plan_pass _ rfl (by rfl) ?_)
          | (refine plan_take _ _ rfl (.inl ⟨by rfl, fun W hS => by clear hS; go_simp; try with_reducible rfl⟩) ?_)
        try simp only [Act.put, List.setIfInBounds_toArray, List.set_cons_zero, List.set_cons_succ]
      refine plan_take _ _ rfl (yields_bal_mid v.b (by rfl) _ rfl r 4 rfl (fun _ h => rp_b h.1.1)) ?_
      try simp only [Act.put, List.setIfInBounds_toArray, List.set_cons_zero, List.set_cons_succ]
      refine plan_take _ _ rfl (yields_bal_ne b v.b hb hv.b (by rfl) _ _ _ rfl rfl rfl) ?_
      try simp only [Act.put, List.setIfInBounds_toArray, List.set_cons_zero, List.set_cons_succ]
      rw [c2]
      iterate 20
        first
          | (refine plan_pass _ rfl (by rfl) ?_)
          | (refine plan_take _ _ rfl (.inl ⟨by rfl, fun W hS => by clear hS; go_simp; try with_reducible rfl⟩) ?_)
        try simp only [Act.put, List.setIfInBounds_toArray, List.set_cons_zero, List.set_cons_succ]
      refine plan_done ?_
      have hA2 := hA.drew
      have hw2 := hbw.drew
      clear hA hB hbw
      generalize w1.drew = w2 at *
      go_wp2
      go_ret
      exact ⟨by rw [hP.out]; rfl, by rw [hP.out]; exact hA2, But.of hw2⟩
    | true =>
      by_cases c3 : j < 3
      · cases c4 : v.accd j with
        | true =>
          have hd : deafA v j b = true := by unfold deafA; simp [c1, c2, c4]
          have hP : Hid (accdM v j b = (v, false)) := by show _ = _; unfold accdM; rw [if_pos hd]
          clear hd
          have c3I : (j : Int) < 3 := by omega
          refine wp_region_plan (fun W => (Has W r 34 (refpC v) ∧ Has W w.heap.size 31 (balC b)) ∧ Below w.heap.size w W) (Plan.of [(0, true), (1, true), (2, true), (3, true), (4, true), (5, true), (6, true), (7, true), (8, true), (9, true), (10, true), (11, true), (12, true), (13, true), (14, true), (15, true), (16, true), (17, true), (18, true), (19, true), (20, true), (21, true), (22, true), (23, true), (24, true), (25, true), (26, true), (27, true), (28, true), (29, true), (30, true), (31, true), (32, true)] .done) (by kernel_rfl) (by kernel_rfl) (by kernel_rfl) (by kernel_rfl) ⟨⟨hA.drew, hB.drew⟩, hbw.drew⟩ ?_
          iterate 3
            first
              | (refine plan_pass _ rfl (by rfl) ?_)
              | (refine plan_take _ _ rfl (.inl ⟨by rfl, fun W hS => by clear hS; go_simp; try with_reducible rfl⟩) ?_)
            try simp only [Act.put, List.setIfInBounds_toArray, List.set_cons_zero, List.set_cons_succ]
          refine plan_take _ _ rfl (yields_bal_mid v.b (by rfl) _ rfl r 4 rfl (fun _ h => rp_b h.1.1)) ?_
          try simp only [Act.put, List.setIfInBounds_toArray, List.set_cons_zero, List.set_cons_succ]
          refine plan_take _ _ rfl (yields_build_bal0 (by rfl) rfl) ?_
          try simp only [Act.put, List.setIfInBounds_toArray, List.set_cons_zero, List.set_cons_succ]
          refine plan_take _ _ rfl (yields_bal_eq v.b bal0 hv.b bal0_ok (by rfl) _ _ _ rfl rfl rfl) ?_
          try simp only [Act.put, List.setIfInBounds_toArray, List.set_cons_zero, List.set_cons_succ]
          rw [c1]
          iterate 1
            first
              | (refine plan_pass _ rfl (by rfl) ?_)
              | (refine plan_take _ _ rfl (.inl ⟨by rfl, fun W hS => by clear hS; go_simp; try with_reducible rfl⟩) ?_)
            try simp only [Act.put, List.setIfInBounds_toArray, List.set_cons_zero, List.set_cons_succ]
          refine plan_take _ _ rfl (yields_bal b (by rfl) _ rfl w.heap.size rfl (fun _ h => h.1.2)) ?_
          try simp only [Act.put, List.setIfInBounds_toArray, List.set_cons_zero, List.set_cons_succ]
          iterate 3
            first
              | (refine plan_pass _ rfl (by rfl) ?_)
              | (refine plan_take _ _ rfl (.inl ⟨by rfl, fun W hS => by clear hS; go_simp; try with_reducible rfl⟩) ?_)
            try simp only [Act.put, List.setIfInBounds_toArray, List.set_cons_zero, List.set_cons_succ]
          refine plan_take _ _ rfl (yields_bal_mid v.b (by rfl) _ rfl r 4 rfl (fun _ h => rp_b h.1.1)) ?_
          try simp only [Act.put, List.setIfInBounds_toArray, List.set_cons_zero, List.set_cons_succ]
          refine plan_take _ _ rfl (yields_bal_ne b v.b hb hv.b (by rfl) _ _ _ rfl rfl rfl) ?_
          try simp only [Act.put, List.setIfInBounds_toArray, List.set_cons_zero, List.set_cons_succ]
          rw [c2]
          iterate 3
            first
              | (refine plan_pass _ rfl (by rfl) ?_)
              | (refine plan_take _ _ rfl (.inl ⟨by rfl, fun W hS => by clear hS; go_simp; try with_reducible rfl⟩) ?_)
            try simp only [Act.put, List.setIfInBounds_toArray, List.set_cons_zero, List.set_cons_succ]
          refine plan_take _ (.bool false) rfl (.inl ⟨by rfl, fun W hS => by clear hS; go_simp; try omega⟩) ?_
          try simp only [Act.put, List.setIfInBounds_toArray, List.set_cons_zero, List.set_cons_succ]
          iterate 6
            first
              | (refine plan_pass _ rfl (by rfl) ?_)
              | (refine plan_take _ _ rfl (.inl ⟨by rfl, fun W hS => by clear hS; go_simp; try with_reducible rfl⟩) ?_)
            try simp only [Act.put, List.setIfInBounds_toArray, List.set_cons_zero, List.set_cons_succ]
          refine plan_take _ (.pointer (some ⟨r, 19 + j, none⟩)) rfl (.inl ⟨by rfl, fun W hS => by clear hS; go_simp; try with_reducible rfl⟩) ?_
          try simp only [Act.put, List.setIfInBounds_toArray, List.set_cons_zero, List.set_cons_succ]
          iterate 1
            first
              | (refine plan_pass _ rfl (by rfl) ?_)
              | (refine plan_take _ _ rfl (.inl ⟨by rfl, fun W hS => by have z := rp_accd hS.1.1 j c3; go_simp; try with_reducible rfl⟩) ?_)
            try simp only [Act.put, List.setIfInBounds_toArray, List.set_cons_zero, List.set_cons_succ]
          iterate 8
            first
              | (refine plan_pass _ rfl (by rfl) ?_)
              | (refine plan_take _ _ rfl (.inl ⟨by rfl, fun W hS => by clear hS; go_simp; try with_reducible rfl⟩) ?_)
            try simp only [Act.put, List.setIfInBounds_toArray, List.set_cons_zero, List.set_cons_succ]
          refine plan_done ?_
          have hA2 := hA.drew
          have hw2 := hbw.drew
          clear hA hB hbw
          generalize w1.drew = w2 at *
          go_wp2
          go_ret
          exact ⟨by rw [hP.out]; rfl, by rw [hP.out]; exact hA2, But.of hw2⟩
        | false =>
          cases c5 : v.hasV with
          | false =>
            have hd : deafA v j b = true := by unfold deafA; simp [c1, c2, c3, c4, c5]
            have hP : Hid (accdM v j b = (v, false)) := by show _ = _; unfold accdM; rw [if_pos hd]
            clear hd
            have c3I : (j : Int) < 3 := by omega
            refine wp_region_plan (fun W => (Has W r 34 (refpC v) ∧ Has W w.heap.size 31 (balC b)) ∧ Below w.heap.size w W) (Plan.of [(0, true), (1, true), (2, true), (3, true), (4, true), (5, true), (6, true), (7, true), (8, true), (9, true), (10, true), (11, true), (12, true), (13, true), (14, true), (15, true), (16, true), (17, true), (18, true), (19, true), (20, true), (21, true), (22, true), (23, true), (24, true), (25, true), (26, true), (27, true), (28, true), (29, true), (30, true), (31, true), (32, true)] .done) (by kernel_rfl) (by kernel_rfl) (by kernel_rfl) (by kernel_rfl) ⟨⟨hA.drew, hB.drew⟩, hbw.drew⟩ ?_
            iterate 3
              first
                | (refine plan_pass _ rfl (by rfl) ?_)
                | (refine plan_take _ _ rfl (.inl ⟨by rfl, fun W hS => by clear hS; go_simp; try with_reducible rfl⟩) ?_)
              try simp only [Act.put, List.setIfInBounds_toArray, List.set_cons_zero, List.set_cons_succ]
            refine plan_take _ _ rfl (yields_bal_mid v.b (by rfl) _ rfl r 4 rfl (fun _ h => rp_b h.1.1)) ?_
            try simp only [Act.put, List.setIfInBounds_toArray, List.set_cons_zero, List.set_cons_succ]
            refine plan_take _ _ rfl (yields_build_bal0 (by rfl) rfl) ?_
            try simp only [Act.put, List.setIfInBounds_toArray, List.set_cons_zero, List.set_cons_succ]
            refine plan_take _ _ rfl (yields_bal_eq v.b bal0 hv.b bal0_ok (by rfl) _ _ _ rfl rfl rfl) ?_
            try simp only [Act.put, List.setIfInBounds_toArray, List.set_cons_zero, List.set_cons_succ]
            rw [c1]
            iterate 1
              first
                | (refine plan_pass _ rfl (by rfl) ?_)
                | (refine plan_take _ _ rfl (.inl ⟨by rfl, fun W hS => by clear hS; go_simp; try with_reducible rfl⟩) ?_)
              try simp only [Act.put, List.setIfInBounds_toArray, List.set_cons_zero, List.set_cons_succ]
            refine plan_take _ _ rfl (yields_bal b (by rfl) _ rfl w.heap.size rfl (fun _ h => h.1.2)) ?_
            try simp only [Act.put, List.setIfInBounds_toArray, List.set_cons_zero, List.set_cons_succ]
            iterate 3
              first
                | (refine plan_pass _ rfl (by rfl) ?_)
                | (refine plan_take _ _ rfl (.inl ⟨by rfl, fun W hS => by clear hS; go_simp; try with_reducible rfl⟩) ?_)
              try simp only [Act.put, List.setIfInBounds_toArray, List.set_cons_zero, List.set_cons_succ]
            refine plan_take _ _ rfl (yields_bal_mid v.b (by rfl) _ rfl r 4 rfl (fun _ h => rp_b h.1.1)) ?_
            try simp only [Act.put, List.setIfInBounds_toArray, List.set_cons_zero, List.set_cons_succ]
            refine plan_take _ _ rfl (yields_bal_ne b v.b hb hv.b (by rfl) _ _ _ rfl rfl rfl) ?_
            try simp only [Act.put, List.setIfInBounds_toArray, List.set_cons_zero, List.set_cons_succ]
            rw [c2]
            iterate 3
              first
                | (refine plan_pass _ rfl (by rfl) ?_)
                | (refine plan_take _ _ rfl (.inl ⟨by rfl, fun W hS => by clear hS; go_simp; try with_reducible rfl⟩) ?_)
              try simp only [Act.put, List.setIfInBounds_toArray, List.set_cons_zero, List.set_cons_succ]
            refine plan_take _ (.bool false) rfl (.inl ⟨by rfl, fun W hS => by clear hS; go_simp; try omega⟩) ?_
            try simp only [Act.put, List.setIfInBounds_toArray, List.set_cons_zero, List.set_cons_succ]
            iterate 6
              first
                | (refine plan_pass _ rfl (by rfl) ?_)
                | (refine plan_take _ _ rfl (.inl ⟨by rfl, fun W hS => by clear hS; go_simp; try with_reducible rfl⟩) ?_)
              try simp only [Act.put, List.setIfInBounds_toArray, List.set_cons_zero, List.set_cons_succ]
            refine plan_take _ (.pointer (some ⟨r, 19 + j, none⟩)) rfl (.inl ⟨by rfl, fun W hS => by clear hS; go_simp; try with_reducible rfl⟩) ?_
            try simp only [Act.put, List.setIfInBounds_toArray, List.set_cons_zero, List.set_cons_succ]
            iterate 1
              first
                | (refine plan_pass _ rfl (by rfl) ?_)
                | (refine plan_take _ _ rfl (.inl ⟨by rfl, fun W hS => by have z := rp_accd hS.1.1 j c3; go_simp; try with_reducible rfl⟩) ?_)
              try simp only [Act.put, List.setIfInBounds_toArray, List.set_cons_zero, List.set_cons_succ]
            iterate 5
              first
                | (refine plan_pass _ rfl (by rfl) ?_)
                | (refine plan_take _ _ rfl (.inl ⟨by rfl, fun W hS => by clear hS; go_simp; try with_reducible rfl⟩) ?_)
              try simp only [Act.put, List.setIfInBounds_toArray, List.set_cons_zero, List.set_cons_succ]
            iterate 1
              first
                | (refine plan_pass _ rfl (by rfl) ?_)
                | (refine plan_take _ _ rfl (.inl ⟨by rfl, fun W hS => by have z := rp_hasV hS.1.1; go_simp; try with_reducible rfl⟩) ?_)
              try simp only [Act.put, List.setIfInBounds_toArray, List.set_cons_zero, List.set_cons_succ]
            iterate 2
              first
                | (refine plan_pass _ rfl (by rfl) ?_)
                | (refine plan_take _ _ rfl (.inl ⟨by rfl, fun W hS => by clear hS; go_simp; try with_reducible rfl⟩) ?_)
              try simp only [Act.put, List.setIfInBounds_toArray, List.set_cons_zero, List.set_cons_succ]
            refine plan_done ?_
            have hA2 := hA.drew
            have hw2 := hbw.drew
            clear hA hB hbw
            generalize w1.drew = w2 at *
            go_wp2
            go_ret
            exact ⟨by rw [hP.out]; rfl, by rw [hP.out]; exact hA2, But.of hw2⟩
          | true =>
            have hd : deafA v j b = false := by unfold deafA; simp [c1, c2, c4, c5]; try omega
            have c3I : (j : Int) < 3 := by omega
            refine wp_region_plan (fun W => (Has W r 34 (refpC v) ∧ Has W w.heap.size 31 (balC b)) ∧ Below w.heap.size w W) (Plan.of [(0, true), (1, true), (2, true), (3, true), (4, true), (5, true), (6, true), (7, true), (8, true), (9, true), (10, true), (11, true), (12, true), (13, true), (14, true), (15, true), (16, true), (17, true), (18, true), (19, true), (20, true), (21, true), (22, true), (23, true), (24, true), (25, true), (26, true), (27, true), (28, true), (29, true), (30, true), (31, true), (32, true)] .done) (by kernel_rfl) (by kernel_rfl) (by kernel_rfl) (by kernel_rfl) ⟨⟨hA.drew, hB.drew⟩, hbw.drew⟩ ?_
            iterate 3
              first
                | (refine plan_pass _ rfl (by rfl) ?_)
                | (refine plan_take _ _ rfl (.inl ⟨by rfl, fun W hS => by clear hS; go_simp; try with_reducible rfl⟩) ?_)
              try simp only [Act.put, List.setIfInBounds_toArray, List.set_cons_zero, List.set_cons_succ]
            refine plan_take _ _ rfl (yields_bal_mid v.b (by rfl) _ rfl r 4 rfl (fun _ h => rp_b h.1.1)) ?_
            try simp only [Act.put, List.setIfInBounds_toArray, List.set_cons_zero, List.set_cons_succ]
            refine plan_take _ _ rfl (yields_build_bal0 (by rfl) rfl) ?_
            try simp only [Act.put, List.setIfInBounds_toArray, List.set_cons_zero, List.set_cons_succ]
            refine plan_take _ _ rfl (yields_bal_eq v.b bal0 hv.b bal0_ok (by rfl) _ _ _ rfl rfl rfl) ?_
            try simp only [Act.put, List.setIfInBounds_toArray, List.set_cons_zero, List.set_cons_succ]
            rw [c1]
            iterate 1
              first
                | (refine plan_pass _ rfl (by rfl) ?_)
                | (refine plan_take _ _ rfl (.inl ⟨by rfl, fun W hS => by clear hS; go_simp; try with_reducible rfl⟩) ?_)
              try simp only [Act.put, List.setIfInBounds_toArray, List.set_cons_zero, List.set_cons_succ]
            refine plan_take _ _ rfl (yields_bal b (by rfl) _ rfl w.heap.size rfl (fun _ h => h.1.2)) ?_
            try simp only [Act.put, List.setIfInBounds_toArray, List.set_cons_zero, List.set_cons_succ]
            iterate 3
              first
                | (refine plan_pass _ rfl (by rfl) ?_)
                | (refine plan_take _ _ rfl (.inl ⟨by rfl, fun W hS => by clear hS; go_simp; try with_reducible rfl⟩) ?_)
              try simp only [Act.put, List.setIfInBounds_toArray, List.set_cons_zero, List.set_cons_succ]
            refine plan_take _ _ rfl (yields_bal_mid v.b (by rfl) _ rfl r 4 rfl (fun _ h => rp_b h.1.1)) ?_
            try simp only [Act.put, List.setIfInBounds_toArray, List.set_cons_zero, List.set_cons_succ]
            refine plan_take _ _ rfl (yields_bal_ne b v.b hb hv.b (by rfl) _ _ _ rfl rfl rfl) ?_
            try simp only [Act.put, List.setIfInBounds_toArray, List.set_cons_zero, List.set_cons_succ]
            rw [c2]
            iterate 3
              first
                | (refine plan_pass _ rfl (by rfl) ?_)
                | (refine plan_take _ _ rfl (.inl ⟨by rfl, fun W hS => by clear hS; go_simp; try with_reducible rfl⟩) ?_)
              try simp only [Act.put, List.setIfInBounds_toArray, List.set_cons_zero, List.set_cons_succ]
            refine plan_take _ (.bool false) rfl (.inl ⟨by rfl, fun W hS => by clear hS; go_simp; try omega⟩) ?_
            try simp only [Act.put, List.setIfInBounds_toArray, List.set_cons_zero, List.set_cons_succ]
            iterate 6
              first
                | (refine plan_pass _ rfl (by rfl) ?_)
                | (refine plan_take _ _ rfl (.inl ⟨by rfl, fun W hS => by clear hS; go_simp; try with_reducible rfl⟩) ?_)
              try simp only [Act.put, List.setIfInBounds_toArray, List.set_cons_zero, List.set_cons_succ]
            refine plan_take _ (.pointer (some ⟨r, 19 + j, none⟩)) rfl (.inl ⟨by rfl, fun W hS => by clear hS; go_simp; try with_reducible rfl⟩) ?_
            try simp only [Act.put, List.setIfInBounds_toArray, List.set_cons_zero, List.set_cons_succ]
            iterate 1
              first
                | (refine plan_pass _ rfl (by rfl) ?_)
                | (refine plan_take _ _ rfl (.inl ⟨by rfl, fun W hS => by have z := rp_accd hS.1.1 j c3; go_simp; try with_reducible rfl⟩) ?_)
              try simp only [Act.put, List.setIfInBounds_toArray, List.set_cons_zero, List.set_cons_succ]
            iterate 5
              first
                | (refine plan_pass _ rfl (by rfl) ?_)
                | (refine plan_take _ _ rfl (.inl ⟨by rfl, fun W hS => by clear hS; go_simp; try with_reducible rfl⟩) ?_)
              try simp only [Act.put, List.setIfInBounds_toArray, List.set_cons_zero, List.set_cons_succ]
            iterate 1
              first
                | (refine plan_pass _ rfl (by rfl) ?_)
                | (refine plan_take _ _ rfl (.inl ⟨by rfl, fun W hS => by have z := rp_hasV hS.1.1; go_simp; try with_reducible rfl⟩) ?_)
              try simp only [Act.put, List.setIfInBounds_toArray, List.set_cons_zero, List.set_cons_succ]
            iterate 2
              first
                | (refine plan_pass _ rfl (by rfl) ?_)
                | (refine plan_take _ _ rfl (.inl ⟨by rfl, fun W hS => by clear hS; go_simp; try with_reducible rfl⟩) ?_)
              try simp only [Act.put, List.setIfInBounds_toArray, List.set_cons_zero, List.set_cons_succ]
            refine plan_done ?_
            have hA2 := hA.drew
            have hw2 := hbw.drew
            clear hA hB hbw
            generalize w1.drew = w2 at *
            have hP : accdM v j b = if cnt (setB v.accd j) < 2 ∨ v.told = true then ({ v with accd := setB v.accd j }, false) else ({ v with accd := setB v.accd j, told := true, dec := v.value, hasD := true }, true) := by unfold accdM; rw [if_neg (by rw [hd]; decide)]
            replace hP : Hid _ := hP
            have z := rp_accd hA2 j c3
            have zf := hA2.free (19 + j)
            have hA3 := hA2.rp_setAccd j c3
            have hq3 := (But.of (p := r) hw2).trans (but_setCells (w := w2) (p := r) [.bool true] (19 + j))
            have hRa := rp_accds hA3
            rw [c4] at z
            clear c1 c2 c4 c5 hd
            go_wp2_with ((with_reducible refine at_lod ?_); (refine wpList_load_mid' (by rfl) 32 _ rfl r 19 rfl (b3C (setB v.accd j)).toList _ ?hg Try.underlying32 rfl (b3_size _) ?_; (case hg => exact hRa)))
            refine (rcount_any (setB v.accd j) _).mono ?_
            rintro e w4 ⟨rfl, hq⟩
            clear z zf hRa hA2
            replace hA3 := hA3.later hq
            replace hq3 := hq3.trans (But.of (p := r) hq)
            clear hq
            have zt := rp_told hA3
            by_cases hc : cnt (setB v.accd j) < 2
            · have hcI : ((cnt (setB v.accd j) : Nat) : Int) < 2 := by omega
              rw [if_pos (.inl hc)] at hP
              generalize cnt (setB v.accd j) = q at *
              go_wp2
              go_ret
              exact ⟨by rw [hP.out]; rfl, by rw [hP.out]; exact hA3, hq3⟩
            · have hcI : ¬ ((cnt (setB v.accd j) : Nat) : Int) < 2 := by omega
              have hcI2 : (2 : Int) ≤ ((cnt (setB v.accd j) : Nat) : Int) := by omega
              cases ht : v.told with
              | true =>
                rw [if_pos (.inr ht)] at hP
                replace zt := zt.trans (show some (Value.bool v.told) = some (.bool true) by rw [ht])
                generalize cnt (setB v.accd j) = q at *
                clear ht
                go_wp2
                go_ret
                exact ⟨by rw [hP.out]; rfl, by rw [hP.out]; exact hA3, hq3⟩
              | false =>
                rw [if_neg (by rw [ht]; rintro (q | q); exact hc q; cases q)] at hP
                replace zt := zt.trans (show some (Value.bool v.told) = some (.bool false) by rw [ht])
                generalize cnt (setB v.accd j) = q at *
                clear ht
                have hV := rp_value hA3
                have zf := hA3.free 22
                have hA4 := hA3.rp_setTold
                have tD : Hid (World.there (w4.setCell ⟨r, 22, none⟩ (.bool true)) r 23 (incC v.value).size) := hA4.there 23 3 (by show 23 + 3 ≤ 27; decide)
                have hA5 := hA4.rp_setDec v.value
                have zd := rp_hasD hA5
                have zdf := hA5.free 26
                have hA6 := hA5.rp_setHasD
                have hq6 := hq3.trans ((but_setCells (w := w4) (p := r) [.bool true] 22).trans ((but_setCells (p := r) (incC v.value).toList 23).trans (but_setCells (p := r) [.bool true] 26)))
                go_wp2_with (first
                  | ((with_reducible refine at_lod ?_); (refine wpList_load_mid' (by rfl) 23 _ rfl r 15 rfl (incC v.value).toList _ ?hg Try.underlying23 rfl (inc_size _) ?_; (case hg => exact hV)))
                  | ((with_reducible refine at_stx ?_); (refine wpList_store_mid' (by rfl) 23 _ _ rfl r 23 (incC v.value) rfl rfl ?hg (inc_size _) (inc_one _) ?_; (case hg => exact tD.out))))
                go_ret
                exact ⟨by rw [hP.out]; rfl, by rw [hP.out]; exact hA6, hq6⟩
      · have hd : deafA v j b = true := by unfold deafA; simp [c1, c2, show 3 ≤ j by omega]; try omega
        have hP : Hid (accdM v j b = (v, false)) := by show _ = _; unfold accdM; rw [if_pos hd]
        clear hd
        refine wp_region_plan (fun W => (Has W r 34 (refpC v) ∧ Has W w.heap.size 31 (balC b)) ∧ Below w.heap.size w W) (Plan.of [(0, true), (1, true), (2, true), (3, true), (4, true), (5, true), (6, true), (7, true), (8, true), (9, true), (10, true), (11, true), (12, true), (13, true), (14, true), (15, true), (16, true), (17, true), (18, true), (19, true), (20, true), (21, true), (22, true), (23, true), (24, true), (25, true), (26, true), (27, true), (28, true), (29, true), (30, true), (31, true), (32, true)] .done) (by kernel_rfl) (by kernel_rfl) (by kernel_rfl) (by kernel_rfl) ⟨⟨hA.drew, hB.drew⟩, hbw.drew⟩ ?_
        iterate 3
          first
            | (refine plan_pass _ rfl (by rfl) ?_)
            | (refine plan_take _ _ rfl (.inl ⟨by rfl, fun W hS => by clear hS; go_simp; try with_reducible rfl⟩) ?_)
          try simp only [Act.put, List.setIfInBounds_toArray, List.set_cons_zero, List.set_cons_succ]
        refine plan_take _ _ rfl (yields_bal_mid v.b (by rfl) _ rfl r 4 rfl (fun _ h => rp_b h.1.1)) ?_
        try simp only [Act.put, List.setIfInBounds_toArray, List.set_cons_zero, List.set_cons_succ]
        refine plan_take _ _ rfl (yields_build_bal0 (by rfl) rfl) ?_
        try simp only [Act.put, List.setIfInBounds_toArray, List.set_cons_zero, List.set_cons_succ]
        refine plan_take _ _ rfl (yields_bal_eq v.b bal0 hv.b bal0_ok (by rfl) _ _ _ rfl rfl rfl) ?_
        try simp only [Act.put, List.setIfInBounds_toArray, List.set_cons_zero, List.set_cons_succ]
        rw [c1]
        iterate 1
          first
            | (refine plan_pass _ rfl (by rfl) ?_)
            | (refine plan_take _ _ rfl (.inl ⟨by rfl, fun W hS => by clear hS; go_simp; try with_reducible rfl⟩) ?_)
          try simp only [Act.put, List.setIfInBounds_toArray, List.set_cons_zero, List.set_cons_succ]
        refine plan_take _ _ rfl (yields_bal b (by rfl) _ rfl w.heap.size rfl (fun _ h => h.1.2)) ?_
        try simp only [Act.put, List.setIfInBounds_toArray, List.set_cons_zero, List.set_cons_succ]
        iterate 3
          first
            | (refine plan_pass _ rfl (by rfl) ?_)
            | (refine plan_take _ _ rfl (.inl ⟨by rfl, fun W hS => by clear hS; go_simp; try with_reducible rfl⟩) ?_)
          try simp only [Act.put, List.setIfInBounds_toArray, List.set_cons_zero, List.set_cons_succ]
        refine plan_take _ _ rfl (yields_bal_mid v.b (by rfl) _ rfl r 4 rfl (fun _ h => rp_b h.1.1)) ?_
        try simp only [Act.put, List.setIfInBounds_toArray, List.set_cons_zero, List.set_cons_succ]
        refine plan_take _ _ rfl (yields_bal_ne b v.b hb hv.b (by rfl) _ _ _ rfl rfl rfl) ?_
        try simp only [Act.put, List.setIfInBounds_toArray, List.set_cons_zero, List.set_cons_succ]
        rw [c2]
        iterate 3
          first
            | (refine plan_pass _ rfl (by rfl) ?_)
            | (refine plan_take _ _ rfl (.inl ⟨by rfl, fun W hS => by clear hS; go_simp; try with_reducible rfl⟩) ?_)
          try simp only [Act.put, List.setIfInBounds_toArray, List.set_cons_zero, List.set_cons_succ]
        refine plan_take _ (.bool true) rfl (.inl ⟨by rfl, fun W hS => by clear hS; go_simp; try omega⟩) ?_
        try simp only [Act.put, List.setIfInBounds_toArray, List.set_cons_zero, List.set_cons_succ]
        iterate 16
          first
            | (refine plan_pass _ rfl (by rfl) ?_)
            | (refine plan_take _ _ rfl (.inl ⟨by rfl, fun W hS => by clear hS; go_simp; try with_reducible rfl⟩) ?_)
          try simp only [Act.put, List.setIfInBounds_toArray, List.set_cons_zero, List.set_cons_succ]
        refine plan_done ?_
        have hA2 := hA.drew
        have hw2 := hbw.drew
        clear hA hB hbw
        generalize w1.drew = w2 at *
        go_wp2
        go_ret
        exact ⟨by rw [hP.out]; rfl, by rw [hP.out]; exact hA2, But.of hw2⟩
end Go.Proofs.Ythpmkhbkbpifkaa
