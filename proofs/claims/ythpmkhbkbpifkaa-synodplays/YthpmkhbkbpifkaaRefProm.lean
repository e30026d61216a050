/- The contract of the document's Promise. -/
import Derived.Test.YthpmkhbkbpifkaaRefAcc
namespace Go.Proofs.Ythpmkhbkbpifkaa
set_option linter.unusedSimpArgs false
set_option linter.unusedVariables false
set_option maxRecDepth 100000
open Go.RowKit

theorem rless_any (a b : BalV) (w : World) (ha : BalOk a) (hb : BalOk b) :
    Calls Try.prog 29 #[.agg (balC a), .agg (balC b)] w fun e w' => e = .returned (.bool (lessB a b)) ∧ Below w.heap.size w w' := by
  obtain ⟨n, k⟩ := a
  obtain ⟨m, l⟩ := b
  obtain ⟨h1, h2⟩ := ha
  obtain ⟨h3, h4⟩ := hb
  simp only at h1 h2 h3 h4
  show Calls Try.prog 29 #[.agg #[.int .u32 (n : Int), .int .u8 (k : Int)], .agg #[.int .u32 (m : Int), .int .u8 (l : Int)]] w _
  go_enter Try.func29, Try.ntmps29
  go_wp2
  all_goals
    go_ret
    refine ⟨ret_bool ?_, ((Below.refl _ _).alloc (Nat.le_refl _) _).alloc (by simp) _⟩
    rw [Bool.eq_iff_iff, lessB_is]
    simp only [beq_iff_eq, beq_eq_false_iff_ne, ne_eq] at *
    simp
    omega
theorem hear_heard (v : ProV) (j : Nat) (acc : BalV) (x : IncV) (g : Bool) : (hearM v j acc x g).heard = setB v.heard j := rfl
theorem hear_no {v : ProV} {j : Nat} {acc : BalV} {x : IncV} {g : Bool} (h : takes v acc g = false) : hearM v j acc x g = { v with heard := setB v.heard j } := by
  have hg : (v.has || g) = v.has := by
    cases hv : v.has with
    | true => rfl
    | false =>
      cases g with
      | false => rfl
      | true => unfold takes at h; rw [hv] at h; cases h
  unfold hearM
  rw [h, hg]
  simp
theorem hear_yes {v : ProV} {j : Nat} {acc : BalV} {x : IncV} {g : Bool} (h : takes v acc g = true) : hearM v j acc x g = { v with heard := setB v.heard j, best := acc, bestX := x, has := true } := by
  have hg : g = true := by
    cases g with
    | true => rfl
    | false => cases h
  subst hg
  unfold hearM
  rw [h]
  simp

set_option maxHeartbeats 16000000 in
theorem rpromise_any (r : Nat) (v : ProV) (j : Nat) (b acc : BalV) (x : IncV) (g : Bool) (w : World) (h : Has w r 34 (refpC v)) (hv : ProOk v) (hj : j < 256) (hb : BalOk b) (ha : BalOk acc) (hx : IncOk x) :
    Calls Try.prog 13 #[.pointer (some ⟨r, 0, none⟩), .int .u8 (j : Int), .agg (balC b), .agg (balC acc), .agg (incC x), .bool g] w fun e w' => e = .returned (.bool (promM v j b acc x g).2) ∧ Has w' r 34 (refpC (promM v j b acc x g).1) ∧ But r w w' := by
  obtain ⟨w1, hw1, hB, hC, hX, hbw⟩ := three_vars w 31 31 23 (balC b) (balC acc) (incC x)
  have hlt := h.lt
  have hA := h.later hbw
  go_enter Try.func13, Try.ntmps13
  go_wp2
  clear hw1
  cases c1 : sameBal v.b bal0 with
  | true =>
    have hd : deaf v j b = true := by unfold deaf; simp [c1]
    have hP : Hid (promM v j b acc x g = (v, false)) := by show _ = _; unfold promM; rw [if_pos hd]
    clear hd
    refine wp_region_plan (fun W => (Has W r 34 (refpC v) ∧ Has W w.heap.size 31 (balC b)) ∧ Below w.heap.size w W) (Plan.of [(0, true), (1, true), (2, true), (3, true), (4, true), (5, true), (6, true), (7, true), (8, true), (9, true), (10, true), (11, true), (12, true), (13, true), (14, true), (15, true), (16, true), (17, true), (18, true), (19, true), (20, true), (21, true), (22, true), (23, true), (24, true), (25, true), (26, true), (27, true), (28, true), (29, true), (30, true), (31, true)] .done) (by kernel_rfl) (by kernel_rfl) (by kernel_rfl) (by kernel_rfl) ⟨⟨hA.drew, hB.drew⟩, hbw.drew⟩ ?_
    iterate 3
      first
        | (refine plan_pass _ rfl (by rfl) ?_)
        | (refine plan_take _ _ rfl (.inl ⟨by rfl, fun W hS => by clear hS; go_simp; try with_reducible rfl⟩) ?_)
      try simp only [Act.put, List.setIfInBounds_toArray, List.set_cons_zero, List.set_cons_succ]
    refine plan_take _ _ rfl (yields_bal_mid v.b (by rfl) _ rfl r 4 rfl (fun _ h => rp_b h.1.1)) ?_
    try simp only [Act.put, List.setIfInBounds_toArray, List.set_cons_zero, List.set_cons_succ]
    refine plan_take _ _ rfl (yields_build_bal0 (by rfl) rfl) ?_
    try simp only [Act.put, List.setIfInBounds_toArray, List.set_cons_zero, List.set_cons_succ]
    refine plan_take _ _ rfl (yields_bal_eq v.b bal0 hv.b bal0_ok (by rfl) _ _ _ rfl rfl rfl) ?_
    try simp only [Act.put, List.setIfInBounds_toArray, List.set_cons_zero, List.set_cons_succ]
    rw [c1]
    iterate 1
      first
        | (refine plan_pass _ rfl (by rfl) ?_)
        | (refine plan_take _ _ rfl (.inl ⟨by rfl, fun W hS => by clear hS; go_simp; try with_reducible rfl⟩) ?_)
      try simp only [Act.put, List.setIfInBounds_toArray, List.set_cons_zero, List.set_cons_succ]
    iterate 25
      first
        | (refine plan_pass _ rfl (by rfl) ?_)
        | (refine plan_take _ _ rfl (.inl ⟨by rfl, fun W hS => by clear hS; go_simp; try with_reducible rfl⟩) ?_)
      try simp only [Act.put, List.setIfInBounds_toArray, List.set_cons_zero, List.set_cons_succ]
    refine plan_done ?_
    have hA2 := hA.drew
    have hw2 := hbw.drew
    clear hA hB hbw
    generalize w1.drew = w2 at *
    go_wp2
    go_ret
    exact ⟨by rw [hP.out]; rfl, by rw [hP.out]; exact hA2, But.of hw2⟩
  | false =>
    cases c2 : sameBal b v.b with
    | false =>
      have hd : deaf v j b = true := by unfold deaf; simp [c1, c2]
      have hP : Hid (promM v j b acc x g = (v, false)) := by show _ = _; unfold promM; rw [if_pos hd]
      clear hd
      refine wp_region_plan (fun W => (Has W r 34 (refpC v) ∧ Has W w.heap.size 31 (balC b)) ∧ Below w.heap.size w W) (Plan.of [(0, true), (1, true), (2, true), (3, true), (4, true), (5, true), (6, true), (7, true), (8, true), (9, true), (10, true), (11, true), (12, true), (13, true), (14, true), (15, true), (16, true), (17, true), (18, true), (19, true), (20, true), (21, true), (22, true), (23, true), (24, true), (25, true), (26, true), (27, true), (28, true), (29, true), (30, true), (31, true)] .done) (by kernel_rfl) (by kernel_rfl) (by kernel_rfl) (by kernel_rfl) ⟨⟨hA.drew, hB.drew⟩, hbw.drew⟩ ?_
      iterate 3
        first
          | (refine plan_pass _ rfl (by rfl) ?_)
          | (refine plan_take _ _ rfl (.inl ⟨by rfl, fun W hS => by clear hS; go_simp; try with_reducible rfl⟩) ?_)
        try simp only [Act.put, List.setIfInBounds_toArray, List.set_cons_zero, List.set_cons_succ]
      refine plan_take _ _ rfl (yields_bal_mid v.b (by rfl) _ rfl r 4 rfl (fun _ h => rp_b h.1.1)) ?_
      try simp only [Act.put, List.setIfInBounds_toArray, List.set_cons_zero, List.set_cons_succ]
      refine plan_take _ _ rfl (yields_build_bal0 (by rfl) rfl) ?_
      try simp only [Act.put, List.setIfInBounds_toArray, List.set_cons_zero, List.set_cons_succ]
      refine plan_take _ _ rfl (yields_bal_eq v.b bal0 hv.b bal0_ok (by rfl) _ _ _ rfl rfl rfl) ?_
      try simp only [Act.put, List.setIfInBounds_toArray, List.set_cons_zero, List.set_cons_succ]
      rw [c1]
      iterate 1
        first
          | (refine plan_pass _ rfl (by rfl) ?_)
          | (refine plan_take _ _ rfl (.inl ⟨by rfl, fun W hS => by clear hS; go_simp; try with_reducible rfl⟩) ?_)
        try simp only [Act.put, List.setIfInBounds_toArray, List.set_cons_zero, List.set_cons_succ]
      refine plan_take _ _ rfl (yields_bal b (by rfl) _ rfl w.heap.size rfl (fun _ h => h.1.2)) ?_
      try simp only [Act.put, List.setIfInBounds_toArray, List.set_cons_zero, List.set_cons_succ]
      iterate 3
        first
          | (refine plan_pass _ rfl (by rfl) ?_)
          | (refine plan_take _ _ rfl (.inl ⟨by rfl, fun W hS => by clear hS; go_simp; try with_reducible rfl⟩) ?_)
        try simp only [Act.put, List.setIfInBounds_toArray, List.set_cons_zero, List.set_cons_succ]
      refine plan_take _ _ rfl (yields_bal_mid v.b (by rfl) _ rfl r 4 rfl (fun _ h => rp_b h.1.1)) ?_
      try simp only [Act.put, List.setIfInBounds_toArray, List.set_cons_zero, List.set_cons_succ]
      refine plan_take _ _ rfl (yields_bal_ne b v.b hb hv.b (by rfl) _ _ _ rfl rfl rfl) ?_
      try simp only [Act.put, List.setIfInBounds_toArray, List.set_cons_zero, List.set_cons_succ]
      rw [c2]
      iterate 19
        first
          | (refine plan_pass _ rfl (by rfl) ?_)
          | (refine plan_take _ _ rfl (.inl ⟨by rfl, fun W hS => by clear hS; go_simp; try with_reducible rfl⟩) ?_)
        try simp only [Act.put, List.setIfInBounds_toArray, List.set_cons_zero, List.set_cons_succ]
      refine plan_done ?_
      have hA2 := hA.drew
      have hw2 := hbw.drew
      clear hA hB hbw
      generalize w1.drew = w2 at *
      go_wp2
      go_ret
      exact ⟨by rw [hP.out]; rfl, by rw [hP.out]; exact hA2, But.of hw2⟩
    | true =>
      by_cases c3 : j < 3
      · cases c4 : v.heard j with
        | true =>
          have hd : deaf v j b = true := by unfold deaf; simp [c1, c2, c4]
          have hP : Hid (promM v j b acc x g = (v, false)) := by show _ = _; unfold promM; rw [if_pos hd]
          clear hd
          have c3I : (j : Int) < 3 := by omega
          refine wp_region_plan (fun W => (Has W r 34 (refpC v) ∧ Has W w.heap.size 31 (balC b)) ∧ Below w.heap.size w W) (Plan.of [(0, true), (1, true), (2, true), (3, true), (4, true), (5, true), (6, true), (7, true), (8, true), (9, true), (10, true), (11, true), (12, true), (13, true), (14, true), (15, true), (16, true), (17, true), (18, true), (19, true), (20, true), (21, true), (22, true), (23, true), (24, true), (25, true), (26, true), (27, true), (28, true), (29, true), (30, true), (31, true)] .done) (by kernel_rfl) (by kernel_rfl) (by kernel_rfl) (by kernel_rfl) ⟨⟨hA.drew, hB.drew⟩, hbw.drew⟩ ?_
          iterate 3
            first
              | (refine plan_pass _ rfl (by rfl) ?_)
              | (refine plan_take _ _ rfl (.inl ⟨by rfl, fun W hS => by clear hS; go_simp; try with_reducible rfl⟩) ?_)
            try simp only [Act.put, List.setIfInBounds_toArray, List.set_cons_zero, List.set_cons_succ]
          refine plan_take _ _ rfl (yields_bal_mid v.b (by rfl) _ rfl r 4 rfl (fun _ h => rp_b h.1.1)) ?_
          try simp only [Act.put, List.setIfInBounds_toArray, List.set_cons_zero, List.set_cons_succ]
          refine plan_take _ _ rfl (yields_build_bal0 (by rfl) rfl) ?_
          try simp only [Act.put, List.setIfInBounds_toArray, List.set_cons_zero, List.set_cons_succ]
          refine plan_take _ _ rfl (yields_bal_eq v.b bal0 hv.b bal0_ok (by rfl) _ _ _ rfl rfl rfl) ?_
          try simp only [Act.put, List.setIfInBounds_toArray, List.set_cons_zero, List.set_cons_succ]
          rw [c1]
          iterate 1
            first
              | (refine plan_pass _ rfl (by rfl) ?_)
              | (refine plan_take _ _ rfl (.inl ⟨by rfl, fun W hS => by clear hS; go_simp; try with_reducible rfl⟩) ?_)
            try simp only [Act.put, List.setIfInBounds_toArray, List.set_cons_zero, List.set_cons_succ]
          refine plan_take _ _ rfl (yields_bal b (by rfl) _ rfl w.heap.size rfl (fun _ h => h.1.2)) ?_
          try simp only [Act.put, List.setIfInBounds_toArray, List.set_cons_zero, List.set_cons_succ]
          iterate 3
            first
              | (refine plan_pass _ rfl (by rfl) ?_)
              | (refine plan_take _ _ rfl (.inl ⟨by rfl, fun W hS => by clear hS; go_simp; try with_reducible rfl⟩) ?_)
            try simp only [Act.put, List.setIfInBounds_toArray, List.set_cons_zero, List.set_cons_succ]
          refine plan_take _ _ rfl (yields_bal_mid v.b (by rfl) _ rfl r 4 rfl (fun _ h => rp_b h.1.1)) ?_
          try simp only [Act.put, List.setIfInBounds_toArray, List.set_cons_zero, List.set_cons_succ]
          refine plan_take _ _ rfl (yields_bal_ne b v.b hb hv.b (by rfl) _ _ _ rfl rfl rfl) ?_
          try simp only [Act.put, List.setIfInBounds_toArray, List.set_cons_zero, List.set_cons_succ]
          rw [c2]
          iterate 3
            first
              | (refine plan_pass _ rfl (by rfl) ?_)
              | (refine plan_take _ _ rfl (.inl ⟨by rfl, fun W hS => by clear hS; go_simp; try with_reducible rfl⟩) ?_)
            try simp only [Act.put, List.setIfInBounds_toArray, List.set_cons_zero, List.set_cons_succ]
          refine plan_take _ (.bool false) rfl (.inl ⟨by rfl, fun W hS => by clear hS; go_simp; try omega⟩) ?_
          try simp only [Act.put, List.setIfInBounds_toArray, List.set_cons_zero, List.set_cons_succ]
          iterate 6
            first
              | (refine plan_pass _ rfl (by rfl) ?_)
              | (refine plan_take _ _ rfl (.inl ⟨by rfl, fun W hS => by clear hS; go_simp; try with_reducible rfl⟩) ?_)
            try simp only [Act.put, List.setIfInBounds_toArray, List.set_cons_zero, List.set_cons_succ]
          refine plan_take _ (.pointer (some ⟨r, 6 + j, none⟩)) rfl (.inl ⟨by rfl, fun W hS => by clear hS; go_simp; try with_reducible rfl⟩) ?_
          try simp only [Act.put, List.setIfInBounds_toArray, List.set_cons_zero, List.set_cons_succ]
          iterate 1
            first
              | (refine plan_pass _ rfl (by rfl) ?_)
              | (refine plan_take _ _ rfl (.inl ⟨by rfl, fun W hS => by have z := rp_heard hS.1.1 j c3; go_simp; try with_reducible rfl⟩) ?_)
            try simp only [Act.put, List.setIfInBounds_toArray, List.set_cons_zero, List.set_cons_succ]
          iterate 7
            first
              | (refine plan_pass _ rfl (by rfl) ?_)
              | (refine plan_take _ _ rfl (.inl ⟨by rfl, fun W hS => by clear hS; go_simp; try with_reducible rfl⟩) ?_)
            try simp only [Act.put, List.setIfInBounds_toArray, List.set_cons_zero, List.set_cons_succ]
          refine plan_done ?_
          have hA2 := hA.drew
          have hw2 := hbw.drew
          clear hA hB hbw
          generalize w1.drew = w2 at *
          go_wp2
          go_ret
          exact ⟨by rw [hP.out]; rfl, by rw [hP.out]; exact hA2, But.of hw2⟩
        | false =>
          cases c5 : v.hasV with
          | true =>
            have hd : deaf v j b = true := by unfold deaf; simp [c1, c2, c3, c4, c5]
            have hP : Hid (promM v j b acc x g = (v, false)) := by show _ = _; unfold promM; rw [if_pos hd]
            clear hd
            have c3I : (j : Int) < 3 := by omega
            refine wp_region_plan (fun W => (Has W r 34 (refpC v) ∧ Has W w.heap.size 31 (balC b)) ∧ Below w.heap.size w W) (Plan.of [(0, true), (1, true), (2, true), (3, true), (4, true), (5, true), (6, true), (7, true), (8, true), (9, true), (10, true), (11, true), (12, true), (13, true), (14, true), (15, true), (16, true), (17, true), (18, true), (19, true), (20, true), (21, true), (22, true), (23, true), (24, true), (25, true), (26, true), (27, true), (28, true), (29, true), (30, true), (31, true)] .done) (by kernel_rfl) (by kernel_rfl) (by kernel_rfl) (by kernel_rfl) ⟨⟨hA.drew, hB.drew⟩, hbw.drew⟩ ?_
            iterate 3
              first
                | (refine plan_pass _ rfl (by rfl) ?_)
                | (refine plan_take _ _ rfl (.inl ⟨by rfl, fun W hS => by clear hS; go_simp; try with_reducible rfl⟩) ?_)
              try simp only [Act.put, List.setIfInBounds_toArray, List.set_cons_zero, List.set_cons_succ]
            refine plan_take _ _ rfl (yields_bal_mid v.b (by rfl) _ rfl r 4 rfl (fun _ h => rp_b h.1.1)) ?_
            try simp only [Act.put, List.setIfInBounds_toArray, List.set_cons_zero, List.set_cons_succ]
            refine plan_take _ _ rfl (yields_build_bal0 (by rfl) rfl) ?_
            try simp only [Act.put, List.setIfInBounds_toArray, List.set_cons_zero, List.set_cons_succ]
            refine plan_take _ _ rfl (yields_bal_eq v.b bal0 hv.b bal0_ok (by rfl) _ _ _ rfl rfl rfl) ?_
            try simp only [Act.put, List.setIfInBounds_toArray, List.set_cons_zero, List.set_cons_succ]
            rw [c1]
            iterate 1
              first
                | (refine plan_pass _ rfl (by rfl) ?_)
                | (refine plan_take _ _ rfl (.inl ⟨by rfl, fun W hS => by clear hS; go_simp; try with_reducible rfl⟩) ?_)
              try simp only [Act.put, List.setIfInBounds_toArray, List.set_cons_zero, List.set_cons_succ]
            refine plan_take _ _ rfl (yields_bal b (by rfl) _ rfl w.heap.size rfl (fun _ h => h.1.2)) ?_
            try simp only [Act.put, List.setIfInBounds_toArray, List.set_cons_zero, List.set_cons_succ]
            iterate 3
              first
                | (refine plan_pass _ rfl (by rfl) ?_)
                | (refine plan_take _ _ rfl (.inl ⟨by rfl, fun W hS => by clear hS; go_simp; try with_reducible rfl⟩) ?_)
              try simp only [Act.put, List.setIfInBounds_toArray, List.set_cons_zero, List.set_cons_succ]
            refine plan_take _ _ rfl (yields_bal_mid v.b (by rfl) _ rfl r 4 rfl (fun _ h => rp_b h.1.1)) ?_
            try simp only [Act.put, List.setIfInBounds_toArray, List.set_cons_zero, List.set_cons_succ]
            refine plan_take _ _ rfl (yields_bal_ne b v.b hb hv.b (by rfl) _ _ _ rfl rfl rfl) ?_
            try simp only [Act.put, List.setIfInBounds_toArray, List.set_cons_zero, List.set_cons_succ]
            rw [c2]
            iterate 3
              first
                | (refine plan_pass _ rfl (by rfl) ?_)
                | (refine plan_take _ _ rfl (.inl ⟨by rfl, fun W hS => by clear hS; go_simp; try with_reducible rfl⟩) ?_)
              try simp only [Act.put, List.setIfInBounds_toArray, List.set_cons_zero, List.set_cons_succ]
            refine plan_take _ (.bool false) rfl (.inl ⟨by rfl, fun W hS => by clear hS; go_simp; try omega⟩) ?_
            try simp only [Act.put, List.setIfInBounds_toArray, List.set_cons_zero, List.set_cons_succ]
            iterate 6
              first
                | (refine plan_pass _ rfl (by rfl) ?_)
                | (refine plan_take _ _ rfl (.inl ⟨by rfl, fun W hS => by clear hS; go_simp; try with_reducible rfl⟩) ?_)
              try simp only [Act.put, List.setIfInBounds_toArray, List.set_cons_zero, List.set_cons_succ]
            refine plan_take _ (.pointer (some ⟨r, 6 + j, none⟩)) rfl (.inl ⟨by rfl, fun W hS => by clear hS; go_simp; try with_reducible rfl⟩) ?_
            try simp only [Act.put, List.setIfInBounds_toArray, List.set_cons_zero, List.set_cons_succ]
            iterate 1
              first
                | (refine plan_pass _ rfl (by rfl) ?_)
                | (refine plan_take _ _ rfl (.inl ⟨by rfl, fun W hS => by have z := rp_heard hS.1.1 j c3; go_simp; try with_reducible rfl⟩) ?_)
              try simp only [Act.put, List.setIfInBounds_toArray, List.set_cons_zero, List.set_cons_succ]
            iterate 5
              first
                | (refine plan_pass _ rfl (by rfl) ?_)
                | (refine plan_take _ _ rfl (.inl ⟨by rfl, fun W hS => by clear hS; go_simp; try with_reducible rfl⟩) ?_)
              try simp only [Act.put, List.setIfInBounds_toArray, List.set_cons_zero, List.set_cons_succ]
            iterate 1
              first
                | (refine plan_pass _ rfl (by rfl) ?_)
                | (refine plan_take _ _ rfl (.inl ⟨by rfl, fun W hS => by have z := rp_hasV hS.1.1; go_simp; try with_reducible rfl⟩) ?_)
              try simp only [Act.put, List.setIfInBounds_toArray, List.set_cons_zero, List.set_cons_succ]
            iterate 1
              first
                | (refine plan_pass _ rfl (by rfl) ?_)
                | (refine plan_take _ _ rfl (.inl ⟨by rfl, fun W hS => by clear hS; go_simp; try with_reducible rfl⟩) ?_)
              try simp only [Act.put, List.setIfInBounds_toArray, List.set_cons_zero, List.set_cons_succ]
            refine plan_done ?_
            have hA2 := hA.drew
            have hw2 := hbw.drew
            clear hA hB hbw
            generalize w1.drew = w2 at *
            go_wp2
            go_ret
            exact ⟨by rw [hP.out]; rfl, by rw [hP.out]; exact hA2, But.of hw2⟩
          | false =>
            have hd : deaf v j b = false := by unfold deaf; simp [c1, c2, c4, c5]; try omega
            have c3I : (j : Int) < 3 := by omega
            refine wp_region_plan (fun W => (Has W r 34 (refpC v) ∧ Has W w.heap.size 31 (balC b)) ∧ Below w.heap.size w W) (Plan.of [(0, true), (1, true), (2, true), (3, true), (4, true), (5, true), (6, true), (7, true), (8, true), (9, true), (10, true), (11, true), (12, true), (13, true), (14, true), (15, true), (16, true), (17, true), (18, true), (19, true), (20, true), (21, true), (22, true), (23, true), (24, true), (25, true), (26, true), (27, true), (28, true), (29, true), (30, true), (31, true)] .done) (by kernel_rfl) (by kernel_rfl) (by kernel_rfl) (by kernel_rfl) ⟨⟨hA.drew, hB.drew⟩, hbw.drew⟩ ?_
            iterate 3
              first
                | (refine plan_pass _ rfl (by rfl) ?_)
                | (refine plan_take _ _ rfl (.inl ⟨by rfl, fun W hS => by clear hS; go_simp; try with_reducible rfl⟩) ?_)
              try simp only [Act.put, List.setIfInBounds_toArray, List.set_cons_zero, List.set_cons_succ]
            refine plan_take _ _ rfl (yields_bal_mid v.b (by rfl) _ rfl r 4 rfl (fun _ h => rp_b h.1.1)) ?_
            try simp only [Act.put, List.setIfInBounds_toArray, List.set_cons_zero, List.set_cons_succ]
            refine plan_take _ _ rfl (yields_build_bal0 (by rfl) rfl) ?_
            try simp only [Act.put, List.setIfInBounds_toArray, List.set_cons_zero, List.set_cons_succ]
            refine plan_take _ _ rfl (yields_bal_eq v.b bal0 hv.b bal0_ok (by rfl) _ _ _ rfl rfl rfl) ?_
            try simp only [Act.put, List.setIfInBounds_toArray, List.set_cons_zero, List.set_cons_succ]
            rw [c1]
            iterate 1
              first
                | (refine plan_pass _ rfl (by rfl) ?_)
                | (refine plan_take _ _ rfl (.inl ⟨by rfl, fun W hS => by clear hS; go_simp; try with_reducible rfl⟩) ?_)
              try simp only [Act.put, List.setIfInBounds_toArray, List.set_cons_zero, List.set_cons_succ]
            refine plan_take _ _ rfl (yields_bal b (by rfl) _ rfl w.heap.size rfl (fun _ h => h.1.2)) ?_
            try simp only [Act.put, List.setIfInBounds_toArray, List.set_cons_zero, List.set_cons_succ]
            iterate 3
              first
                | (refine plan_pass _ rfl (by rfl) ?_)
                | (refine plan_take _ _ rfl (.inl ⟨by rfl, fun W hS => by clear hS; go_simp; try with_reducible rfl⟩) ?_)
              try simp only [Act.put, List.setIfInBounds_toArray, List.set_cons_zero, List.set_cons_succ]
            refine plan_take _ _ rfl (yields_bal_mid v.b (by rfl) _ rfl r 4 rfl (fun _ h => rp_b h.1.1)) ?_
            try simp only [Act.put, List.setIfInBounds_toArray, List.set_cons_zero, List.set_cons_succ]
            refine plan_take _ _ rfl (yields_bal_ne b v.b hb hv.b (by rfl) _ _ _ rfl rfl rfl) ?_
            try simp only [Act.put, List.setIfInBounds_toArray, List.set_cons_zero, List.set_cons_succ]
            rw [c2]
            iterate 3
              first
                | (refine plan_pass _ rfl (by rfl) ?_)
                | (refine plan_take _ _ rfl (.inl ⟨by rfl, fun W hS => by clear hS; go_simp; try with_reducible rfl⟩) ?_)
              try simp only [Act.put, List.setIfInBounds_toArray, List.set_cons_zero, List.set_cons_succ]
            refine plan_take _ (.bool false) rfl (.inl ⟨by rfl, fun W hS => by clear hS; go_simp; try omega⟩) ?_
            try simp only [Act.put, List.setIfInBounds_toArray, List.set_cons_zero, List.set_cons_succ]
            iterate 6
              first
                | (refine plan_pass _ rfl (by rfl) ?_)
                | (refine plan_take _ _ rfl (.inl ⟨by rfl, fun W hS => by clear hS; go_simp; try with_reducible rfl⟩) ?_)
              try simp only [Act.put, List.setIfInBounds_toArray, List.set_cons_zero, List.set_cons_succ]
            refine plan_take _ (.pointer (some ⟨r, 6 + j, none⟩)) rfl (.inl ⟨by rfl, fun W hS => by clear hS; go_simp; try with_reducible rfl⟩) ?_
            try simp only [Act.put, List.setIfInBounds_toArray, List.set_cons_zero, List.set_cons_succ]
            iterate 1
              first
                | (refine plan_pass _ rfl (by rfl) ?_)
                | (refine plan_take _ _ rfl (.inl ⟨by rfl, fun W hS => by have z := rp_heard hS.1.1 j c3; go_simp; try with_reducible rfl⟩) ?_)
              try simp only [Act.put, List.setIfInBounds_toArray, List.set_cons_zero, List.set_cons_succ]
            iterate 5
              first
                | (refine plan_pass _ rfl (by rfl) ?_)
                | (refine plan_take _ _ rfl (.inl ⟨by rfl, fun W hS => by clear hS; go_simp; try with_reducible rfl⟩) ?_)
              try simp only [Act.put, List.setIfInBounds_toArray, List.set_cons_zero, List.set_cons_succ]
            iterate 1
              first
                | (refine plan_pass _ rfl (by rfl) ?_)
                | (refine plan_take _ _ rfl (.inl ⟨by rfl, fun W hS => by have z := rp_hasV hS.1.1; go_simp; try with_reducible rfl⟩) ?_)
              try simp only [Act.put, List.setIfInBounds_toArray, List.set_cons_zero, List.set_cons_succ]
            iterate 1
              first
                | (refine plan_pass _ rfl (by rfl) ?_)
                | (refine plan_take _ _ rfl (.inl ⟨by rfl, fun W hS => by clear hS; go_simp; try with_reducible rfl⟩) ?_)
              try simp only [Act.put, List.setIfInBounds_toArray, List.set_cons_zero, List.set_cons_succ]
            refine plan_done ?_
            have hA2 := hA.drew
            have hC2 := hC.drew
            have hX2 := hX.drew
            have hw2 := hbw.drew
            clear hA hB hC hX hbw
            generalize w1.drew = w2 at *
            have hP : promM v j b acc x g = if cnt (setB v.heard j) < 2 then (hearM v j acc x g, false) else ({ hearM v j acc x g with value := chosenX (hearM v j acc x g), hasV := true }, true) := by unfold promM; rw [if_neg (by rw [hd]; decide)]
            replace hP : Hid _ := hP
            have z := rp_heard hA2 j c3
            have zf := hA2.free (6 + j)
            have hA3 := hA2.rp_setHeard j c3
            have hq3 := (But.of (p := r) hw2).trans (but_setCells (w := w2) (p := r) [.bool true] (6 + j))
            have hC3 := hC2.cells_other (k := r) (by omega) [.bool true] (6 + j)
            have hX3 := hX2.cells_other (k := r) (by omega) [.bool true] (6 + j)
            rw [c4] at z
            have hh := hear_heard v j acc x g
            have hhv : (hearM v j acc x g).hasV = false := c5
            clear c1 c2 c4 c5 hd hA2 hC2 hX2
            obtain ⟨w3, hw3⟩ : ∃ W, w2.setCell ⟨r, 6 + j, none⟩ (.bool true) = W := ⟨_, rfl⟩
            replace hA3 : Has w3 r 34 (refpC _) := hw3 ▸ hA3
            replace hq3 : But r w w3 := hw3 ▸ hq3
            replace hC3 : Has w3 (w.heap.size + 1) 31 (balC acc) := hw3 ▸ hC3
            replace hX3 : Has w3 (w.heap.size + 1 + 1) 23 (incC x) := hw3 ▸ hX3
            replace hh : Hid _ := hh
            go_wp2
            try rw [hw3]
            clear z zf hw3 hhv
            cases ht : takes v acc g with
            | false =>
              have hm : hearM v j acc x g = { v with heard := setB v.heard j } := hear_no ht
              rw [← hm] at hA3
              cases g with
              | false =>
                refine wp_region_plan (fun W => Has W (w.heap.size + 1) 31 (balC acc)) (Plan.of [(0, true), (1, true), (2, true), (3, true), (4, true), (5, true), (6, true), (7, true), (8, true), (9, true), (10, true), (11, true), (12, true), (13, false), (14, true), (15, true)] .done) (by kernel_rfl) (by kernel_rfl) (by kernel_rfl) (by kernel_rfl) hC3.drew ?_
                iterate 13
                  first
                    | (refine plan_pass _ rfl (by rfl) ?_)
                    | (refine plan_take _ _ rfl (.inl ⟨by rfl, fun W hS => by clear hS; go_simp; try with_reducible rfl⟩) ?_)
                  try simp only [Act.put, List.setIfInBounds_toArray, List.set_cons_zero, List.set_cons_succ]
                refine plan_run _ rfl (fun K hK => ?_)
                rw [if_neg (fun hh => Bool.noConfusion (show true = false from hh.symm.trans (by rfl)))]
                refine hK.out _ _ hC3.drew ?_
                clear hK K
                try simp only [Act.put, List.setIfInBounds_toArray, List.set_cons_zero, List.set_cons_succ]
                iterate 2
                  first
                    | (refine plan_pass _ rfl (by rfl) ?_)
                    | (refine plan_take _ _ rfl (.inl ⟨by rfl, fun W hS => by clear hS; go_simp; try with_reducible rfl⟩) ?_)
                  try simp only [Act.put, List.setIfInBounds_toArray, List.set_cons_zero, List.set_cons_succ]
                refine plan_done ?_
                replace hA3 := hA3.drew
                replace hq3 := hq3.trans (But.of (p := r) ((Below.refl w3.heap.size w3).drew))
                clear hC3 hX3 ht hm
                generalize w3.drew = w4 at *
                generalize hearM v j acc x false = U at *
                have hRa := rp_hears hA3
                rw [hh.out] at hRa
                go_wp2_with ((with_reducible refine at_lod ?_); (refine wpList_load_mid' (by rfl) 32 _ rfl r 6 rfl (b3C (setB v.heard j)).toList _ ?hg Try.underlying32 rfl (b3_size _) ?_; (case hg => exact hRa)))
                refine (rcount_any (setB v.heard j) _).mono ?_
                rintro e w6 ⟨rfl, hq⟩
                clear hRa
                replace hA3 := hA3.later hq
                replace hq3 := hq3.trans (But.of (p := r) hq)
                clear hq
                by_cases hc : cnt (setB v.heard j) < 2
                · have hcI : ((cnt (setB v.heard j) : Nat) : Int) < 2 := by omega
                  rw [if_pos hc] at hP
                  generalize cnt (setB v.heard j) = q at *
                  go_wp2
                  go_ret
                  exact ⟨by rw [hP.out]; rfl, by rw [hP.out]; exact hA3, hq3⟩
                · have hcI : ¬ ((cnt (setB v.heard j) : Nat) : Int) < 2 := by omega
                  have hcI2 : (2 : Int) ≤ ((cnt (setB v.heard j) : Nat) : Int) := by omega
                  rw [if_neg hc] at hP
                  generalize cnt (setB v.heard j) = q at *
                  have hWn := rp_want hA3
                  have t1 : Hid (World.there w6 r 15 (incC U.want).size) := hA3.there 15 3 (by show 15 + 3 ≤ 27; decide)
                  have hA7 := hA3.rp_setValue U.want
                  have hq7 := hq3.trans (but_setCells (w := w6) (p := r) (incC U.want).toList 15)
                  obtain ⟨wa, hwa⟩ : ∃ W, w6.setCells r 15 (incC U.want).toList = W := ⟨_, rfl⟩
                  rw [hwa] at hA7 hq7
                  have zv := rp_hasV hA7
                  have zvf := hA7.free 18
                  have hA8 := hA7.rp_setHasV
                  have hq8 := hq7.trans (but_setCells (w := wa) (p := r) [.bool true] 18)
                  obtain ⟨wb, hwb⟩ : ∃ W, wa.setCell ⟨r, 18, none⟩ (.bool true) = W := ⟨_, rfl⟩
                  rw [hwb] at hA8
                  replace hq8 : But r w wb := hwb ▸ hq8
                  have zhh := rp_has hA8
                  replace hwa : Hid _ := hwa
                  clear hA7 hq7 hA3 hq3
                  cases hu : U.has with
                  | false =>
                    replace zhh := zhh.trans (show _ = some (Value.bool false) by rw [← hu])
                    have hch : chosenX U = U.want := by unfold chosenX; rw [if_neg (by rw [hu]; decide)]
                    rw [hch] at hP
                    clear hu hch
                    go_wp2_with (first
                      | ((with_reducible refine at_lod ?_); (refine wpList_load_mid' (by rfl) 23 _ rfl r 1 rfl (incC U.want).toList _ ?hg Try.underlying23 rfl (inc_size _) ?_; (case hg => exact hWn); (try simp only [Act.put, List.setIfInBounds_toArray, List.set_cons_zero, List.set_cons_succ])))
                      | ((with_reducible refine at_stx ?_); (refine wpList_store_mid' (by rfl) 23 _ _ rfl r 15 (incC U.want) rfl rfl ?hg (inc_size _) (inc_one _) ?_; (case hg => exact t1.out); rw [hwa.out]; (try simp only [Act.put, List.setIfInBounds_toArray, List.set_cons_zero, List.set_cons_succ]))))
                    go_ret
                    exact ⟨by rw [hP.out]; rfl, by rw [hP.out]; exact hA8, hq8⟩
                  | true =>
                    replace zhh := zhh.trans (show _ = some (Value.bool true) by rw [← hu])
                    have hch : chosenX U = U.bestX := by unfold chosenX; rw [if_pos hu]
                    rw [hch] at hP
                    clear hu hch
                    have hBx := rp_bestX hA8
                    have t2 : Hid (World.there wb r 15 (incC U.bestX).size) := hA8.there 15 3 (by show 15 + 3 ≤ 27; decide)
                    have hA9 := hA8.rp_setValue U.bestX
                    have hq9 := hq8.trans (but_setCells (w := wb) (p := r) (incC U.bestX).toList 15)
                    obtain ⟨wc, hwc⟩ : ∃ W, wb.setCells r 15 (incC U.bestX).toList = W := ⟨_, rfl⟩
                    rw [hwc] at hA9 hq9
                    replace hwc : Hid _ := hwc
                    have hBx2 : wb.rangeAt r 11 (incC U.bestX).toList := hBx
                    clear hBx
                    go_wp2_with (first
                      | ((with_reducible refine at_lod ?_); (refine wpList_load_mid' (by rfl) 23 _ rfl r 1 rfl (incC U.want).toList _ ?hg Try.underlying23 rfl (inc_size _) ?_; (case hg => exact hWn); (try simp only [Act.put, List.setIfInBounds_toArray, List.set_cons_zero, List.set_cons_succ])))
                      | ((with_reducible refine at_stx ?_); (refine wpList_store_mid' (by rfl) 23 _ _ rfl r 15 (incC U.want) rfl rfl ?hg (inc_size _) (inc_one _) ?_; (case hg => exact t1.out); rw [hwa.out]; (try simp only [Act.put, List.setIfInBounds_toArray, List.set_cons_zero, List.set_cons_succ])))
                      | ((with_reducible refine at_lod ?_); (refine wpList_load_mid' (by rfl) 23 _ rfl r 11 rfl (incC U.bestX).toList _ ?hg Try.underlying23 rfl (inc_size _) ?_; (case hg => exact hBx2); (try simp only [Act.put, List.setIfInBounds_toArray, List.set_cons_zero, List.set_cons_succ])))
                      | ((with_reducible refine at_stx ?_); (refine wpList_store_mid' (by rfl) 23 _ _ rfl r 15 (incC U.bestX) rfl rfl ?hg (inc_size _) (inc_one _) ?_; (case hg => exact t2.out); rw [hwc.out]; (try simp only [Act.put, List.setIfInBounds_toArray, List.set_cons_zero, List.set_cons_succ]))))
                    go_ret
                    exact ⟨by rw [hP.out]; rfl, by rw [hP.out]; exact hA9, hq9⟩
              | true =>
                have hvh : v.has = true := by
                  cases hvh : v.has with
                  | false => unfold takes at ht; rw [hvh] at ht; cases ht
                  | true => rfl
                have hl : lessB v.best acc = false := by
                  unfold takes at ht
                  rw [hvh] at ht
                  exact ht
                have hA4 := hA3
                rw [hm] at hA4
                refine wp_region_plan (fun W => (Has W r 34 (refpC { v with heard := setB v.heard j }) ∧ Has W (w.heap.size + 1) 31 (balC acc)) ∧ Has W (w.heap.size + 1 + 1) 23 (incC x)) (Plan.of [(0, true), (1, true), (2, true), (3, true), (4, true), (5, true), (6, true), (7, true), (8, true), (9, true), (10, true), (11, true), (12, true), (13, false), (14, true), (15, true)] .done) (by kernel_rfl) (by kernel_rfl) (by kernel_rfl) (by kernel_rfl) ⟨⟨hA4.drew, hC3.drew⟩, hX3.drew⟩ ?_
                iterate 5
                  first
                    | (refine plan_pass _ rfl (by rfl) ?_)
                    | (refine plan_take _ _ rfl (.inl ⟨by rfl, fun W hS => by clear hS; go_simp; try with_reducible rfl⟩) ?_)
                  try simp only [Act.put, List.setIfInBounds_toArray, List.set_cons_zero, List.set_cons_succ]
                iterate 1
                  first
                    | (refine plan_pass _ rfl (by rfl) ?_)
                    | (refine plan_take _ _ rfl (.inl ⟨by rfl, fun W hS => by have z := rp_has hS.1.1; go_simp; try with_reducible rfl⟩) ?_)
                  try simp only [Act.put, List.setIfInBounds_toArray, List.set_cons_zero, List.set_cons_succ]
                iterate 2
                  first
                    | (refine plan_pass _ rfl (by rfl) ?_)
                    | (refine plan_take _ _ rfl (.inl ⟨by rfl, fun W hS => by clear hS; go_simp; try with_reducible rfl⟩) ?_)
                  try simp only [Act.put, List.setIfInBounds_toArray, List.set_cons_zero, List.set_cons_succ]
                iterate 3
                  first
                    | (refine plan_pass _ rfl (by rfl) ?_)
                    | (refine plan_take _ _ rfl (.inl ⟨by rfl, fun W hS => by clear hS; go_simp; try with_reducible rfl⟩) ?_)
                  try simp only [Act.put, List.setIfInBounds_toArray, List.set_cons_zero, List.set_cons_succ]
                refine plan_take _ _ rfl (yields_bal_mid v.best (by rfl) _ rfl r 9 rfl (fun _ h => by have z := rp_best h.1.1; exact z)) ?_
                try simp only [Act.put, List.setIfInBounds_toArray, List.set_cons_zero, List.set_cons_succ]
                refine plan_take _ _ rfl (yields_bal acc (by rfl) _ rfl (w.heap.size + 1) rfl (fun _ h => h.1.2)) ?_
                try simp only [Act.put, List.setIfInBounds_toArray, List.set_cons_zero, List.set_cons_succ]
                refine plan_run _ rfl (fun K hK => ?_)
                go_simp
                refine (rless_any v.best acc _ hv.best ha).mono ?_
                rintro e w4 ⟨rfl, hq⟩
                replace hA4 := hA4.drew.later hq
                replace hC3 := hC3.drew.later hq
                replace hX3 := hX3.drew.later hq
                replace hq3 := (hq3.trans (But.of (p := r) ((Below.refl w3.heap.size w3).drew))).trans (But.of (p := r) hq)
                refine hK.out _ _ ⟨⟨hA4, hC3⟩, hX3⟩ ?_
                clear hK K hq hA3
                try simp only [Act.put, List.setIfInBounds_toArray, List.set_cons_zero, List.set_cons_succ]
                rw [hl]
                iterate 2
                  first
                    | (refine plan_pass _ rfl (by rfl) ?_)
                    | (refine plan_take _ _ rfl (.inl ⟨by rfl, fun W hS => by clear hS; go_simp; try with_reducible rfl⟩) ?_)
                  try simp only [Act.put, List.setIfInBounds_toArray, List.set_cons_zero, List.set_cons_succ]
                refine plan_done ?_
                rw [← hm] at hA4
                have hA3 := hA4
                clear hC3 hX3 ht hm hA4 hvh hl
                generalize hearM v j acc x true = U at *
                have hRa := rp_hears hA3
                rw [hh.out] at hRa
                go_wp2_with ((with_reducible refine at_lod ?_); (refine wpList_load_mid' (by rfl) 32 _ rfl r 6 rfl (b3C (setB v.heard j)).toList _ ?hg Try.underlying32 rfl (b3_size _) ?_; (case hg => exact hRa)))
                refine (rcount_any (setB v.heard j) _).mono ?_
                rintro e w6 ⟨rfl, hq⟩
                clear hRa
                replace hA3 := hA3.later hq
                replace hq3 := hq3.trans (But.of (p := r) hq)
                clear hq
                by_cases hc : cnt (setB v.heard j) < 2
                · have hcI : ((cnt (setB v.heard j) : Nat) : Int) < 2 := by omega
                  rw [if_pos hc] at hP
                  generalize cnt (setB v.heard j) = q at *
                  go_wp2
                  go_ret
                  exact ⟨by rw [hP.out]; rfl, by rw [hP.out]; exact hA3, hq3⟩
                · have hcI : ¬ ((cnt (setB v.heard j) : Nat) : Int) < 2 := by omega
                  have hcI2 : (2 : Int) ≤ ((cnt (setB v.heard j) : Nat) : Int) := by omega
                  rw [if_neg hc] at hP
                  generalize cnt (setB v.heard j) = q at *
                  have hWn := rp_want hA3
                  have t1 : Hid (World.there w6 r 15 (incC U.want).size) := hA3.there 15 3 (by show 15 + 3 ≤ 27; decide)
                  have hA7 := hA3.rp_setValue U.want
                  have hq7 := hq3.trans (but_setCells (w := w6) (p := r) (incC U.want).toList 15)
                  obtain ⟨wa, hwa⟩ : ∃ W, w6.setCells r 15 (incC U.want).toList = W := ⟨_, rfl⟩
                  rw [hwa] at hA7 hq7
                  have zv := rp_hasV hA7
                  have zvf := hA7.free 18
                  have hA8 := hA7.rp_setHasV
                  have hq8 := hq7.trans (but_setCells (w := wa) (p := r) [.bool true] 18)
                  obtain ⟨wb, hwb⟩ : ∃ W, wa.setCell ⟨r, 18, none⟩ (.bool true) = W := ⟨_, rfl⟩
                  rw [hwb] at hA8
                  replace hq8 : But r w wb := hwb ▸ hq8
                  have zhh := rp_has hA8
                  replace hwa : Hid _ := hwa
                  clear hA7 hq7 hA3 hq3
                  cases hu : U.has with
                  | false =>
                    replace zhh := zhh.trans (show _ = some (Value.bool false) by rw [← hu])
                    have hch : chosenX U = U.want := by unfold chosenX; rw [if_neg (by rw [hu]; decide)]
                    rw [hch] at hP
                    clear hu hch
                    go_wp2_with (first
                      | ((with_reducible refine at_lod ?_); (refine wpList_load_mid' (by rfl) 23 _ rfl r 1 rfl (incC U.want).toList _ ?hg Try.underlying23 rfl (inc_size _) ?_; (case hg => exact hWn); (try simp only [Act.put, List.setIfInBounds_toArray, List.set_cons_zero, List.set_cons_succ])))
                      | ((with_reducible refine at_stx ?_); (refine wpList_store_mid' (by rfl) 23 _ _ rfl r 15 (incC U.want) rfl rfl ?hg (inc_size _) (inc_one _) ?_; (case hg => exact t1.out); rw [hwa.out]; (try simp only [Act.put, List.setIfInBounds_toArray, List.set_cons_zero, List.set_cons_succ]))))
                    go_ret
                    exact ⟨by rw [hP.out]; rfl, by rw [hP.out]; exact hA8, hq8⟩
                  | true =>
                    replace zhh := zhh.trans (show _ = some (Value.bool true) by rw [← hu])
                    have hch : chosenX U = U.bestX := by unfold chosenX; rw [if_pos hu]
                    rw [hch] at hP
                    clear hu hch
                    have hBx := rp_bestX hA8
                    have t2 : Hid (World.there wb r 15 (incC U.bestX).size) := hA8.there 15 3 (by show 15 + 3 ≤ 27; decide)
                    have hA9 := hA8.rp_setValue U.bestX
                    have hq9 := hq8.trans (but_setCells (w := wb) (p := r) (incC U.bestX).toList 15)
                    obtain ⟨wc, hwc⟩ : ∃ W, wb.setCells r 15 (incC U.bestX).toList = W := ⟨_, rfl⟩
                    rw [hwc] at hA9 hq9
                    replace hwc : Hid _ := hwc
                    have hBx2 : wb.rangeAt r 11 (incC U.bestX).toList := hBx
                    clear hBx
                    go_wp2_with (first
                      | ((with_reducible refine at_lod ?_); (refine wpList_load_mid' (by rfl) 23 _ rfl r 1 rfl (incC U.want).toList _ ?hg Try.underlying23 rfl (inc_size _) ?_; (case hg => exact hWn); (try simp only [Act.put, List.setIfInBounds_toArray, List.set_cons_zero, List.set_cons_succ])))
                      | ((with_reducible refine at_stx ?_); (refine wpList_store_mid' (by rfl) 23 _ _ rfl r 15 (incC U.want) rfl rfl ?hg (inc_size _) (inc_one _) ?_; (case hg => exact t1.out); rw [hwa.out]; (try simp only [Act.put, List.setIfInBounds_toArray, List.set_cons_zero, List.set_cons_succ])))
                      | ((with_reducible refine at_lod ?_); (refine wpList_load_mid' (by rfl) 23 _ rfl r 11 rfl (incC U.bestX).toList _ ?hg Try.underlying23 rfl (inc_size _) ?_; (case hg => exact hBx2); (try simp only [Act.put, List.setIfInBounds_toArray, List.set_cons_zero, List.set_cons_succ])))
                      | ((with_reducible refine at_stx ?_); (refine wpList_store_mid' (by rfl) 23 _ _ rfl r 15 (incC U.bestX) rfl rfl ?hg (inc_size _) (inc_one _) ?_; (case hg => exact t2.out); rw [hwc.out]; (try simp only [Act.put, List.setIfInBounds_toArray, List.set_cons_zero, List.set_cons_succ]))))
                    go_ret
                    exact ⟨by rw [hP.out]; rfl, by rw [hP.out]; exact hA9, hq9⟩
            | true =>
              have hm : hearM v j acc x g = { v with heard := setB v.heard j, best := acc, bestX := x, has := true } := hear_yes ht
              cases g with
              | false => cases ht
              | true =>
                cases hvh : v.has with
                | false =>
                  refine wp_region_plan (fun W => (Has W r 34 (refpC { v with heard := setB v.heard j }) ∧ Has W (w.heap.size + 1) 31 (balC acc)) ∧ Has W (w.heap.size + 1 + 1) 23 (incC x)) (Plan.of [(0, true), (1, true), (2, true), (3, true), (4, true), (5, true), (6, true), (7, true), (8, true), (9, true), (10, true), (11, true), (12, true), (13, false), (14, true), (15, true)] .done) (by kernel_rfl) (by kernel_rfl) (by kernel_rfl) (by kernel_rfl) ⟨⟨hA3.drew, hC3.drew⟩, hX3.drew⟩ ?_
                  iterate 5
                    first
                      | (refine plan_pass _ rfl (by rfl) ?_)
                      | (refine plan_take _ _ rfl (.inl ⟨by rfl, fun W hS => by clear hS; go_simp; try with_reducible rfl⟩) ?_)
                    try simp only [Act.put, List.setIfInBounds_toArray, List.set_cons_zero, List.set_cons_succ]
                  iterate 1
                    first
                      | (refine plan_pass _ rfl (by rfl) ?_)
                      | (refine plan_take _ _ rfl (.inl ⟨by rfl, fun W hS => by have z := rp_has hS.1.1; go_simp; try with_reducible rfl⟩) ?_)
                    try simp only [Act.put, List.setIfInBounds_toArray, List.set_cons_zero, List.set_cons_succ]
                  iterate 7
                    first
                      | (refine plan_pass _ rfl (by rfl) ?_)
                      | (refine plan_take _ _ rfl (.inl ⟨by rfl, fun W hS => by clear hS; go_simp; try with_reducible rfl⟩) ?_)
                    try simp only [Act.put, List.setIfInBounds_toArray, List.set_cons_zero, List.set_cons_succ]
                  refine plan_run _ rfl (fun K hK => ?_)
                  rw [if_neg (fun hh => Bool.noConfusion (show true = false from hh.symm.trans (by rfl)))]
                  refine hK.out _ _ ⟨⟨hA3.drew, hC3.drew⟩, hX3.drew⟩ ?_
                  clear hK K
                  try simp only [Act.put, List.setIfInBounds_toArray, List.set_cons_zero, List.set_cons_succ]
                  iterate 2
                    first
                      | (refine plan_pass _ rfl (by rfl) ?_)
                      | (refine plan_take _ _ rfl (.inl ⟨by rfl, fun W hS => by clear hS; go_simp; try with_reducible rfl⟩) ?_)
                    try simp only [Act.put, List.setIfInBounds_toArray, List.set_cons_zero, List.set_cons_succ]
                  refine plan_done ?_
                  replace hA3 := hA3.drew
                  replace hC3 := hC3.drew
                  replace hX3 := hX3.drew
                  replace hq3 := hq3.trans (But.of (p := r) ((Below.refl w3.heap.size w3).drew))
                  clear ht hvh
                  generalize w3.drew = w4 at *
                  have hD0 := hA3.drew.rp_setHas
                  have hD1 := hD0.rp_setBest acc
                  have hD2 := hD1.rp_setBestX x
                  have hCa := hC3.drew.cells_other (k := r) (by omega) [.bool true] 14
                  have hXa := hX3.drew.cells_other (k := r) (by omega) [.bool true] 14
                  have hCb := hCa.cells_other (k := r) (by omega) (balC acc).toList 9
                  have hXb := hXa.cells_other (k := r) (by omega) (balC acc).toList 9
                  have hCc := hCb.cells_other (k := r) (by omega) (incC x).toList 11
                  have hXc := hXb.cells_other (k := r) (by omega) (incC x).toList 11
                  have hqc := (hq3.trans (But.of (p := r) ((Below.refl w4.heap.size w4).drew))).trans ((but_setCells (w := w4.drew) (p := r) [.bool true] 14).trans ((but_setCells (p := r) (balC acc).toList 9).trans (but_setCells (p := r) (incC x).toList 11)))
                  have zh := rp_has hA3.drew
                  have zhf := hA3.drew.free 14
                  go_wp2
                  refine wp_region_plan (fun W => Has W (w.heap.size + 1) 31 (balC acc) ∧ Has W (w.heap.size + 1 + 1) 23 (incC x)) (Plan.of [(0, true), (1, true), (2, true), (3, true), (4, true), (5, true), (6, true), (7, false), (8, true), (9, true), (10, false), (11, true), (12, true), (13, false)] .done) (by kernel_rfl) (by kernel_rfl) (by kernel_rfl) (by kernel_rfl) ⟨hC3.drew, hX3.drew⟩ ?_
                  generalize w4.drew = wd at *
                  iterate 3
                    first
                      | (refine plan_pass _ rfl (by rfl) ?_)
                      | (refine plan_take _ _ rfl (.inl ⟨by rfl, fun W hS => by clear hS; go_simp; try with_reducible rfl⟩) ?_)
                    try simp only [Act.put, List.setIfInBounds_toArray, List.set_cons_zero, List.set_cons_succ]
                  refine plan_take _ _ rfl (yields_bal acc (by rfl) _ rfl (w.heap.size + 1) rfl (fun _ h => h.1)) ?_
                  try simp only [Act.put, List.setIfInBounds_toArray, List.set_cons_zero, List.set_cons_succ]
                  refine plan_take _ _ rfl (yields_inc x (by rfl) _ rfl (w.heap.size + 1 + 1) rfl (fun _ h => h.2)) ?_
                  try simp only [Act.put, List.setIfInBounds_toArray, List.set_cons_zero, List.set_cons_succ]
                  iterate 2
                    first
                      | (refine plan_pass _ rfl (by rfl) ?_)
                      | (refine plan_take _ _ rfl (.inl ⟨by rfl, fun W hS => by clear hS; go_simp; try with_reducible rfl⟩) ?_)
                    try simp only [Act.put, List.setIfInBounds_toArray, List.set_cons_zero, List.set_cons_succ]
                  refine plan_run _ rfl (fun K hK => ?_)
                  go_simp
                  refine hK.out _ _ ⟨hCa, hXa⟩ ?_
                  clear hK K
                  try simp only [Act.put, List.setIfInBounds_toArray, List.set_cons_zero, List.set_cons_succ]
                  iterate 2
                    first
                      | (refine plan_pass _ rfl (by rfl) ?_)
                      | (refine plan_take _ _ rfl (.inl ⟨by rfl, fun W hS => by clear hS; go_simp; try with_reducible rfl⟩) ?_)
                    try simp only [Act.put, List.setIfInBounds_toArray, List.set_cons_zero, List.set_cons_succ]
                  refine plan_store_mid rfl (by rfl) 31 _ _ rfl r 9 (balC acc) rfl rfl (hD0.there 9 2 (by show 9 + 2 ≤ 27; decide)) (bal_size acc) (bal_one acc) ⟨hCb, hXb⟩ ?_
                  try simp only [Act.put, List.setIfInBounds_toArray, List.set_cons_zero, List.set_cons_succ]
                  iterate 2
                    first
                      | (refine plan_pass _ rfl (by rfl) ?_)
                      | (refine plan_take _ _ rfl (.inl ⟨by rfl, fun W hS => by clear hS; go_simp; try with_reducible rfl⟩) ?_)
                    try simp only [Act.put, List.setIfInBounds_toArray, List.set_cons_zero, List.set_cons_succ]
                  refine plan_store_mid rfl (by rfl) 23 _ _ rfl r 11 (incC x) rfl rfl (hD1.there 11 3 (by show 11 + 3 ≤ 27; decide)) (inc_size x) (inc_one x) ⟨hCc, hXc⟩ ?_
                  try simp only [Act.put, List.setIfInBounds_toArray, List.set_cons_zero, List.set_cons_succ]
                  refine plan_done ?_
                  obtain ⟨w5, hw5⟩ : ∃ W, ((wd.setCell ⟨r, 14, none⟩ (.bool true)).setCells r 9 (balC acc).toList).setCells r 11 (incC x).toList = W := ⟨_, rfl⟩
                  have hD3 : Has w5 r 34 (refpC (hearM v j acc x true)) := by rw [hm, ← hw5]; exact hD2
                  replace hqc : But r w w5 := hw5 ▸ hqc
                  rw [hw5]
                  clear hm hD0 hD1 hD2 hCa hXa hCb hXb hCc hXc hq3 zh zhf hA3 hC3 hX3 hw5
                  have hA3 := hD3
                  have hq3 := hqc
                  clear hD3 hqc
                  generalize w5 = w4 at *
                  generalize hearM v j acc x true = U at *
                  have hRa := rp_hears hA3
                  rw [hh.out] at hRa
                  go_wp2_with ((with_reducible refine at_lod ?_); (refine wpList_load_mid' (by rfl) 32 _ rfl r 6 rfl (b3C (setB v.heard j)).toList _ ?hg Try.underlying32 rfl (b3_size _) ?_; (case hg => exact hRa)))
                  refine (rcount_any (setB v.heard j) _).mono ?_
                  rintro e w6 ⟨rfl, hq⟩
                  clear hRa
                  replace hA3 := hA3.later hq
                  replace hq3 := hq3.trans (But.of (p := r) hq)
                  clear hq
                  by_cases hc : cnt (setB v.heard j) < 2
                  · have hcI : ((cnt (setB v.heard j) : Nat) : Int) < 2 := by omega
                    rw [if_pos hc] at hP
                    generalize cnt (setB v.heard j) = q at *
                    go_wp2
                    go_ret
                    exact ⟨by rw [hP.out]; rfl, by rw [hP.out]; exact hA3, hq3⟩
                  · have hcI : ¬ ((cnt (setB v.heard j) : Nat) : Int) < 2 := by omega
                    have hcI2 : (2 : Int) ≤ ((cnt (setB v.heard j) : Nat) : Int) := by omega
                    rw [if_neg hc] at hP
                    generalize cnt (setB v.heard j) = q at *
                    have hWn := rp_want hA3
                    have t1 : Hid (World.there w6 r 15 (incC U.want).size) := hA3.there 15 3 (by show 15 + 3 ≤ 27; decide)
                    have hA7 := hA3.rp_setValue U.want
                    have hq7 := hq3.trans (but_setCells (w := w6) (p := r) (incC U.want).toList 15)
                    obtain ⟨wa, hwa⟩ : ∃ W, w6.setCells r 15 (incC U.want).toList = W := ⟨_, rfl⟩
                    rw [hwa] at hA7 hq7
                    have zv := rp_hasV hA7
                    have zvf := hA7.free 18
                    have hA8 := hA7.rp_setHasV
                    have hq8 := hq7.trans (but_setCells (w := wa) (p := r) [.bool true] 18)
                    obtain ⟨wb, hwb⟩ : ∃ W, wa.setCell ⟨r, 18, none⟩ (.bool true) = W := ⟨_, rfl⟩
                    rw [hwb] at hA8
                    replace hq8 : But r w wb := hwb ▸ hq8
                    have zhh := rp_has hA8
                    replace hwa : Hid _ := hwa
                    clear hA7 hq7 hA3 hq3
                    cases hu : U.has with
                    | false =>
                      replace zhh := zhh.trans (show _ = some (Value.bool false) by rw [← hu])
                      have hch : chosenX U = U.want := by unfold chosenX; rw [if_neg (by rw [hu]; decide)]
                      rw [hch] at hP
                      clear hu hch
                      go_wp2_with (first
                        | ((with_reducible refine at_lod ?_); (refine wpList_load_mid' (by rfl) 23 _ rfl r 1 rfl (incC U.want).toList _ ?hg Try.underlying23 rfl (inc_size _) ?_; (case hg => exact hWn); (try simp only [Act.put, List.setIfInBounds_toArray, List.set_cons_zero, List.set_cons_succ])))
                        | ((with_reducible refine at_stx ?_); (refine wpList_store_mid' (by rfl) 23 _ _ rfl r 15 (incC U.want) rfl rfl ?hg (inc_size _) (inc_one _) ?_; (case hg => exact t1.out); rw [hwa.out]; (try simp only [Act.put, List.setIfInBounds_toArray, List.set_cons_zero, List.set_cons_succ]))))
                      go_ret
                      exact ⟨by rw [hP.out]; rfl, by rw [hP.out]; exact hA8, hq8⟩
                    | true =>
                      replace zhh := zhh.trans (show _ = some (Value.bool true) by rw [← hu])
                      have hch : chosenX U = U.bestX := by unfold chosenX; rw [if_pos hu]
                      rw [hch] at hP
                      clear hu hch
                      have hBx := rp_bestX hA8
                      have t2 : Hid (World.there wb r 15 (incC U.bestX).size) := hA8.there 15 3 (by show 15 + 3 ≤ 27; decide)
                      have hA9 := hA8.rp_setValue U.bestX
                      have hq9 := hq8.trans (but_setCells (w := wb) (p := r) (incC U.bestX).toList 15)
                      obtain ⟨wc, hwc⟩ : ∃ W, wb.setCells r 15 (incC U.bestX).toList = W := ⟨_, rfl⟩
                      rw [hwc] at hA9 hq9
                      replace hwc : Hid _ := hwc
                      have hBx2 : wb.rangeAt r 11 (incC U.bestX).toList := hBx
                      clear hBx
                      go_wp2_with (first
                        | ((with_reducible refine at_lod ?_); (refine wpList_load_mid' (by rfl) 23 _ rfl r 1 rfl (incC U.want).toList _ ?hg Try.underlying23 rfl (inc_size _) ?_; (case hg => exact hWn); (try simp only [Act.put, List.setIfInBounds_toArray, List.set_cons_zero, List.set_cons_succ])))
                        | ((with_reducible refine at_stx ?_); (refine wpList_store_mid' (by rfl) 23 _ _ rfl r 15 (incC U.want) rfl rfl ?hg (inc_size _) (inc_one _) ?_; (case hg => exact t1.out); rw [hwa.out]; (try simp only [Act.put, List.setIfInBounds_toArray, List.set_cons_zero, List.set_cons_succ])))
                        | ((with_reducible refine at_lod ?_); (refine wpList_load_mid' (by rfl) 23 _ rfl r 11 rfl (incC U.bestX).toList _ ?hg Try.underlying23 rfl (inc_size _) ?_; (case hg => exact hBx2); (try simp only [Act.put, List.setIfInBounds_toArray, List.set_cons_zero, List.set_cons_succ])))
                        | ((with_reducible refine at_stx ?_); (refine wpList_store_mid' (by rfl) 23 _ _ rfl r 15 (incC U.bestX) rfl rfl ?hg (inc_size _) (inc_one _) ?_; (case hg => exact t2.out); rw [hwc.out]; (try simp only [Act.put, List.setIfInBounds_toArray, List.set_cons_zero, List.set_cons_succ]))))
                      go_ret
                      exact ⟨by rw [hP.out]; rfl, by rw [hP.out]; exact hA9, hq9⟩
                | true =>
                  have hl : lessB v.best acc = true := by
                    unfold takes at ht
                    rw [hvh] at ht
                    exact ht
                  have hA4 := hA3
                  refine wp_region_plan (fun W => (Has W r 34 (refpC { v with heard := setB v.heard j }) ∧ Has W (w.heap.size + 1) 31 (balC acc)) ∧ Has W (w.heap.size + 1 + 1) 23 (incC x)) (Plan.of [(0, true), (1, true), (2, true), (3, true), (4, true), (5, true), (6, true), (7, true), (8, true), (9, true), (10, true), (11, true), (12, true), (13, false), (14, true), (15, true)] .done) (by kernel_rfl) (by kernel_rfl) (by kernel_rfl) (by kernel_rfl) ⟨⟨hA4.drew, hC3.drew⟩, hX3.drew⟩ ?_
                  iterate 5
                    first
                      | (refine plan_pass _ rfl (by rfl) ?_)
                      | (refine plan_take _ _ rfl (.inl ⟨by rfl, fun W hS => by clear hS; go_simp; try with_reducible rfl⟩) ?_)
                    try simp only [Act.put, List.setIfInBounds_toArray, List.set_cons_zero, List.set_cons_succ]
                  iterate 1
                    first
                      | (refine plan_pass _ rfl (by rfl) ?_)
                      | (refine plan_take _ _ rfl (.inl ⟨by rfl, fun W hS => by have z := rp_has hS.1.1; go_simp; try with_reducible rfl⟩) ?_)
                    try simp only [Act.put, List.setIfInBounds_toArray, List.set_cons_zero, List.set_cons_succ]
                  iterate 2
                    first
                      | (refine plan_pass _ rfl (by rfl) ?_)
                      | (refine plan_take _ _ rfl (.inl ⟨by rfl, fun W hS => by clear hS; go_simp; try with_reducible rfl⟩) ?_)
                    try simp only [Act.put, List.setIfInBounds_toArray, List.set_cons_zero, List.set_cons_succ]
                  iterate 3
                    first
                      | (refine plan_pass _ rfl (by rfl) ?_)
                      | (refine plan_take _ _ rfl (.inl ⟨by rfl, fun W hS => by clear hS; go_simp; try with_reducible rfl⟩) ?_)
                    try simp only [Act.put, List.setIfInBounds_toArray, List.set_cons_zero, List.set_cons_succ]
                  refine plan_take _ _ rfl (yields_bal_mid v.best (by rfl) _ rfl r 9 rfl (fun _ h => by have z := rp_best h.1.1; exact z)) ?_
                  try simp only [Act.put, List.setIfInBounds_toArray, List.set_cons_zero, List.set_cons_succ]
                  refine plan_take _ _ rfl (yields_bal acc (by rfl) _ rfl (w.heap.size + 1) rfl (fun _ h => h.1.2)) ?_
                  try simp only [Act.put, List.setIfInBounds_toArray, List.set_cons_zero, List.set_cons_succ]
                  refine plan_run _ rfl (fun K hK => ?_)
                  go_simp
                  refine (rless_any v.best acc _ hv.best ha).mono ?_
                  rintro e w4 ⟨rfl, hq⟩
                  replace hA4 := hA4.drew.later hq
                  replace hC3 := hC3.drew.later hq
                  replace hX3 := hX3.drew.later hq
                  replace hq3 := (hq3.trans (But.of (p := r) ((Below.refl w3.heap.size w3).drew))).trans (But.of (p := r) hq)
                  refine hK.out _ _ ⟨⟨hA4, hC3⟩, hX3⟩ ?_
                  clear hK K hq hA3
                  try simp only [Act.put, List.setIfInBounds_toArray, List.set_cons_zero, List.set_cons_succ]
                  rw [hl]
                  iterate 2
                    first
                      | (refine plan_pass _ rfl (by rfl) ?_)
                      | (refine plan_take _ _ rfl (.inl ⟨by rfl, fun W hS => by clear hS; go_simp; try with_reducible rfl⟩) ?_)
                    try simp only [Act.put, List.setIfInBounds_toArray, List.set_cons_zero, List.set_cons_succ]
                  refine plan_done ?_
                  have hA3 := hA4
                  clear ht hA4 hvh hl
                  have hD0 := hA3.drew.rp_setHas
                  have hD1 := hD0.rp_setBest acc
                  have hD2 := hD1.rp_setBestX x
                  have hCa := hC3.drew.cells_other (k := r) (by omega) [.bool true] 14
                  have hXa := hX3.drew.cells_other (k := r) (by omega) [.bool true] 14
                  have hCb := hCa.cells_other (k := r) (by omega) (balC acc).toList 9
                  have hXb := hXa.cells_other (k := r) (by omega) (balC acc).toList 9
                  have hCc := hCb.cells_other (k := r) (by omega) (incC x).toList 11
                  have hXc := hXb.cells_other (k := r) (by omega) (incC x).toList 11
                  have hqc := (hq3.trans (But.of (p := r) ((Below.refl w4.heap.size w4).drew))).trans ((but_setCells (w := w4.drew) (p := r) [.bool true] 14).trans ((but_setCells (p := r) (balC acc).toList 9).trans (but_setCells (p := r) (incC x).toList 11)))
                  have zh := rp_has hA3.drew
                  have zhf := hA3.drew.free 14
                  go_wp2
                  refine wp_region_plan (fun W => Has W (w.heap.size + 1) 31 (balC acc) ∧ Has W (w.heap.size + 1 + 1) 23 (incC x)) (Plan.of [(0, true), (1, true), (2, true), (3, true), (4, true), (5, true), (6, true), (7, false), (8, true), (9, true), (10, false), (11, true), (12, true), (13, false)] .done) (by kernel_rfl) (by kernel_rfl) (by kernel_rfl) (by kernel_rfl) ⟨hC3.drew, hX3.drew⟩ ?_
                  generalize w4.drew = wd at *
                  iterate 3
                    first
                      | (refine plan_pass _ rfl (by rfl) ?_)
                      | (refine plan_take _ _ rfl (.inl ⟨by rfl, fun W hS => by clear hS; go_simp; try with_reducible rfl⟩) ?_)
                    try simp only [Act.put, List.setIfInBounds_toArray, List.set_cons_zero, List.set_cons_succ]
                  refine plan_take _ _ rfl (yields_bal acc (by rfl) _ rfl (w.heap.size + 1) rfl (fun _ h => h.1)) ?_
                  try simp only [Act.put, List.setIfInBounds_toArray, List.set_cons_zero, List.set_cons_succ]
                  refine plan_take _ _ rfl (yields_inc x (by rfl) _ rfl (w.heap.size + 1 + 1) rfl (fun _ h => h.2)) ?_
                  try simp only [Act.put, List.setIfInBounds_toArray, List.set_cons_zero, List.set_cons_succ]
                  iterate 2
                    first
                      | (refine plan_pass _ rfl (by rfl) ?_)
                      | (refine plan_take _ _ rfl (.inl ⟨by rfl, fun W hS => by clear hS; go_simp; try with_reducible rfl⟩) ?_)
                    try simp only [Act.put, List.setIfInBounds_toArray, List.set_cons_zero, List.set_cons_succ]
                  refine plan_run _ rfl (fun K hK => ?_)
                  go_simp
                  refine hK.out _ _ ⟨hCa, hXa⟩ ?_
                  clear hK K
                  try simp only [Act.put, List.setIfInBounds_toArray, List.set_cons_zero, List.set_cons_succ]
                  iterate 2
                    first
                      | (refine plan_pass _ rfl (by rfl) ?_)
                      | (refine plan_take _ _ rfl (.inl ⟨by rfl, fun W hS => by clear hS; go_simp; try with_reducible rfl⟩) ?_)
                    try simp only [Act.put, List.setIfInBounds_toArray, List.set_cons_zero, List.set_cons_succ]
                  refine plan_store_mid rfl (by rfl) 31 _ _ rfl r 9 (balC acc) rfl rfl (hD0.there 9 2 (by show 9 + 2 ≤ 27; decide)) (bal_size acc) (bal_one acc) ⟨hCb, hXb⟩ ?_
                  try simp only [Act.put, List.setIfInBounds_toArray, List.set_cons_zero, List.set_cons_succ]
                  iterate 2
                    first
                      | (refine plan_pass _ rfl (by rfl) ?_)
                      | (refine plan_take _ _ rfl (.inl ⟨by rfl, fun W hS => by clear hS; go_simp; try with_reducible rfl⟩) ?_)
                    try simp only [Act.put, List.setIfInBounds_toArray, List.set_cons_zero, List.set_cons_succ]
                  refine plan_store_mid rfl (by rfl) 23 _ _ rfl r 11 (incC x) rfl rfl (hD1.there 11 3 (by show 11 + 3 ≤ 27; decide)) (inc_size x) (inc_one x) ⟨hCc, hXc⟩ ?_
                  try simp only [Act.put, List.setIfInBounds_toArray, List.set_cons_zero, List.set_cons_succ]
                  refine plan_done ?_
                  obtain ⟨w5, hw5⟩ : ∃ W, ((wd.setCell ⟨r, 14, none⟩ (.bool true)).setCells r 9 (balC acc).toList).setCells r 11 (incC x).toList = W := ⟨_, rfl⟩
                  have hD3 : Has w5 r 34 (refpC (hearM v j acc x true)) := by rw [hm, ← hw5]; exact hD2
                  replace hqc : But r w w5 := hw5 ▸ hqc
                  rw [hw5]
                  clear hm hD0 hD1 hD2 hCa hXa hCb hXb hCc hXc hq3 zh zhf hA3 hC3 hX3 hw5
                  have hA3 := hD3
                  have hq3 := hqc
                  clear hD3 hqc
                  generalize w5 = w4 at *
                  generalize hearM v j acc x true = U at *
                  have hRa := rp_hears hA3
                  rw [hh.out] at hRa
                  go_wp2_with ((with_reducible refine at_lod ?_); (refine wpList_load_mid' (by rfl) 32 _ rfl r 6 rfl (b3C (setB v.heard j)).toList _ ?hg Try.underlying32 rfl (b3_size _) ?_; (case hg => exact hRa)))
                  refine (rcount_any (setB v.heard j) _).mono ?_
                  rintro e w6 ⟨rfl, hq⟩
                  clear hRa
                  replace hA3 := hA3.later hq
                  replace hq3 := hq3.trans (But.of (p := r) hq)
                  clear hq
                  by_cases hc : cnt (setB v.heard j) < 2
                  · have hcI : ((cnt (setB v.heard j) : Nat) : Int) < 2 := by omega
                    rw [if_pos hc] at hP
                    generalize cnt (setB v.heard j) = q at *
                    go_wp2
                    go_ret
                    exact ⟨by rw [hP.out]; rfl, by rw [hP.out]; exact hA3, hq3⟩
                  · have hcI : ¬ ((cnt (setB v.heard j) : Nat) : Int) < 2 := by omega
                    have hcI2 : (2 : Int) ≤ ((cnt (setB v.heard j) : Nat) : Int) := by omega
                    rw [if_neg hc] at hP
                    generalize cnt (setB v.heard j) = q at *
                    have hWn := rp_want hA3
                    have t1 : Hid (World.there w6 r 15 (incC U.want).size) := hA3.there 15 3 (by show 15 + 3 ≤ 27; decide)
                    have hA7 := hA3.rp_setValue U.want
                    have hq7 := hq3.trans (but_setCells (w := w6) (p := r) (incC U.want).toList 15)
                    obtain ⟨wa, hwa⟩ : ∃ W, w6.setCells r 15 (incC U.want).toList = W := ⟨_, rfl⟩
                    rw [hwa] at hA7 hq7
                    have zv := rp_hasV hA7
                    have zvf := hA7.free 18
                    have hA8 := hA7.rp_setHasV
                    have hq8 := hq7.trans (but_setCells (w := wa) (p := r) [.bool true] 18)
                    obtain ⟨wb, hwb⟩ : ∃ W, wa.setCell ⟨r, 18, none⟩ (.bool true) = W := ⟨_, rfl⟩
                    rw [hwb] at hA8
                    replace hq8 : But r w wb := hwb ▸ hq8
                    have zhh := rp_has hA8
                    replace hwa : Hid _ := hwa
                    clear hA7 hq7 hA3 hq3
                    cases hu : U.has with
                    | false =>
                      replace zhh := zhh.trans (show _ = some (Value.bool false) by rw [← hu])
                      have hch : chosenX U = U.want := by unfold chosenX; rw [if_neg (by rw [hu]; decide)]
                      rw [hch] at hP
                      clear hu hch
                      go_wp2_with (first
                        | ((with_reducible refine at_lod ?_); (refine wpList_load_mid' (by rfl) 23 _ rfl r 1 rfl (incC U.want).toList _ ?hg Try.underlying23 rfl (inc_size _) ?_; (case hg => exact hWn); (try simp only [Act.put, List.setIfInBounds_toArray, List.set_cons_zero, List.set_cons_succ])))
                        | ((with_reducible refine at_stx ?_); (refine wpList_store_mid' (by rfl) 23 _ _ rfl r 15 (incC U.want) rfl rfl ?hg (inc_size _) (inc_one _) ?_; (case hg => exact t1.out); rw [hwa.out]; (try simp only [Act.put, List.setIfInBounds_toArray, List.set_cons_zero, List.set_cons_succ]))))
                      go_ret
                      exact ⟨by rw [hP.out]; rfl, by rw [hP.out]; exact hA8, hq8⟩
                    | true =>
                      replace zhh := zhh.trans (show _ = some (Value.bool true) by rw [← hu])
                      have hch : chosenX U = U.bestX := by unfold chosenX; rw [if_pos hu]
                      rw [hch] at hP
                      clear hu hch
                      have hBx := rp_bestX hA8
                      have t2 : Hid (World.there wb r 15 (incC U.bestX).size) := hA8.there 15 3 (by show 15 + 3 ≤ 27; decide)
                      have hA9 := hA8.rp_setValue U.bestX
                      have hq9 := hq8.trans (but_setCells (w := wb) (p := r) (incC U.bestX).toList 15)
                      obtain ⟨wc, hwc⟩ : ∃ W, wb.setCells r 15 (incC U.bestX).toList = W := ⟨_, rfl⟩
                      rw [hwc] at hA9 hq9
                      replace hwc : Hid _ := hwc
                      have hBx2 : wb.rangeAt r 11 (incC U.bestX).toList := hBx
                      clear hBx
                      go_wp2_with (first
                        | ((with_reducible refine at_lod ?_); (refine wpList_load_mid' (by rfl) 23 _ rfl r 1 rfl (incC U.want).toList _ ?hg Try.underlying23 rfl (inc_size _) ?_; (case hg => exact hWn); (try simp only [Act.put, List.setIfInBounds_toArray, List.set_cons_zero, List.set_cons_succ])))
                        | ((with_reducible refine at_stx ?_); (refine wpList_store_mid' (by rfl) 23 _ _ rfl r 15 (incC U.want) rfl rfl ?hg (inc_size _) (inc_one _) ?_; (case hg => exact t1.out); rw [hwa.out]; (try simp only [Act.put, List.setIfInBounds_toArray, List.set_cons_zero, List.set_cons_succ])))
                        | ((with_reducible refine at_lod ?_); (refine wpList_load_mid' (by rfl) 23 _ rfl r 11 rfl (incC U.bestX).toList _ ?hg Try.underlying23 rfl (inc_size _) ?_; (case hg => exact hBx2); (try simp only [Act.put, List.setIfInBounds_toArray, List.set_cons_zero, List.set_cons_succ])))
                        | ((with_reducible refine at_stx ?_); (refine wpList_store_mid' (by rfl) 23 _ _ rfl r 15 (incC U.bestX) rfl rfl ?hg (inc_size _) (inc_one _) ?_; (case hg => exact t2.out); rw [hwc.out]; (try simp only [Act.put, List.setIfInBounds_toArray, List.set_cons_zero, List.set_cons_succ]))))
                      go_ret
                      exact ⟨by rw [hP.out]; rfl, by rw [hP.out]; exact hA9, hq9⟩
      · have hd : deaf v j b = true := by unfold deaf; simp [c1, c2, show 3 ≤ j by omega]; try omega
        have hP : Hid (promM v j b acc x g = (v, false)) := by show _ = _; unfold promM; rw [if_pos hd]
        clear hd
        refine wp_region_plan (fun W => (Has W r 34 (refpC v) ∧ Has W w.heap.size 31 (balC b)) ∧ Below w.heap.size w W) (Plan.of [(0, true), (1, true), (2, true), (3, true), (4, true), (5, true), (6, true), (7, true), (8, true), (9, true), (10, true), (11, true), (12, true), (13, true), (14, true), (15, true), (16, true), (17, true), (18, true), (19, true), (20, true), (21, true), (22, true), (23, true), (24, true), (25, true), (26, true), (27, true), (28, true), (29, true), (30, true), (31, true)] .done) (by kernel_rfl) (by kernel_rfl) (by kernel_rfl) (by kernel_rfl) ⟨⟨hA.drew, hB.drew⟩, hbw.drew⟩ ?_
        iterate 3
          first
            | (refine plan_pass _ rfl (by rfl) ?_)
            | (refine plan_take _ _ rfl (.inl ⟨by rfl, fun W hS => by clear hS; go_simp; try with_reducible rfl⟩) ?_)
          try simp only [Act.put, List.setIfInBounds_toArray, List.set_cons_zero, List.set_cons_succ]
        refine plan_take _ _ rfl (yields_bal_mid v.b (by rfl) _ rfl r 4 rfl (fun _ h => rp_b h.1.1)) ?_
        try simp only [Act.put, List.setIfInBounds_toArray, List.set_cons_zero, List.set_cons_succ]
        refine plan_take _ _ rfl (yields_build_bal0 (by rfl) rfl) ?_
        try simp only [Act.put, List.setIfInBounds_toArray, List.set_cons_zero, List.set_cons_succ]
        refine plan_take _ _ rfl (yields_bal_eq v.b bal0 hv.b bal0_ok (by rfl) _ _ _ rfl rfl rfl) ?_
        try simp only [Act.put, List.setIfInBounds_toArray, List.set_cons_zero, List.set_cons_succ]
        rw [c1]
        iterate 1
          first
            | (refine plan_pass _ rfl (by rfl) ?_)
            | (refine plan_take _ _ rfl (.inl ⟨by rfl, fun W hS => by clear hS; go_simp; try with_reducible rfl⟩) ?_)
          try simp only [Act.put, List.setIfInBounds_toArray, List.set_cons_zero, List.set_cons_succ]
        refine plan_take _ _ rfl (yields_bal b (by rfl) _ rfl w.heap.size rfl (fun _ h => h.1.2)) ?_
        try simp only [Act.put, List.setIfInBounds_toArray, List.set_cons_zero, List.set_cons_succ]
        iterate 3
          first
            | (refine plan_pass _ rfl (by rfl) ?_)
            | (refine plan_take _ _ rfl (.inl ⟨by rfl, fun W hS => by clear hS; go_simp; try with_reducible rfl⟩) ?_)
          try simp only [Act.put, List.setIfInBounds_toArray, List.set_cons_zero, List.set_cons_succ]
        refine plan_take _ _ rfl (yields_bal_mid v.b (by rfl) _ rfl r 4 rfl (fun _ h => rp_b h.1.1)) ?_
        try simp only [Act.put, List.setIfInBounds_toArray, List.set_cons_zero, List.set_cons_succ]
        refine plan_take _ _ rfl (yields_bal_ne b v.b hb hv.b (by rfl) _ _ _ rfl rfl rfl) ?_
        try simp only [Act.put, List.setIfInBounds_toArray, List.set_cons_zero, List.set_cons_succ]
        rw [c2]
        iterate 3
          first
            | (refine plan_pass _ rfl (by rfl) ?_)
            | (refine plan_take _ _ rfl (.inl ⟨by rfl, fun W hS => by clear hS; go_simp; try with_reducible rfl⟩) ?_)
          try simp only [Act.put, List.setIfInBounds_toArray, List.set_cons_zero, List.set_cons_succ]
        refine plan_take _ (.bool true) rfl (.inl ⟨by rfl, fun W hS => by clear hS; go_simp; try omega⟩) ?_
        try simp only [Act.put, List.setIfInBounds_toArray, List.set_cons_zero, List.set_cons_succ]
        iterate 15
          first
            | (refine plan_pass _ rfl (by rfl) ?_)
            | (refine plan_take _ _ rfl (.inl ⟨by rfl, fun W hS => by clear hS; go_simp; try with_reducible rfl⟩) ?_)
          try simp only [Act.put, List.setIfInBounds_toArray, List.set_cons_zero, List.set_cons_succ]
        refine plan_done ?_
        have hA2 := hA.drew
        have hw2 := hbw.drew
        clear hA hB hbw
        generalize w1.drew = w2 at *
        go_wp2
        go_ret
        exact ⟨by rw [hP.out]; rfl, by rw [hP.out]; exact hA2, But.of hw2⟩
end Go.Proofs.Ythpmkhbkbpifkaa
