/- paddocklaw11.agree returns true, where whatever two proposers decided is one and the same, and a wish. -/
import Derived.Test.YthpmkhbkbpifkaaSynUse
import Derived.Test.YthpmkhbkbpifkaaInc9
namespace Go.Proofs.Ythpmkhbkbpifkaa
set_option linter.unusedSimpArgs false
set_option linter.unusedVariables false
set_option maxRecDepth 100000
open Go.RowKit

def ptr3 (p : Nat → Nat) : Array Value := #[.pointer (some ⟨p 0, 0, none⟩), .pointer (some ⟨p 1, 0, none⟩), .pointer (some ⟨p 2, 0, none⟩)]
theorem ptr3_size (p : Nat → Nat) : (Try.prog.info? 46).map (·.size) = some (ptr3 p).size := by show _ = some 3; kernel_rfl
theorem ptr3_at {w : World} {g : Nat} {t : TypeId} {p : Nat → Nat} (h : Has w g t (ptr3 p)) (i : Nat) (hi : i < 3) : w.cell? ⟨g, i, none⟩ = some (.pointer (some ⟨p i, 0, none⟩)) := by
  have := h.cell i
  match i, hi with
  | 0, _ => exact this
  | 1, _ => exact this
  | 2, _ => exact this

theorem bin_inc_neD {ops : Array Oper} {rest : List Oper} {o : Oper} {a : Act} {w : World} {Q : Exit → Act → World → Prop} (y z : IncV) (r : Bool) (hr : (!sameInc y z) = r) (hy : IncOk y) (hz : IncOk z) (hw : Region.wanted o (yielded ops a.tmps) = true) (x x' : Operand) (ty' : TypeId) (ho : o.op = .binOp .neq 23 x x' ty') (hx : a.eval x = .agg (incC y)) (hx' : a.eval x' = .agg (incC z))
    (h : wpList Try.prog ops Q rest (a.put o.dst (.bool r)) w) : wpList Try.prog ops Q (o :: rest) a w := by
  subst hr
  exact bin_inc_ne y z hy hz hw x x' ty' ho hx hx' h
theorem ne_false {y z : IncV} (h : y = z) : (!sameInc y z) = false := by rw [(sameInc_is y z).2 h]; rfl
theorem ne_true {y z : IncV} (h : y ≠ z) : (!sameInc y z) = true := by
  have : sameInc y z = false := by
    rw [← Bool.not_eq_true, sameInc_is]
    exact h
  rw [this]
  rfl

/-- What is decided is one and the same, and a wish. -/
structure Same3 (s : Nat → ProV) (D x y z : IncV) : Prop where
  same : ∀ i, i < 3 → (s i).hasD = true → (s i).dec = D
  wish : ∀ i, i < 3 → (s i).hasD = true → D = x ∨ D = y ∨ D = z

set_option maxHeartbeats 8000000 in
theorem agree_any (p : Nat → Nat) (s : Nat → ProV) (D x y z : IncV) (w : World) (hP : ∀ i, i < 3 → Pro w (p i) (s i)) (hS : Same3 s D x y z) (hD : IncOk D) (hx : IncOk x) (hy : IncOk y) (hz : IncOk z) :
    Calls Try.prog 23 #[.agg (ptr3 p), .agg (inc9 x y z)] w fun e w' => e = .returned (.bool true) ∧ Below w.heap.size w w' := by
  obtain ⟨w1, hw1, hA, hX, hb⟩ := two_vars w 46 44 (ptr3 p) (inc9 x y z)
  obtain ⟨w2, hw2, hY, hq⟩ := new_var w1 23 (incC inc0) (incC inc0)
  have hs1 : w1.heap.size = w.heap.size + 2 := by rw [← hw1]; simp
  replace hA := hA.later hq
  replace hX := hX.later hq
  replace hb := hb.trans (hq.mono hb.size)
  clear hq
  go_enter Try.func23, Try.ntmps23
  go_wp2_with (first
    | ((with_reducible refine at_bld ?_); (refine build_inc0 (by rfl) rfl ?_; (try simp only [Act.put, List.setIfInBounds_toArray, List.set_cons_zero, List.set_cons_succ])))
    | ((with_reducible refine at_all ?_); (refine alloc_inc0 (by rfl) rfl ?_; (try simp only [Act.put, List.setIfInBounds_toArray, List.set_cons_zero, List.set_cons_succ])))
    | ((with_reducible refine at_sto ?_); (refine store_inc inc0 inc0 (by rfl) _ _ rfl w1.heap.size rfl rfl ?hg ?_; (case hg => exact Has.new _ _ _); rw [hw2]; (try simp only [Act.put, List.setIfInBounds_toArray, List.set_cons_zero, List.set_cons_succ]))))
  clear hw1 hw2
  obtain ⟨gy, hgy⟩ : ∃ q, w1.heap.size = q := ⟨_, rfl⟩
  rw [hgy] at hY hs1 ⊢
  clear hgy
  have hgy1 : w.heap.size + 1 < gy := by omega
  clear hs1
  go_loopw [5, 7] (fun sm i wr => ∃ (n : Nat) (b : Bool) (Y : IncV), n ≤ 3 ∧ i = .int .i64 n ∧ sm = .bool b ∧ Has wr w.heap.size 46 (ptr3 p) ∧ Has wr (w.heap.size + 1) 44 (inc9 x y z) ∧ Has wr gy 23 (incC Y) ∧ (b = true → Y = D) ∧ Below w.heap.size w wr) (fun _ i _ => 3 - (intOf i).toNat)
  case atStart => exact ⟨0, false, inc0, by decide, rfl, rfl, hA, hX, hY, (fun h => by cases h), hb⟩
  case round =>
    clear hA hX hY hb
    obtain ⟨n, bs, Y, hn, rfl, rfl, hA, hX, hY, hYD, hb⟩ := hrel
    by_cases hn3 : n < 3
    · have hnI : (n : Int) < 3 := by omega
      have za := ptr3_at hA n hn3
      have hPn := (hP n hn3).later (Below.refl _ _)
      have hPw : Pro wr (p n) (s n) := by
        have := (hP n hn3).later hb
        exact this
      have hDn := hS.same n hn3
      have hwn := hS.wish n hn3
      go_wp2_with fail
      refine (pdecided_any (p n) (s n) _ hPw).mono ?_
      rintro e w3 ⟨d, rfl, _, hd, hq⟩
      have hE := (((Env.start hb).add hA).add hX).later hq
      have hYv := hY.later hq
      clear hq za hPn hPw hA hX hY hb
      obtain ⟨w4, hw4, hG, hq⟩ := new_var w3 23 (incC inc0) (incC d)
      have hgd : gy ≠ w3.heap.size := by have := hYv.lt; omega
      replace hE := (hE.later hq).add hG
      replace hYv := hYv.later hq
      clear hq hG
      cases hh : (s n).hasD with
      | false =>
        go_wp2_with (first
          | ((with_reducible refine at_all ?_); (refine alloc_inc0 (by rfl) rfl ?_; (try simp only [Act.put, List.setIfInBounds_toArray, List.set_cons_zero, List.set_cons_succ])))
          | ((with_reducible refine at_sto ?_); (refine store_inc d inc0 (by rfl) _ _ rfl w3.heap.size rfl rfl ?hg ?_; (case hg => exact Has.new _ _ _); rw [hw4]; (try simp only [Act.put, List.setIfInBounds_toArray, List.set_cons_zero, List.set_cons_succ]))))
        go_roundw
        case rel => exact ⟨n + 1, bs, Y, by omega, by go_num, rfl, hE.get 0 rfl, hE.get 1 rfl, hYv, hYD, hE.below⟩
        case measure => simp [intOf]; omega
      | true =>
        obtain rfl : D = d := (hDn hh).symm.trans (hd hh).symm
        have hwish := hwn hh
        clear hd hDn hwn hh
        have hE5 := hE.drew.row_other gy (show w.heap.size ≤ gy by omega) (fun e he => by
          simp only [List.nil_append, List.cons_append, List.mem_cons, List.not_mem_nil, or_false] at he
          rcases he with he | he | he <;> rw [he]
          · show w.heap.size ≠ gy; omega
          · show w.heap.size + 1 ≠ gy; omega
          · exact Ne.symm hgd) (incC D)
        have rx := inc9_0 (hE.get 1 rfl)
        have ry := inc9_1 (hE.get 1 rfl)
        have rz := inc9_2 (hE.get 1 rfl)
        have gD := hE.get 2 rfl
        have hnw := Has.new w3 23 (incC inc0)
        cases bs with
        | true =>
          obtain rfl : D = Y := (hYD rfl).symm
          have gY := hYv
          have eD : Hid ((!sameInc D D) = false) := ne_false rfl
          by_cases c0 : D = x
          · have e0 : Hid ((!sameInc D x) = false) := ne_false c0
            clear c0
            go_wp2_with (first
          | ((with_reducible refine at_all ?_); (refine alloc_inc0 (by rfl) rfl ?_; (try simp only [Act.put, List.setIfInBounds_toArray, List.set_cons_zero, List.set_cons_succ])))
          | ((with_reducible refine at_sto ?_); (refine store_inc D inc0 (by rfl) _ _ rfl w3.heap.size rfl rfl ?hg ?_; (case hg => exact hnw); rw [hw4]; (try simp only [Act.put, List.setIfInBounds_toArray, List.set_cons_zero, List.set_cons_succ])))
              | ((with_reducible refine at_gr 1 true ?_); first
                | ((with_reducible refine at_loa ?_); first | (refine load_inc D (by rfl) _ rfl w3.heap.size rfl ?hg ?_; (case hg => exact gD); (try simp only [Act.put, List.setIfInBounds_toArray, List.set_cons_zero, List.set_cons_succ])) | (refine load_inc D (by rfl) _ rfl gy rfl ?hg ?_; (case hg => exact gY); (try simp only [Act.put, List.setIfInBounds_toArray, List.set_cons_zero, List.set_cons_succ])))
                | ((with_reducible refine at_bin ?_); (refine bin_inc_neD D D false ?hr hD hD (by rfl) _ _ _ rfl rfl rfl ?_; (case hr => exact eD.out); (try simp only [Act.put, List.setIfInBounds_toArray, List.set_cons_zero, List.set_cons_succ]))))
              | ((with_reducible refine at_gr 6 false ?_); first
                | ((with_reducible refine at_loa ?_); first | (refine load_inc D (by rfl) _ rfl w3.heap.size rfl ?hg ?_; (case hg => exact gD); (try simp only [Act.put, List.setIfInBounds_toArray, List.set_cons_zero, List.set_cons_succ])) | (refine wpList_load_mid' (by rfl) 23 _ rfl (w.heap.size + 1) 0 rfl (incC x).toList _ ?hg Try.underlying23 rfl (inc_size _) ?_; (case hg => exact rx); (try simp only [Act.put, List.setIfInBounds_toArray, List.set_cons_zero, List.set_cons_succ])))
                | ((with_reducible refine at_bin ?_); (refine bin_inc_neD D x false ?hr hD hx (by rfl) _ _ _ rfl rfl rfl ?_; (case hr => exact e0.out); (try simp only [Act.put, List.setIfInBounds_toArray, List.set_cons_zero, List.set_cons_succ])))))
            refine wp_region_plan (fun W => Env w W _) (Plan.of [(0, true), (1, true), (2, false)] .done) (by kernel_rfl) (by kernel_rfl) (by kernel_rfl) (by kernel_rfl) hE.drew ?_
            refine plan_take _ _ rfl (yields_inc D (by rfl) _ rfl w3.heap.size rfl (fun _ h => h.get 2 rfl)) ?_
            try simp only [Act.put, List.setIfInBounds_toArray, List.set_cons_zero, List.set_cons_succ]
            iterate 1
              first
                | (refine plan_pass _ rfl (by rfl) ?_)
                | (refine plan_take _ _ rfl (.inl ⟨by rfl, fun W hS => by clear hS; go_simp; try with_reducible rfl⟩) ?_)
              try simp only [Act.put, List.setIfInBounds_toArray, List.set_cons_zero, List.set_cons_succ]
            refine plan_store_has _ rfl (by rfl) 23 _ _ rfl gy rfl (incC D) rfl 23 (incC D) (inc_size _) rfl (inc_one _) hYv.drew hE5 ?_
            try simp only [Act.put, List.setIfInBounds_toArray, List.set_cons_zero, List.set_cons_succ]
            refine plan_done ?_
            go_wp2
            go_roundw
            case rel => exact ⟨n + 1, true, D, by omega, by go_num, rfl, hE5.get 0 rfl, hE5.get 1 rfl, hYv.drew.row (incC D), fun _ => rfl, hE5.below⟩
            case measure => simp [intOf]; omega
          · have e0 : Hid ((!sameInc D x) = true) := ne_true c0
            by_cases c1 : D = y
            · have e1 : Hid ((!sameInc D y) = false) := ne_false c1
              clear c0 c1
              go_wp2_with (first
          | ((with_reducible refine at_all ?_); (refine alloc_inc0 (by rfl) rfl ?_; (try simp only [Act.put, List.setIfInBounds_toArray, List.set_cons_zero, List.set_cons_succ])))
          | ((with_reducible refine at_sto ?_); (refine store_inc D inc0 (by rfl) _ _ rfl w3.heap.size rfl rfl ?hg ?_; (case hg => exact hnw); rw [hw4]; (try simp only [Act.put, List.setIfInBounds_toArray, List.set_cons_zero, List.set_cons_succ])))
                | ((with_reducible refine at_gr 1 true ?_); first
                  | ((with_reducible refine at_loa ?_); first | (refine load_inc D (by rfl) _ rfl w3.heap.size rfl ?hg ?_; (case hg => exact gD); (try simp only [Act.put, List.setIfInBounds_toArray, List.set_cons_zero, List.set_cons_succ])) | (refine load_inc D (by rfl) _ rfl gy rfl ?hg ?_; (case hg => exact gY); (try simp only [Act.put, List.setIfInBounds_toArray, List.set_cons_zero, List.set_cons_succ])))
                  | ((with_reducible refine at_bin ?_); (refine bin_inc_neD D D false ?hr hD hD (by rfl) _ _ _ rfl rfl rfl ?_; (case hr => exact eD.out); (try simp only [Act.put, List.setIfInBounds_toArray, List.set_cons_zero, List.set_cons_succ]))))
                | ((with_reducible refine at_gr 6 false ?_); first
                  | ((with_reducible refine at_loa ?_); first | (refine load_inc D (by rfl) _ rfl w3.heap.size rfl ?hg ?_; (case hg => exact gD); (try simp only [Act.put, List.setIfInBounds_toArray, List.set_cons_zero, List.set_cons_succ])) | (refine wpList_load_mid' (by rfl) 23 _ rfl (w.heap.size + 1) 0 rfl (incC x).toList _ ?hg Try.underlying23 rfl (inc_size _) ?_; (case hg => exact rx); (try simp only [Act.put, List.setIfInBounds_toArray, List.set_cons_zero, List.set_cons_succ])))
                  | ((with_reducible refine at_bin ?_); (refine bin_inc_neD D x true ?hr hD hx (by rfl) _ _ _ rfl rfl rfl ?_; (case hr => exact e0.out); (try simp only [Act.put, List.setIfInBounds_toArray, List.set_cons_zero, List.set_cons_succ]))))
                | ((with_reducible refine at_gr 11 true ?_); first
                  | ((with_reducible refine at_loa ?_); first | (refine load_inc D (by rfl) _ rfl w3.heap.size rfl ?hg ?_; (case hg => exact gD); (try simp only [Act.put, List.setIfInBounds_toArray, List.set_cons_zero, List.set_cons_succ])) | (refine wpList_load_mid' (by rfl) 23 _ rfl (w.heap.size + 1) 3 rfl (incC y).toList _ ?hg Try.underlying23 rfl (inc_size _) ?_; (case hg => exact ry); (try simp only [Act.put, List.setIfInBounds_toArray, List.set_cons_zero, List.set_cons_succ])))
                  | ((with_reducible refine at_bin ?_); (refine bin_inc_neD D y false ?hr hD hy (by rfl) _ _ _ rfl rfl rfl ?_; (case hr => exact e1.out); (try simp only [Act.put, List.setIfInBounds_toArray, List.set_cons_zero, List.set_cons_succ])))))
              refine wp_region_plan (fun W => Env w W _) (Plan.of [(0, true), (1, true), (2, false)] .done) (by kernel_rfl) (by kernel_rfl) (by kernel_rfl) (by kernel_rfl) hE.drew ?_
              refine plan_take _ _ rfl (yields_inc D (by rfl) _ rfl w3.heap.size rfl (fun _ h => h.get 2 rfl)) ?_
              try simp only [Act.put, List.setIfInBounds_toArray, List.set_cons_zero, List.set_cons_succ]
              iterate 1
                first
                  | (refine plan_pass _ rfl (by rfl) ?_)
                  | (refine plan_take _ _ rfl (.inl ⟨by rfl, fun W hS => by clear hS; go_simp; try with_reducible rfl⟩) ?_)
                try simp only [Act.put, List.setIfInBounds_toArray, List.set_cons_zero, List.set_cons_succ]
              refine plan_store_has _ rfl (by rfl) 23 _ _ rfl gy rfl (incC D) rfl 23 (incC D) (inc_size _) rfl (inc_one _) hYv.drew hE5 ?_
              try simp only [Act.put, List.setIfInBounds_toArray, List.set_cons_zero, List.set_cons_succ]
              refine plan_done ?_
              go_wp2
              go_roundw
              case rel => exact ⟨n + 1, true, D, by omega, by go_num, rfl, hE5.get 0 rfl, hE5.get 1 rfl, hYv.drew.row (incC D), fun _ => rfl, hE5.below⟩
              case measure => simp [intOf]; omega
            · have e1 : Hid ((!sameInc D y) = true) := ne_true c1
              have e2 : Hid ((!sameInc D z) = false) := ne_false (by rcases hwish with q | q | q; exact absurd q c0; exact absurd q c1; exact q)
              clear c0 c1
              go_wp2_with (first
          | ((with_reducible refine at_all ?_); (refine alloc_inc0 (by rfl) rfl ?_; (try simp only [Act.put, List.setIfInBounds_toArray, List.set_cons_zero, List.set_cons_succ])))
          | ((with_reducible refine at_sto ?_); (refine store_inc D inc0 (by rfl) _ _ rfl w3.heap.size rfl rfl ?hg ?_; (case hg => exact hnw); rw [hw4]; (try simp only [Act.put, List.setIfInBounds_toArray, List.set_cons_zero, List.set_cons_succ])))
                | ((with_reducible refine at_gr 1 true ?_); first
                  | ((with_reducible refine at_loa ?_); first | (refine load_inc D (by rfl) _ rfl w3.heap.size rfl ?hg ?_; (case hg => exact gD); (try simp only [Act.put, List.setIfInBounds_toArray, List.set_cons_zero, List.set_cons_succ])) | (refine load_inc D (by rfl) _ rfl gy rfl ?hg ?_; (case hg => exact gY); (try simp only [Act.put, List.setIfInBounds_toArray, List.set_cons_zero, List.set_cons_succ])))
                  | ((with_reducible refine at_bin ?_); (refine bin_inc_neD D D false ?hr hD hD (by rfl) _ _ _ rfl rfl rfl ?_; (case hr => exact eD.out); (try simp only [Act.put, List.setIfInBounds_toArray, List.set_cons_zero, List.set_cons_succ]))))
                | ((with_reducible refine at_gr 6 false ?_); first
                  | ((with_reducible refine at_loa ?_); first | (refine load_inc D (by rfl) _ rfl w3.heap.size rfl ?hg ?_; (case hg => exact gD); (try simp only [Act.put, List.setIfInBounds_toArray, List.set_cons_zero, List.set_cons_succ])) | (refine wpList_load_mid' (by rfl) 23 _ rfl (w.heap.size + 1) 0 rfl (incC x).toList _ ?hg Try.underlying23 rfl (inc_size _) ?_; (case hg => exact rx); (try simp only [Act.put, List.setIfInBounds_toArray, List.set_cons_zero, List.set_cons_succ])))
                  | ((with_reducible refine at_bin ?_); (refine bin_inc_neD D x true ?hr hD hx (by rfl) _ _ _ rfl rfl rfl ?_; (case hr => exact e0.out); (try simp only [Act.put, List.setIfInBounds_toArray, List.set_cons_zero, List.set_cons_succ]))))
                | ((with_reducible refine at_gr 11 true ?_); first
                  | ((with_reducible refine at_loa ?_); first | (refine load_inc D (by rfl) _ rfl w3.heap.size rfl ?hg ?_; (case hg => exact gD); (try simp only [Act.put, List.setIfInBounds_toArray, List.set_cons_zero, List.set_cons_succ])) | (refine wpList_load_mid' (by rfl) 23 _ rfl (w.heap.size + 1) 3 rfl (incC y).toList _ ?hg Try.underlying23 rfl (inc_size _) ?_; (case hg => exact ry); (try simp only [Act.put, List.setIfInBounds_toArray, List.set_cons_zero, List.set_cons_succ])))
                  | ((with_reducible refine at_bin ?_); (refine bin_inc_neD D y true ?hr hD hy (by rfl) _ _ _ rfl rfl rfl ?_; (case hr => exact e1.out); (try simp only [Act.put, List.setIfInBounds_toArray, List.set_cons_zero, List.set_cons_succ]))))
                | ((with_reducible refine at_gr 17 true ?_); first
                  | ((with_reducible refine at_loa ?_); first | (refine load_inc D (by rfl) _ rfl w3.heap.size rfl ?hg ?_; (case hg => exact gD); (try simp only [Act.put, List.setIfInBounds_toArray, List.set_cons_zero, List.set_cons_succ])) | (refine wpList_load_mid' (by rfl) 23 _ rfl (w.heap.size + 1) 6 rfl (incC z).toList _ ?hg Try.underlying23 rfl (inc_size _) ?_; (case hg => exact rz); (try simp only [Act.put, List.setIfInBounds_toArray, List.set_cons_zero, List.set_cons_succ])))
                  | ((with_reducible refine at_bin ?_); (refine bin_inc_neD D z false ?hr hD hz (by rfl) _ _ _ rfl rfl rfl ?_; (case hr => exact e2.out); (try simp only [Act.put, List.setIfInBounds_toArray, List.set_cons_zero, List.set_cons_succ])))))
              refine wp_region_plan (fun W => Env w W _) (Plan.of [(0, true), (1, true), (2, false)] .done) (by kernel_rfl) (by kernel_rfl) (by kernel_rfl) (by kernel_rfl) hE.drew ?_
              refine plan_take _ _ rfl (yields_inc D (by rfl) _ rfl w3.heap.size rfl (fun _ h => h.get 2 rfl)) ?_
              try simp only [Act.put, List.setIfInBounds_toArray, List.set_cons_zero, List.set_cons_succ]
              iterate 1
                first
                  | (refine plan_pass _ rfl (by rfl) ?_)
                  | (refine plan_take _ _ rfl (.inl ⟨by rfl, fun W hS => by clear hS; go_simp; try with_reducible rfl⟩) ?_)
                try simp only [Act.put, List.setIfInBounds_toArray, List.set_cons_zero, List.set_cons_succ]
              refine plan_store_has _ rfl (by rfl) 23 _ _ rfl gy rfl (incC D) rfl 23 (incC D) (inc_size _) rfl (inc_one _) hYv.drew hE5 ?_
              try simp only [Act.put, List.setIfInBounds_toArray, List.set_cons_zero, List.set_cons_succ]
              refine plan_done ?_
              go_wp2
              go_roundw
              case rel => exact ⟨n + 1, true, D, by omega, by go_num, rfl, hE5.get 0 rfl, hE5.get 1 rfl, hYv.drew.row (incC D), fun _ => rfl, hE5.below⟩
              case measure => simp [intOf]; omega
        | false =>
          by_cases c0 : D = x
          · have e0 : Hid ((!sameInc D x) = false) := ne_false c0
            clear c0
            go_wp2_with (first
          | ((with_reducible refine at_all ?_); (refine alloc_inc0 (by rfl) rfl ?_; (try simp only [Act.put, List.setIfInBounds_toArray, List.set_cons_zero, List.set_cons_succ])))
          | ((with_reducible refine at_sto ?_); (refine store_inc D inc0 (by rfl) _ _ rfl w3.heap.size rfl rfl ?hg ?_; (case hg => exact hnw); rw [hw4]; (try simp only [Act.put, List.setIfInBounds_toArray, List.set_cons_zero, List.set_cons_succ])))
              | ((with_reducible refine at_gr 6 false ?_); first
                | ((with_reducible refine at_loa ?_); first | (refine load_inc D (by rfl) _ rfl w3.heap.size rfl ?hg ?_; (case hg => exact gD); (try simp only [Act.put, List.setIfInBounds_toArray, List.set_cons_zero, List.set_cons_succ])) | (refine wpList_load_mid' (by rfl) 23 _ rfl (w.heap.size + 1) 0 rfl (incC x).toList _ ?hg Try.underlying23 rfl (inc_size _) ?_; (case hg => exact rx); (try simp only [Act.put, List.setIfInBounds_toArray, List.set_cons_zero, List.set_cons_succ])))
                | ((with_reducible refine at_bin ?_); (refine bin_inc_neD D x false ?hr hD hx (by rfl) _ _ _ rfl rfl rfl ?_; (case hr => exact e0.out); (try simp only [Act.put, List.setIfInBounds_toArray, List.set_cons_zero, List.set_cons_succ])))))
            refine wp_region_plan (fun W => Env w W _) (Plan.of [(0, true), (1, true), (2, false)] .done) (by kernel_rfl) (by kernel_rfl) (by kernel_rfl) (by kernel_rfl) hE.drew ?_
            refine plan_take _ _ rfl (yields_inc D (by rfl) _ rfl w3.heap.size rfl (fun _ h => h.get 2 rfl)) ?_
            try simp only [Act.put, List.setIfInBounds_toArray, List.set_cons_zero, List.set_cons_succ]
            iterate 1
              first
                | (refine plan_pass _ rfl (by rfl) ?_)
                | (refine plan_take _ _ rfl (.inl ⟨by rfl, fun W hS => by clear hS; go_simp; try with_reducible rfl⟩) ?_)
              try simp only [Act.put, List.setIfInBounds_toArray, List.set_cons_zero, List.set_cons_succ]
            refine plan_store_has _ rfl (by rfl) 23 _ _ rfl gy rfl (incC D) rfl 23 (incC Y) (inc_size _) rfl (inc_one _) hYv.drew hE5 ?_
            try simp only [Act.put, List.setIfInBounds_toArray, List.set_cons_zero, List.set_cons_succ]
            refine plan_done ?_
            go_wp2
            go_roundw
            case rel => exact ⟨n + 1, true, D, by omega, by go_num, rfl, hE5.get 0 rfl, hE5.get 1 rfl, hYv.drew.row (incC D), fun _ => rfl, hE5.below⟩
            case measure => simp [intOf]; omega
          · have e0 : Hid ((!sameInc D x) = true) := ne_true c0
            by_cases c1 : D = y
            · have e1 : Hid ((!sameInc D y) = false) := ne_false c1
              clear c0 c1
              go_wp2_with (first
          | ((with_reducible refine at_all ?_); (refine alloc_inc0 (by rfl) rfl ?_; (try simp only [Act.put, List.setIfInBounds_toArray, List.set_cons_zero, List.set_cons_succ])))
          | ((with_reducible refine at_sto ?_); (refine store_inc D inc0 (by rfl) _ _ rfl w3.heap.size rfl rfl ?hg ?_; (case hg => exact hnw); rw [hw4]; (try simp only [Act.put, List.setIfInBounds_toArray, List.set_cons_zero, List.set_cons_succ])))
                | ((with_reducible refine at_gr 6 false ?_); first
                  | ((with_reducible refine at_loa ?_); first | (refine load_inc D (by rfl) _ rfl w3.heap.size rfl ?hg ?_; (case hg => exact gD); (try simp only [Act.put, List.setIfInBounds_toArray, List.set_cons_zero, List.set_cons_succ])) | (refine wpList_load_mid' (by rfl) 23 _ rfl (w.heap.size + 1) 0 rfl (incC x).toList _ ?hg Try.underlying23 rfl (inc_size _) ?_; (case hg => exact rx); (try simp only [Act.put, List.setIfInBounds_toArray, List.set_cons_zero, List.set_cons_succ])))
                  | ((with_reducible refine at_bin ?_); (refine bin_inc_neD D x true ?hr hD hx (by rfl) _ _ _ rfl rfl rfl ?_; (case hr => exact e0.out); (try simp only [Act.put, List.setIfInBounds_toArray, List.set_cons_zero, List.set_cons_succ]))))
                | ((with_reducible refine at_gr 11 true ?_); first
                  | ((with_reducible refine at_loa ?_); first | (refine load_inc D (by rfl) _ rfl w3.heap.size rfl ?hg ?_; (case hg => exact gD); (try simp only [Act.put, List.setIfInBounds_toArray, List.set_cons_zero, List.set_cons_succ])) | (refine wpList_load_mid' (by rfl) 23 _ rfl (w.heap.size + 1) 3 rfl (incC y).toList _ ?hg Try.underlying23 rfl (inc_size _) ?_; (case hg => exact ry); (try simp only [Act.put, List.setIfInBounds_toArray, List.set_cons_zero, List.set_cons_succ])))
                  | ((with_reducible refine at_bin ?_); (refine bin_inc_neD D y false ?hr hD hy (by rfl) _ _ _ rfl rfl rfl ?_; (case hr => exact e1.out); (try simp only [Act.put, List.setIfInBounds_toArray, List.set_cons_zero, List.set_cons_succ])))))
              refine wp_region_plan (fun W => Env w W _) (Plan.of [(0, true), (1, true), (2, false)] .done) (by kernel_rfl) (by kernel_rfl) (by kernel_rfl) (by kernel_rfl) hE.drew ?_
              refine plan_take _ _ rfl (yields_inc D (by rfl) _ rfl w3.heap.size rfl (fun _ h => h.get 2 rfl)) ?_
              try simp only [Act.put, List.setIfInBounds_toArray, List.set_cons_zero, List.set_cons_succ]
              iterate 1
                first
                  | (refine plan_pass _ rfl (by rfl) ?_)
                  | (refine plan_take _ _ rfl (.inl ⟨by rfl, fun W hS => by clear hS; go_simp; try with_reducible rfl⟩) ?_)
                try simp only [Act.put, List.setIfInBounds_toArray, List.set_cons_zero, List.set_cons_succ]
              refine plan_store_has _ rfl (by rfl) 23 _ _ rfl gy rfl (incC D) rfl 23 (incC Y) (inc_size _) rfl (inc_one _) hYv.drew hE5 ?_
              try simp only [Act.put, List.setIfInBounds_toArray, List.set_cons_zero, List.set_cons_succ]
              refine plan_done ?_
              go_wp2
              go_roundw
              case rel => exact ⟨n + 1, true, D, by omega, by go_num, rfl, hE5.get 0 rfl, hE5.get 1 rfl, hYv.drew.row (incC D), fun _ => rfl, hE5.below⟩
              case measure => simp [intOf]; omega
            · have e1 : Hid ((!sameInc D y) = true) := ne_true c1
              have e2 : Hid ((!sameInc D z) = false) := ne_false (by rcases hwish with q | q | q; exact absurd q c0; exact absurd q c1; exact q)
              clear c0 c1
              go_wp2_with (first
          | ((with_reducible refine at_all ?_); (refine alloc_inc0 (by rfl) rfl ?_; (try simp only [Act.put, List.setIfInBounds_toArray, List.set_cons_zero, List.set_cons_succ])))
          | ((with_reducible refine at_sto ?_); (refine store_inc D inc0 (by rfl) _ _ rfl w3.heap.size rfl rfl ?hg ?_; (case hg => exact hnw); rw [hw4]; (try simp only [Act.put, List.setIfInBounds_toArray, List.set_cons_zero, List.set_cons_succ])))
                | ((with_reducible refine at_gr 6 false ?_); first
                  | ((with_reducible refine at_loa ?_); first | (refine load_inc D (by rfl) _ rfl w3.heap.size rfl ?hg ?_; (case hg => exact gD); (try simp only [Act.put, List.setIfInBounds_toArray, List.set_cons_zero, List.set_cons_succ])) | (refine wpList_load_mid' (by rfl) 23 _ rfl (w.heap.size + 1) 0 rfl (incC x).toList _ ?hg Try.underlying23 rfl (inc_size _) ?_; (case hg => exact rx); (try simp only [Act.put, List.setIfInBounds_toArray, List.set_cons_zero, List.set_cons_succ])))
                  | ((with_reducible refine at_bin ?_); (refine bin_inc_neD D x true ?hr hD hx (by rfl) _ _ _ rfl rfl rfl ?_; (case hr => exact e0.out); (try simp only [Act.put, List.setIfInBounds_toArray, List.set_cons_zero, List.set_cons_succ]))))
                | ((with_reducible refine at_gr 11 true ?_); first
                  | ((with_reducible refine at_loa ?_); first | (refine load_inc D (by rfl) _ rfl w3.heap.size rfl ?hg ?_; (case hg => exact gD); (try simp only [Act.put, List.setIfInBounds_toArray, List.set_cons_zero, List.set_cons_succ])) | (refine wpList_load_mid' (by rfl) 23 _ rfl (w.heap.size + 1) 3 rfl (incC y).toList _ ?hg Try.underlying23 rfl (inc_size _) ?_; (case hg => exact ry); (try simp only [Act.put, List.setIfInBounds_toArray, List.set_cons_zero, List.set_cons_succ])))
                  | ((with_reducible refine at_bin ?_); (refine bin_inc_neD D y true ?hr hD hy (by rfl) _ _ _ rfl rfl rfl ?_; (case hr => exact e1.out); (try simp only [Act.put, List.setIfInBounds_toArray, List.set_cons_zero, List.set_cons_succ]))))
                | ((with_reducible refine at_gr 17 true ?_); first
                  | ((with_reducible refine at_loa ?_); first | (refine load_inc D (by rfl) _ rfl w3.heap.size rfl ?hg ?_; (case hg => exact gD); (try simp only [Act.put, List.setIfInBounds_toArray, List.set_cons_zero, List.set_cons_succ])) | (refine wpList_load_mid' (by rfl) 23 _ rfl (w.heap.size + 1) 6 rfl (incC z).toList _ ?hg Try.underlying23 rfl (inc_size _) ?_; (case hg => exact rz); (try simp only [Act.put, List.setIfInBounds_toArray, List.set_cons_zero, List.set_cons_succ])))
                  | ((with_reducible refine at_bin ?_); (refine bin_inc_neD D z false ?hr hD hz (by rfl) _ _ _ rfl rfl rfl ?_; (case hr => exact e2.out); (try simp only [Act.put, List.setIfInBounds_toArray, List.set_cons_zero, List.set_cons_succ])))))
              refine wp_region_plan (fun W => Env w W _) (Plan.of [(0, true), (1, true), (2, false)] .done) (by kernel_rfl) (by kernel_rfl) (by kernel_rfl) (by kernel_rfl) hE.drew ?_
              refine plan_take _ _ rfl (yields_inc D (by rfl) _ rfl w3.heap.size rfl (fun _ h => h.get 2 rfl)) ?_
              try simp only [Act.put, List.setIfInBounds_toArray, List.set_cons_zero, List.set_cons_succ]
              iterate 1
                first
                  | (refine plan_pass _ rfl (by rfl) ?_)
                  | (refine plan_take _ _ rfl (.inl ⟨by rfl, fun W hS => by clear hS; go_simp; try with_reducible rfl⟩) ?_)
                try simp only [Act.put, List.setIfInBounds_toArray, List.set_cons_zero, List.set_cons_succ]
              refine plan_store_has _ rfl (by rfl) 23 _ _ rfl gy rfl (incC D) rfl 23 (incC Y) (inc_size _) rfl (inc_one _) hYv.drew hE5 ?_
              try simp only [Act.put, List.setIfInBounds_toArray, List.set_cons_zero, List.set_cons_succ]
              refine plan_done ?_
              go_wp2
              go_roundw
              case rel => exact ⟨n + 1, true, D, by omega, by go_num, rfl, hE5.get 0 rfl, hE5.get 1 rfl, hYv.drew.row (incC D), fun _ => rfl, hE5.below⟩
              case measure => simp [intOf]; omega
    · have hnI : ¬ (n : Int) < 3 := by omega
      have hnI2 : (3 : Int) ≤ (n : Int) := by omega
      go_wp2
      go_ret
      exact ⟨rfl, hb⟩
end Go.Proofs.Ythpmkhbkbpifkaa
