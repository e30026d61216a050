/- paddocklaw9.ChooseBest returns true, for whatever states and turn, where package history answers as it has to. -/
import Derived.Test.YtlbokkbngbpmiaaTwoOwn
import Derived.Test.YtlbokkbngbpmiaaRefLacks9
namespace Go.Proofs.Ytlbokkbngbpmiaa
set_option linter.unusedSimpArgs false
set_option linter.unusedVariables false
set_option maxRecDepth 100000
open Go.RowKit

theorem fewB_ok9 {xs : List StE} (h : fewB xs = true) : (∀ x ∈ xs, x.st.log.length ≤ 12) ∧ xs.length ≤ 8 := by
  unfold fewB at h
  rw [Bool.and_eq_true, List.all_eq_true] at h
  exact ⟨fun x hx => of_decide_eq_true (h.1 x hx), of_decide_eq_true h.2⟩

theorem run_add_i64c {P : Program} {o : Oper} {ev : Operand → Value} (ty ty' : TypeId) (x y : Operand) (ho : o.op = .binOp .add ty x y ty') (n m k : Nat) (hx : ev x = .int .i64 (n : Int)) (hy : ev y = .int .i64 (m : Int)) (hk : n + m = k) (hl : k < 1000000) (w : World) :
    (execOp ev o).run P w = .ok (.value (.int .i64 (k : Int))) w := by
  subst hk
  have h4 : IntKind.i64.wrap ((n : Int) + (m : Int)) = ((n + m : Nat) : Int) := by rw [IntKind.wrap_i64]; omega
  unfold execOp
  simp only [ho, hx, hy]
  simp [Sem.run_bind, go_sem, h4]
theorem turnS_all {xs : List StE} {t n : Nat} (h : allIs (stsOf xs) = true) : allIs (stsOf (turnS xs t n)) = true := by
  unfold allIs at h ⊢
  rw [List.all_eq_true] at h ⊢
  intro s hs
  obtain ⟨x, hx, rfl⟩ := List.mem_map.1 hs
  exact h x.st (List.mem_map.2 ⟨x, turnS_mem hx, rfl⟩)

set_option maxHeartbeats 16000000 in
theorem best_walk9 {Is : World → Nat → List IncV → (Nat → Prop) → Prop} (S : HistSpec Is) (so : Option Addr) (sc : Nat) (xs : List StE) (t : Nat) (w : World)
    (hT : Sl w so sc 49 (rowsS xs)) (hTok : ∀ x ∈ xs, (x.st.log.length ≤ 12 → StOk x.st) ∧ Sl w x.ao x.c 8 (entR x.st.log)) (ht : t < 256) :
    Calls Try.prog 4 #[.slice so xs.length sc, .int .u8 t] w fun e w' => e = .returned (.bool true) ∧ Below w.heap.size w w' := by
  have htcap := hT.cap
  have htle := hT.le
  rw [rowsS_len] at htle
  have hfl : ∀ x ∈ xs, x.st.log.length ≤ 9223372036854775807 := fun x hx => by
    have h1 := (hTok x hx).2.le
    have h2 := (hTok x hx).2.cap
    have h3 : (entR x.st.log).length = x.st.log.length := by unfold entR; rw [List.length_map]
    omega
  have hfw := fun {W} (hb : Below w.heap.size w W) => few9_any so sc xs W (hT.later hb) hfl (by omega)
  have hfok : Hid (fewB xs = true → (∀ x ∈ xs, x.st.log.length ≤ 12) ∧ xs.length ≤ 8) := fewB_ok9
  generalize hfe : fewB xs = fb at *
  clear hfe
  cases fb with
  | false =>
    go_enter Try.func4, Try.ntmps4
    go_wp2_with (first
      | (go_at_call 9; refine (known9_any S _).mono ?_; rintro e w1 ⟨rfl, hb⟩)
      | (go_at_call 10; refine (hfw hb).mono ?_; rintro e w2 ⟨rfl, hw2⟩; subst hw2))
    go_ret
    exact ⟨rfl, hb⟩
  | true =>
    obtain ⟨hf12, hf8⟩ := hfok.out rfl
    clear hfok
    by_cases h0 : xs.length = 0
    · have h0' : ((xs.length : Int) == 0) = true := by rw [beq_iff_eq]; omega
      have h0'' : (xs.length == 0) = true := by rw [beq_iff_eq]; exact h0
      obtain ⟨m, hm⟩ : ∃ m, xs.length = m := ⟨_, rfl⟩
      rw [hm] at h0 hfw h0' h0''
      rw [hm]
      subst h0
      clear hm h0' h0''
      go_enter Try.func4, Try.ntmps4
      go_wp2_with (first
        | (go_at_call 9; refine (known9_any S _).mono ?_; rintro e w1 ⟨rfl, hb⟩)
        | (go_at_call 10; refine (hfw hb).mono ?_; rintro e w2 ⟨rfl, hw2⟩; subst hw2))
      go_ret
      exact ⟨rfl, hb⟩
    · obtain ⟨m, hm⟩ : ∃ m, xs.length = m := ⟨_, rfl⟩
      rw [hm] at h0 hfw hf8 htle
      rw [hm]
      replace hm : Hid (xs.length = m) := hm
      have hz1 : ((m : Int) == 0) = false := by rw [beq_eq_false_iff_ne]; omega
      have hz2 : (m == 0) = false := by rw [beq_eq_false_iff_ne]; exact h0
      by_cases h5 : 5 < m
      · have h5I : (5 : Int) < (m : Int) := by omega
        go_enter Try.func4, Try.ntmps4
        go_wp2_with (first
          | (go_at_call 9; refine (known9_any S _).mono ?_; rintro e w1 ⟨rfl, hb⟩)
          | (go_at_call 10; refine (hfw hb).mono ?_; rintro e w2 ⟨rfl, hw2⟩; subst hw2))
        go_ret
        exact ⟨rfl, hb⟩
      · have h5I : (m : Int) ≤ 5 := by omega
        have d5 : decide ((5 : Int) < (m : Int)) = false := decide_eq_false (by omega)
        have hTS : StS w so sc xs := ⟨hT, fun x hx => ⟨(hTok x hx).1 (hf12 x hx), (hTok x hx).2⟩⟩
        cases so with
        | none => have := hT.nil rfl; omega
        | some ad =>
          clear hT hTok hfl hf12
          go_enter Try.func4, Try.ntmps4
          go_wp2_with (first
            | (go_at_call 9; refine (known9_any S _).mono ?_; rintro e w1 ⟨rfl, hb⟩)
            | (go_at_call 10; refine (hfw hb).mono ?_; rintro e w2 ⟨rfl, hw2⟩; replace hw2 := hw2.symm; subst hw2))
          clear hfw
          go_loopw [5, 8] (fun v i wr => ∃ n : Nat, n ≤ m ∧ i = .int .i64 n ∧ wr.ownsRow w1.heap.size 3 1 v (upTo n).length (intsC (upTo n)) ∧ (∀ k (hk : k < xs.length), k < n → isSt xs[k].st = true) ∧ Below w1.heap.size w1 wr) (fun _ i _ => m - (intOf i).toNat)
          case atStart => exact ⟨0, Nat.zero_le _, rfl, World.ownsRow_nil _ _ _ _, (fun k hk h0 => absurd h0 (by omega)), Below.refl _ _⟩
          case round =>
            obtain ⟨n, hn, rfl, hown, hall, hbn⟩ := hrel
            by_cases hlt' : n < m
            · have hnI : (n : Int) < (m : Int) := by omega
              have hlt : n < xs.length := by rw [hm.out]; exact hlt'
              have hbw := hb.trans (hbn.mono hb.size)
              have cx := (hTS.later hbw).row n hlt
              obtain ⟨hok, hlog⟩ := hTS.ok xs[n] (List.getElem_mem hlt)
              have hgoodi : Hid (isSt xs[n].st = true → ∀ k (hk : k < xs.length), k < n + 1 → isSt xs[k].st = true) := fun hi k hk hkn => by
                by_cases e : k < n
                · exact hall k hk e
                · obtain rfl : k = n := by omega
                  exact hi
              clear hall
              generalize xs[n] = x at *
              go_wp2_with (first
                | (refine wpList_load_any (by rfl) 63 _ rfl (ad.add (n * 49)) rfl (stL x.st x.ao x.c) _ ?hg Try.underlying63 rfl (st_size _ _ _) ?_; (case hg => exact cx)))
              refine (refis_any7 x.st x.ao x.c _ hok (hlog.later hbw)).mono ?_
              rintro e w4 ⟨rfl, hq⟩
              replace hbn := hbn.trans (hq.mono hbn.size)
              replace hbw := hbw.trans (hq.mono hbw.size)
              replace hown := own_below hown hq
              clear hq cx
              cases hi : isSt x.st with
              | false =>
                go_wp2
                go_ret
                exact ⟨rfl, hbw⟩
              | true =>
                have hG : Hid _ := hgoodi.out hi
                have hX := Has.new w4 3 #[.int .i64 (n : Int)]
                have hIx : Ix (w4.alloc (.cells #[.int .i64 (n : Int)] 3)) (some ⟨w4.heap.size, 0, none⟩) 1 [(n : Int)] := ix_new [(n : Int)] w4 (by show 1 ≤ 1000; decide)
                have hown2 := hown.alloc (.cells #[.int .i64 (n : Int)] 3)
                have hbn2 := hbn.alloc hbn.size (.cells #[.int .i64 (n : Int)] 3)
                have hul := upTo_len n
                obtain ⟨v3, w7, hr3, hown3, hg3⟩ := run_appendI _ 22 w1.heap.size _ (upTo n) [(n : Int)] hown2 _ 1 hIx (by show _ + 1 ≤ 1000; omega) hbn2.size
                have hb7 := hbn2.grown hg3 hbn2.size (fun k hk => (hown2.lt k hk).1)
                rw [← upTo_succ] at hown3
                go_wp2_with (first
                  | (refine wpList_appendI (by rfl) _ _ 22 22 rfl _ (.slice (some ⟨w4.heap.size, 0, none⟩) 1 1) rfl rfl v3 w7 ?hg ?_; (case hg => exact hr3)))
                go_roundw
                case rel => exact ⟨n + 1, by omega, by go_num, hown3, hG.out, hb7⟩
                case measure => simp [intOf]; omega
            · obtain rfl : n = m := by omega
              have hnI : ¬ (n : Int) < (n : Int) := by omega
              have hbw := hb.trans (hbn.mono hb.size)
              obtain ⟨_, oo, oc, rfl, hO⟩ := ix_own hown
              have hul := upTo_len n
              rw [hul]
              have hTw := hTS.later hbw
              have hallT : Hid (allIs (stsOf xs) = true) := allIs_take fun k hk => hall k hk (by rw [← hm.out]; exact hk)
              clear hown hall
              obtain ⟨w8, hw8⟩ : ∃ W, W = wr := ⟨_, rfl⟩
              subst hw8
              go_wp2
              have htI : (t : Int) < 256 := by omega
              have hpos : 0 < xs.length := by rw [hm.out]; omega
              go_loopw [6, 7, 9] (fun v6 v7 i wz => ∃ k : Nat, k ≤ n ∧ i = .int .i64 k ∧ TwoOwn wz w8.heap.size v6 v7 (turnL n t k) (turnS xs t k) ∧ Below w8.heap.size w8 wz) (fun _ _ i _ => n - (intOf i).toNat)
              case atStart => exact ⟨0, Nat.zero_le _, rfl, TwoOwn.nil _ _, Below.refl _ _⟩
              case round =>
                obtain ⟨k, hk, rfl, hTO, hbz⟩ := hrel
                by_cases hkl : k < n
                · have hkI : (k : Int) < (n : Int) := by omega
                  obtain ⟨q, hq⟩ : ∃ q, (k + t) % n = q := ⟨_, rfl⟩
                  have hqn : q < n := by rw [← hq]; exact Nat.mod_lt _ (by omega)
                  have hqx : q < xs.length := by rw [hm.out]; exact hqn
                  have hqI : (q : Int) < (n : Int) := by omega
                  have hsL : Hid (turnL n t (k + 1) = turnL n t k ++ [(q : Int)]) := by show _ = _; rw [turnL_succ, hq]
                  have hsS : Hid (turnS xs t (k + 1) = turnS xs t k ++ [xs[q]]) := by
                    show _ = _
                    have hq' : (k + t) % xs.length = q := by rw [hm.out]; exact hq
                    rw [turnS_succ (by rw [hq']; exact hqx)]
                    simp only [hq']
                  have hlL := turnL_len n t k
                  have hlS : (turnS xs t k).length = k := turnS_len t hpos k
                  have hq' : Hid _ := hq
                  have hrow : ∀ W, Below w8.heap.size w8 W → ∀ j v, (stL xs[q].st xs[q].ao xs[q].c)[j]? = some v → W.cell? ((ad.add (q * 49)).add j) = some v := fun W hW => (hTw.later hW).row q hqx
                  clear hq
                  generalize xs[q] = x at *
                  generalize turnL n t k = TL at *
                  generalize turnS xs t k = TS at *
                  go_wp2_with (first
                    | (refine wpList_val (.int .i64 ((k + t : Nat) : Int)) (by rfl) (run_add_i64c _ _ _ _ rfl k t (k + t) rfl rfl rfl (by omega)) ?_)
                    | (refine wpList_val (.int .i64 (q : Int)) (by rfl) (run_rem_i64 _ _ _ _ rfl (k + t) n q rfl rfl (by omega) (by omega) hq'.out) ?_))
                  have hT0 := hTO.drew
                  have b0 := hbz.drew
                  refine wp_region_plan (fun W => Below w8.heap.size w8 W) (Plan.of [(0, true), (1, true), (4, true), (5, true), (6, true), (7, true), (8, true)] (.either 2 (.either 3 (Plan.of [(9, false), (10, false), (11, true), (12, true)] .done) 9 (Plan.of [(3, false), (10, false), (11, true), (12, true)] .done)) 9 (Plan.of [(2, false), (3, false), (10, false), (11, true), (12, true)] .done))) (by kernel_rfl) (by kernel_rfl) (by kernel_rfl) (by kernel_rfl) b0 ?_
                  iterate 6
                    first
                      | (refine plan_pass _ rfl (by rfl) ?_)
                      | (refine plan_take _ _ rfl (.inl ⟨by rfl, fun W hS => by clear hS; go_simp; try with_reducible rfl⟩) ?_)
                    try simp only [Act.put, List.setIfInBounds_toArray, List.set_cons_zero, List.set_cons_succ]
                  refine plan_take _ _ rfl (yields_load_any9 (by rfl) 63 _ rfl (ad.add (q * 49)) rfl (stL x.st x.ao x.c) _ (fun W hW => hrow W hW) Try.underlying63 rfl (st_size _ _ _)) ?_
                  try simp only [Act.put, List.setIfInBounds_toArray, List.set_cons_zero, List.set_cons_succ]
                  obtain ⟨W0, hW0⟩ : ∃ W, wr.drew = W := ⟨_, rfl⟩
                  rw [hW0] at hT0 b0 ⊢
                  clear hW0 hTO hbz
                  refine plan_either ?_ ?_
                  · obtain ⟨W1, hW1⟩ : ∃ W, (W0).alloc (.cells #[.int .i64 (q : Int)] 3) = W := ⟨_, rfl⟩
                    have hX : Has W1 (W0).heap.size 3 #[.int .i64 (q : Int)] := by rw [← hW1]; exact Has.new _ _ _
                    have hT1 := (hT0).alloc (.cells #[.int .i64 (q : Int)] 3)
                    have b1 := (b0).alloc (b0).size (.cells #[.int .i64 (q : Int)] 3)
                    rw [hW1] at hT1 b1
                    refine plan_is9 _ (.slice (some ⟨(W0).heap.size, 0, none⟩) 1 1) W1 rfl (by rfl) (run_slice_one9 22 _ rfl (.int .i64 (q : Int)) rfl _ _ _ (by rw [← hW1]; exact ints_one (q : Int) (W0))) b1 ?_
                    try simp only [Act.put, List.setIfInBounds_toArray, List.set_cons_zero, List.set_cons_succ]
                    refine plan_either ?_ ?_
                    · obtain ⟨va, W2, hr2, hT2, hg2⟩ := (hT1).app6 (b1).size (by omega) (hX)
                      have b2 : Below w8.heap.size w8 W2 := (b1).grown hg2 (b1).size (fun k hk => ((hT1).o6.lt k hk).1)
                      refine plan_is9 _ va W2 rfl (by rfl) (run_append_opI _ _ 22 22 rfl u6 (.slice (some ⟨(W0).heap.size, 0, none⟩) 1 1) rfl rfl va _ W2 hr2) b2 ?_
                      try simp only [Act.put, List.setIfInBounds_toArray, List.set_cons_zero, List.set_cons_succ]
                      obtain ⟨W3, hW3⟩ : ∃ W, (W2).alloc (.cells (stC x.st x.ao x.c) 63) = W := ⟨_, rfl⟩
                      have hZ : Has W3 (W2).heap.size 63 (stC x.st x.ao x.c) := by rw [← hW3]; exact Has.new _ _ _
                      have hT3 := (hT2).alloc (.cells (stC x.st x.ao x.c) 63)
                      have b3 := (b2).alloc (b2).size (.cells (stC x.st x.ao x.c) 63)
                      rw [hW3] at hT3 b3
                      refine plan_is9 _ (.slice (some ⟨(W2).heap.size, 0, none⟩) 1 1) W3 rfl (by rfl) (run_slice_one9 23 _ rfl (.agg (stC x.st x.ao x.c)) rfl _ _ _ (by rw [← hW3]; exact sts_one x (W2))) b3 ?_
                      try simp only [Act.put, List.setIfInBounds_toArray, List.set_cons_zero, List.set_cons_succ]
                      obtain ⟨vb, W4, hr4, hT4, hg4⟩ := (hT3).app7 (b3).size (by omega) (hZ)
                      have b4 : Below w8.heap.size w8 W4 := (b3).grown hg4 (b3).size (fun k hk => ((hT3).o7.lt k hk).1)
                      refine plan_is9 _ vb W4 rfl (by rfl) (run_append_opI _ _ 23 23 rfl u7 (.slice (some ⟨(W2).heap.size, 0, none⟩) 1 1) rfl rfl vb _ W4 hr4) b4 ?_
                      try simp only [Act.put, List.setIfInBounds_toArray, List.set_cons_zero, List.set_cons_succ]
                      iterate 2
                        first
                          | (refine plan_pass _ rfl (by rfl) ?_)
                          | (refine plan_take _ _ rfl (.inl ⟨by rfl, fun W hS => by clear hS; go_simp; try with_reducible rfl⟩) ?_)
                        try simp only [Act.put, List.setIfInBounds_toArray, List.set_cons_zero, List.set_cons_succ]
                      refine plan_done ?_
                      rw [← hsL.out, ← hsS.out] at hT4
                      go_wp2
                      go_roundw
                      case rel => exact ⟨k + 1, by omega, by go_num, hT4, b4⟩
                      case measure => simp [intOf]; omega
                    · obtain ⟨W3, hW3⟩ : ∃ W, (W1).alloc (.cells (stC x.st x.ao x.c) 63) = W := ⟨_, rfl⟩
                      have hZ : Has W3 (W1).heap.size 63 (stC x.st x.ao x.c) := by rw [← hW3]; exact Has.new _ _ _
                      have hT3 := (hT1).alloc (.cells (stC x.st x.ao x.c) 63)
                      have b3 := (b1).alloc (b1).size (.cells (stC x.st x.ao x.c) 63)
                      rw [hW3] at hT3 b3
                      refine plan_is9 _ (.slice (some ⟨(W1).heap.size, 0, none⟩) 1 1) W3 rfl (by rfl) (run_slice_one9 23 _ rfl (.agg (stC x.st x.ao x.c)) rfl _ _ _ (by rw [← hW3]; exact sts_one x (W1))) b3 ?_
                      try simp only [Act.put, List.setIfInBounds_toArray, List.set_cons_zero, List.set_cons_succ]
                      have hX2 := hX.alloc (.cells (stC x.st x.ao x.c) 63)
                      rw [hW3] at hX2
                      obtain ⟨va, W2, hr2, hT2, hg2⟩ := (hT3).app6 (b3).size (by omega) (hX2)
                      have b2 : Below w8.heap.size w8 W2 := (b3).grown hg2 (b3).size (fun k hk => ((hT3).o6.lt k hk).1)
                      refine plan_is9 _ va W2 rfl (by rfl) (run_append_opI _ _ 22 22 rfl u6 (.slice (some ⟨(W0).heap.size, 0, none⟩) 1 1) rfl rfl va _ W2 hr2) b2 ?_
                      try simp only [Act.put, List.setIfInBounds_toArray, List.set_cons_zero, List.set_cons_succ]
                      have hZ2 := has_grown9 hZ hg2 (fun e => by have := (hT1.o6.lt _ e).2; omega)
                      obtain ⟨vb, W4, hr4, hT4, hg4⟩ := (hT2).app7 (b2).size (by omega) (hZ2)
                      have b4 : Below w8.heap.size w8 W4 := (b2).grown hg4 (b2).size (fun k hk => ((hT2).o7.lt k hk).1)
                      refine plan_is9 _ vb W4 rfl (by rfl) (run_append_opI _ _ 23 23 rfl u7 (.slice (some ⟨(W1).heap.size, 0, none⟩) 1 1) rfl rfl vb _ W4 hr4) b4 ?_
                      try simp only [Act.put, List.setIfInBounds_toArray, List.set_cons_zero, List.set_cons_succ]
                      iterate 2
                        first
                          | (refine plan_pass _ rfl (by rfl) ?_)
                          | (refine plan_take _ _ rfl (.inl ⟨by rfl, fun W hS => by clear hS; go_simp; try with_reducible rfl⟩) ?_)
                        try simp only [Act.put, List.setIfInBounds_toArray, List.set_cons_zero, List.set_cons_succ]
                      refine plan_done ?_
                      rw [← hsL.out, ← hsS.out] at hT4
                      go_wp2
                      go_roundw
                      case rel => exact ⟨k + 1, by omega, by go_num, hT4, b4⟩
                      case measure => simp [intOf]; omega
                  · obtain ⟨W3, hW3⟩ : ∃ W, (W0).alloc (.cells (stC x.st x.ao x.c) 63) = W := ⟨_, rfl⟩
                    have hZ : Has W3 (W0).heap.size 63 (stC x.st x.ao x.c) := by rw [← hW3]; exact Has.new _ _ _
                    have hT3 := (hT0).alloc (.cells (stC x.st x.ao x.c) 63)
                    have b3 := (b0).alloc (b0).size (.cells (stC x.st x.ao x.c) 63)
                    rw [hW3] at hT3 b3
                    refine plan_is9 _ (.slice (some ⟨(W0).heap.size, 0, none⟩) 1 1) W3 rfl (by rfl) (run_slice_one9 23 _ rfl (.agg (stC x.st x.ao x.c)) rfl _ _ _ (by rw [← hW3]; exact sts_one x (W0))) b3 ?_
                    try simp only [Act.put, List.setIfInBounds_toArray, List.set_cons_zero, List.set_cons_succ]
                    obtain ⟨W1, hW1⟩ : ∃ W, (W3).alloc (.cells #[.int .i64 (q : Int)] 3) = W := ⟨_, rfl⟩
                    have hX : Has W1 (W3).heap.size 3 #[.int .i64 (q : Int)] := by rw [← hW1]; exact Has.new _ _ _
                    have hT1 := (hT3).alloc (.cells #[.int .i64 (q : Int)] 3)
                    have b1 := (b3).alloc (b3).size (.cells #[.int .i64 (q : Int)] 3)
                    rw [hW1] at hT1 b1
                    refine plan_is9 _ (.slice (some ⟨(W3).heap.size, 0, none⟩) 1 1) W1 rfl (by rfl) (run_slice_one9 22 _ rfl (.int .i64 (q : Int)) rfl _ _ _ (by rw [← hW1]; exact ints_one (q : Int) (W3))) b1 ?_
                    try simp only [Act.put, List.setIfInBounds_toArray, List.set_cons_zero, List.set_cons_succ]
                    have hZa := hZ.alloc (.cells #[.int .i64 (q : Int)] 3)
                    rw [hW1] at hZa
                    obtain ⟨va, W2, hr2, hT2, hg2⟩ := (hT1).app6 (b1).size (by omega) (hX)
                    have b2 : Below w8.heap.size w8 W2 := (b1).grown hg2 (b1).size (fun k hk => ((hT1).o6.lt k hk).1)
                    refine plan_is9 _ va W2 rfl (by rfl) (run_append_opI _ _ 22 22 rfl u6 (.slice (some ⟨(W3).heap.size, 0, none⟩) 1 1) rfl rfl va _ W2 hr2) b2 ?_
                    try simp only [Act.put, List.setIfInBounds_toArray, List.set_cons_zero, List.set_cons_succ]
                    have hZ2 := has_grown9 hZa hg2 (fun e => by have := (hT0.o6.lt _ e).2; omega)
                    obtain ⟨vb, W4, hr4, hT4, hg4⟩ := (hT2).app7 (b2).size (by omega) (hZ2)
                    have b4 : Below w8.heap.size w8 W4 := (b2).grown hg4 (b2).size (fun k hk => ((hT2).o7.lt k hk).1)
                    refine plan_is9 _ vb W4 rfl (by rfl) (run_append_opI _ _ 23 23 rfl u7 (.slice (some ⟨(W0).heap.size, 0, none⟩) 1 1) rfl rfl vb _ W4 hr4) b4 ?_
                    try simp only [Act.put, List.setIfInBounds_toArray, List.set_cons_zero, List.set_cons_succ]
                    iterate 2
                      first
                        | (refine plan_pass _ rfl (by rfl) ?_)
                        | (refine plan_take _ _ rfl (.inl ⟨by rfl, fun W hS => by clear hS; go_simp; try with_reducible rfl⟩) ?_)
                      try simp only [Act.put, List.setIfInBounds_toArray, List.set_cons_zero, List.set_cons_succ]
                    refine plan_done ?_
                    rw [← hsL.out, ← hsS.out] at hT4
                    go_wp2
                    go_roundw
                    case rel => exact ⟨k + 1, by omega, by go_num, hT4, b4⟩
                    case measure => simp [intOf]; omega
                · obtain rfl : k = n := by omega
                  have hkI : ¬ (k : Int) < (k : Int) := by omega
                  obtain ⟨_, po, pc, rfl, hP⟩ := ix_own hTO.o6
                  obtain ⟨lo, lc, rfl, hLs⟩ := sts_own hTO.o7 rfl
                  have hlL := turnL_len k t k
                  have hlS : (turnS xs t k).length = k := turnS_len t hpos k
                  have hTz := hTw.later hbz
                  have hOz := hO.later hbz
                  have hbq := hbw.trans (hbz.mono hbw.size)
                  have hLS : StS wr lo lc (turnS xs t k) := ⟨hLs, fun y hy => ⟨(hTz.ok y (turnS_mem hy)).1, (hTz.ok y (turnS_mem hy)).2⟩⟩
                  obtain ⟨b, c, hbl, hcl, hbe, hce, hoc, htop⟩ := best_two t hpos hallT.out (turnS_all (t := t) (n := xs.length) hallT.out)
                  rw [hm.out] at hbl hcl hbe hce hoc htop
                  have hB1 := Best_any oo oc (upTo k) (some ad) sc xs wr hOz hTz (by rw [hm.out]; omega) (by omega)
                  rw [hul, hm.out, hbe] at hB1
                  rw [hlL, hlS]
                  clear hTO hLs
                  go_wp2_with fail
                  refine hB1.mono ?_
                  rintro e wa ⟨rfl, hq⟩
                  replace hLS := hLS.later hq
                  replace hTz := hTz.later hq
                  replace hP := hP.later hq
                  replace hbq := hbq.trans (hq.mono hbq.size)
                  clear hq hB1
                  have hB2 := Best_any po pc (turnL k t k) lo lc (turnS xs t k) wa hP hLS (by omega) (by omega)
                  rw [hlL, hlS, hce] at hB2
                  go_wp2_with fail
                  refine hB2.mono ?_
                  rintro e wb ⟨rfl, hq⟩
                  replace hTz := hTz.later hq
                  replace hP := hP.later hq
                  replace hbq := hbq.trans (hq.mono hbq.size)
                  clear hq hB2 hLS
                  have hPcap := hP.cap
                  have hPle := hP.le
                  cases po with
                  | none => have := hP.nil rfl; omega
                  | some pd =>
                    have hcP : c < (turnL k t k).length := by omega
                    have cp := hP.at' pd rfl c hcP
                    rw [show (turnL k t k)[c] = (b : Int) by rw [← hoc]; simp [List.getD, hcP]] at cp
                    have hbI : ¬ (b : Int) < 0 := by omega
                    have hcI : ¬ (c : Int) < 0 := by omega
                    have db : decide ((b : Int) < 0) = false := decide_eq_false (by omega)
                    have dc : decide ((c : Int) < 0) = false := decide_eq_false (by omega)
                    have hckI : (c : Int) < (k : Int) := by omega
                    have hbkI : (b : Int) < (k : Int) := by omega
                    have hbx : b < xs.length := by rw [hm.out]; exact hbl
                    have hrowb : ∀ W, Below wb.heap.size wb W → ∀ j v, (stL xs[b].st xs[b].ao xs[b].c)[j]? = some v → W.cell? ((ad.add (b * 49)).add j) = some v := fun W hW => (hTz.later hW).row b hbx
                    obtain ⟨hbok, hblog⟩ := hTz.ok xs[b] (List.getElem_mem hbx)
                    have htop' : Hid (∀ j (hj : j < xs.length), ¬ (xs[b].st.started < xs[j].st.started ∨ (xs[j].st.started = xs[b].st.started ∧ ((headM xs[b].st).1 < (headM xs[j].st).1 ∨ ((headM xs[j].st).1 = (headM xs[b].st).1 ∧ (headM xs[b].st).2 < (headM xs[j].st).2))))) := fun j hj hh => by
                      have h1 := htop j (by rw [← hm.out]; exact hj)
                      rw [beats_is] at h1
                      unfold rankAt rankOf at h1
                      rw [stsOf_get xs j hj, stsOf_get xs b hbx] at h1
                      refine h1 ?_
                      rcases hh with h | ⟨h2, h | ⟨h3, h4⟩⟩
                      · exact .inl h
                      · exact .inr ⟨h2, .inl h⟩
                      · exact .inr ⟨h2, .inr ⟨h3, .inl h4⟩⟩
                    clear htop hbe hce hoc hO hOz hP hTw
                    generalize xs[b] = X at *
                    go_wp2
                    go_loopw [13] (fun i wz => ∃ j : Nat, j ≤ k ∧ i = .int .i64 j ∧ Below wb.heap.size wb wz) (fun i _ => k - (intOf i).toNat)
                    case atStart => exact ⟨0, Nat.zero_le _, rfl, Below.refl _ _⟩
                    case round =>
                      obtain ⟨j, hj, rfl, hbj⟩ := hrel
                      by_cases hjk : j < k
                      · have hjI : (j : Int) < (k : Int) := by omega
                        have hjx : j < xs.length := by rw [hm.out]; exact hjk
                        have hrowj : ∀ W, Below wb.heap.size wb W → ∀ i v, (stL xs[j].st xs[j].ao xs[j].c)[i]? = some v → W.cell? ((ad.add (j * 49)).add i) = some v := fun W hW => (hTz.later hW).row j hjx
                        obtain ⟨hjok, hjlog⟩ := hTz.ok xs[j] (List.getElem_mem hjx)
                        have htj := htop'.out j hjx
                        generalize xs[j] = Y at *
                        have cj := hrowj _ hbj
                        go_wp2_with (first
                          | (refine wpList_load_any (by rfl) 63 _ rfl (ad.add (j * 49)) rfl (stL Y.st Y.ao Y.c) _ ?hg Try.underlying63 rfl (st_size _ _ _) ?_; (case hg => exact cj)))
                        refine (refhead_any Y.st Y.ao Y.c _ hjok (hjlog.later hbj)).mono ?_
                        rintro e wc ⟨rfl, hq⟩
                        replace hbj := hbj.trans (hq.mono hbj.size)
                        clear hq cj
                        have cb := hrowb _ hbj
                        go_wp2_with (first
                          | (refine wpList_load_any (by rfl) 63 _ rfl (ad.add (b * 49)) rfl (stL X.st X.ao X.c) _ ?hg Try.underlying63 rfl (st_size _ _ _) ?_; (case hg => exact cb)))
                        refine (refhead_any X.st X.ao X.c _ hbok (hblog.later hbj)).mono ?_
                        rintro e wd ⟨rfl, hq⟩
                        replace hbj := hbj.trans (hq.mono hbj.size)
                        clear hq cb
                        have hz : ∀ W, Below wb.heap.size wb W → W.cell? (ad.add (j * 49)) = some (.int .u32 (Y.st.started : Int)) ∧ W.cell? (ad.add (b * 49)) = some (.int .u32 (X.st.started : Int)) := fun W hW => by
                          have h1 := hrowj W hW 0 _ rfl
                          have h2 := hrowb W hW 0 _ rfl
                          have e1 : ∀ A : Addr, A.add 0 = A := fun A => by unfold Addr.add; simp
                          rw [e1] at h1 h2
                          exact ⟨h1, h2⟩
                        generalize (headM Y.st).1 = x1 at *
                        generalize (headM Y.st).2 = y1 at *
                        generalize (headM X.st).1 = x0 at *
                        generalize (headM X.st).2 = y0 at *
                        generalize Y.st.started = s1 at *
                        generalize X.st.started = s0 at *
                        have d0 : decide ((s0 : Int) < (s1 : Int)) = false := decide_eq_false (by omega)
                        have d0' : decide (s0 < s1) = false := decide_eq_false (by omega)
                        by_cases he : s1 = s0
                        · by_cases hx : x1 = x0
                          · have d1 : decide ((x0 : Int) < (x1 : Int)) = false := decide_eq_false (by omega)
                            have d1' : decide (x0 < x1) = false := decide_eq_false (by omega)
                            have d2 : decide ((y0 : Int) < (y1 : Int)) = false := decide_eq_false (by omega)
                            have d2' : decide (y0 < y1) = false := decide_eq_false (by omega)
                            subst he hx
                            clear htj
                            go_wp2
                            refine wp_region_plan (fun W => Below wb.heap.size wb W) (Plan.of [(0, true), (1, true), (2, true), (3, true), (4, true), (5, true), (6, true), (7, true), (8, true), (9, true), (10, true), (11, true), (12, true), (13, true), (14, true), (15, true), (16, true), (17, true), (18, true), (19, true), (20, true), (21, true), (22, true), (23, true), (24, true), (25, true), (26, true), (27, true), (28, true), (29, true), (30, true), (31, true), (32, true), (33, true), (34, true), (35, true), (36, true), (37, true), (38, true)] .done) (by kernel_rfl) (by kernel_rfl) (by kernel_rfl) (by kernel_rfl) hbj.drew ?_
                            iterate 39
                              first
                                | (refine plan_pass _ rfl (by rfl) ?_)
                                | (refine plan_take _ _ rfl (.inl ⟨by rfl, fun W hS => by obtain ⟨z0, z1⟩ := hz W hS; go_simp; try with_reducible rfl⟩) ?_)
                              try simp only [Act.put, List.setIfInBounds_toArray, List.set_cons_zero, List.set_cons_succ]
                            refine plan_done ?_
                            go_wp2
                            go_roundw
                            case rel => exact ⟨j + 1, by omega, by go_num, hbj.drew⟩
                            case measure => simp [intOf]; omega
                          · have d1 : decide ((x0 : Int) < (x1 : Int)) = false := decide_eq_false (by omega)
                            have d1' : decide (x0 < x1) = false := decide_eq_false (by omega)
                            have q1 : ((x1 : Int) == (x0 : Int)) = false := by rw [beq_eq_false_iff_ne]; omega
                            have q1' : (x1 == x0) = false := by rw [beq_eq_false_iff_ne]; exact hx
                            subst he
                            clear htj
                            go_wp2
                            refine wp_region_plan (fun W => Below wb.heap.size wb W) (Plan.of [(0, true), (1, true), (2, true), (3, true), (4, true), (5, true), (6, true), (7, true), (8, true), (9, true), (10, true), (11, true), (12, true), (13, true), (14, true), (15, true), (16, true), (17, true), (18, true), (19, true), (20, true), (21, true), (22, true), (23, true), (24, true), (25, true), (26, true), (27, true), (28, true), (29, true), (30, true), (31, true), (32, true), (33, true), (34, true), (35, true), (36, true), (37, true), (38, true)] .done) (by kernel_rfl) (by kernel_rfl) (by kernel_rfl) (by kernel_rfl) hbj.drew ?_
                            iterate 39
                              first
                                | (refine plan_pass _ rfl (by rfl) ?_)
                                | (refine plan_take _ _ rfl (.inl ⟨by rfl, fun W hS => by obtain ⟨z0, z1⟩ := hz W hS; go_simp; try with_reducible rfl⟩) ?_)
                              try simp only [Act.put, List.setIfInBounds_toArray, List.set_cons_zero, List.set_cons_succ]
                            refine plan_done ?_
                            go_wp2
                            go_roundw
                            case rel => exact ⟨j + 1, by omega, by go_num, hbj.drew⟩
                            case measure => simp [intOf]; omega
                        · have q0 : ((s1 : Int) == (s0 : Int)) = false := by rw [beq_eq_false_iff_ne]; omega
                          have q0' : (s1 == s0) = false := by rw [beq_eq_false_iff_ne]; exact he
                          clear htj
                          go_wp2
                          refine wp_region_plan (fun W => Below wb.heap.size wb W) (Plan.of [(0, true), (1, true), (2, true), (3, true), (4, true), (5, true), (6, true), (7, true), (8, true), (9, true), (10, true), (11, true), (12, true), (13, true), (14, true), (15, true), (16, true), (17, true), (18, true), (19, true), (20, true), (21, true), (22, true), (23, true), (24, true), (25, true), (26, true), (27, true), (28, true), (29, true), (30, true), (31, true), (32, true), (33, true), (34, true), (35, true), (36, true), (37, true), (38, true)] .done) (by kernel_rfl) (by kernel_rfl) (by kernel_rfl) (by kernel_rfl) hbj.drew ?_
                          iterate 39
                            first
                              | (refine plan_pass _ rfl (by rfl) ?_)
                              | (refine plan_take _ _ rfl (.inl ⟨by rfl, fun W hS => by obtain ⟨z0, z1⟩ := hz W hS; go_simp; try with_reducible rfl⟩) ?_)
                            try simp only [Act.put, List.setIfInBounds_toArray, List.set_cons_zero, List.set_cons_succ]
                          refine plan_done ?_
                          go_wp2
                          go_roundw
                          case rel => exact ⟨j + 1, by omega, by go_num, hbj.drew⟩
                          case measure => simp [intOf]; omega
                      · have hjI : ¬ (j : Int) < (k : Int) := by omega
                        go_wp2
                        go_ret
                        exact ⟨rfl, hbq.trans (hbj.mono hbq.size)⟩
end Go.Proofs.Ytlbokkbngbpmiaa
