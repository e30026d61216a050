/- The contracts of the document's In, better, Best, Started. -/
import Derived.Test.YtlbokkbngbpmiaaChooseBest
import Derived.Test.YtlbokkbngbpmiaaRefHead
namespace Go.Proofs.Ytlbokkbngbpmiaa
set_option linter.unusedSimpArgs false
set_option linter.unusedVariables false
set_option maxRecDepth 100000
open Go.RowKit

/-- A whole row from wherever it lies, in every world of S. -/
theorem yields_load_any9 {P : Program} {ops : Array Oper} {S : World → Prop} {o : Oper} {a : Act} (hw : Region.wanted o (yielded ops a.tmps) = true) (ty : TypeId) (x : Operand) (ho : o.op = .load ty x) (A : Addr) (hx : a.eval x = .pointer (some A)) (cs : List Value) (d : TypeDesc) (hc : ∀ w, S w → ∀ j v, cs[j]? = some v → w.cell? (A.add j) = some v)
    (hu : P.underlying ty = some d) (hd : d.isRow = true) (hi : (P.info? ty).map (·.size) = some cs.length) : YieldsIf P ops S o (.agg cs.toArray) a :=
  .inl ⟨hw, fun w hS => run_load_any ty x ho A hx cs d (hc w hS) hu hd hi⟩
set_option maxHeartbeats 1000000 in
theorem refin_any (ao : Option Addr) (c : Nat) (xs : List Int) (x : Int) (w : World) (hx : Ix w ao c xs) (hl : xs.length ≤ 1000000) :
    Calls Try.prog 42 #[.slice ao xs.length c, .int .i64 x] w fun en w' => en = .returned (.bool (hrd xs x)) ∧ w' = w := by
  have hcap := hx.cap
  have hle := hx.le
  go_enter Try.func42, Try.ntmps42
  go_wp2
  go_loopw [5] (fun i wr => ∃ n : Nat, n ≤ xs.length ∧ i = .int .i64 n ∧ (∀ k, k < n → ∀ h : k < xs.length, xs[k] ≠ x) ∧ wr = w) (fun i _ => xs.length - (intOf i).toNat)
  case atStart => exact ⟨0, Nat.zero_le _, rfl, (fun k hk => absurd hk (by omega)), rfl⟩
  case round =>
    obtain ⟨n, hn, rfl, hno, hwz⟩ := hrel
    replace hwz := hwz.symm
    subst hwz
    by_cases hlt : n < xs.length
    · have hnI : (n : Int) < (xs.length : Int) := by omega
      cases ao with
      | none => have h1 := hx.nil rfl; omega
      | some ad =>
        have cx := hx.at' ad rfl n hlt
        by_cases he : xs[n] = x
        · have hF : Hid (hrd xs x = true) := decide_eq_true (he ▸ List.getElem_mem hlt)
          have heb : (xs[n] == x) = true := by rw [beq_iff_eq]; exact he
          clear hno he
          generalize xs[n] = z at *
          go_wp2
          go_ret
          exact ⟨by rw [hF.out]; rfl, rfl⟩
        · have heb : (xs[n] == x) = false := by rw [beq_eq_false_iff_ne]; exact he
          have hnx : Hid (∀ k, k < n + 1 → ∀ h : k < xs.length, xs[k] ≠ x) := fun k hk h => by
            by_cases e : k < n
            · exact hno k e h
            · obtain rfl : k = n := by omega
              exact he
          clear hno he
          generalize xs[n] = z at *
          go_wp2
          go_roundw
          case rel => first | exact ⟨n + 1, by omega, by go_num, hnx.out, rfl⟩ | exact ⟨n + 1, by omega, by go_num, hnx.out, trivial⟩ | exact ⟨n + 1, by omega, by go_num, hnx.out⟩
          case measure => simp [intOf]; omega
    · have hF : Hid (hrd xs x = false) := decide_eq_false (fun h => by
        obtain ⟨k, hk, he⟩ := List.getElem_of_mem h
        exact hno k (by omega) hk he)
      clear hno
      go_wp2
      go_ret
      exact ⟨by rw [hF.out]; rfl, rfl⟩

set_option maxHeartbeats 4000000 in
theorem refbetter_any (i k : Int) (a b : StE) (w : World) (ha : StOk a.st) (hb' : StOk b.st) (hla : Sl w a.ao a.c 8 (entR a.st.log)) (hlb : Sl w b.ao b.c 8 (entR b.st.log)) :
    Calls Try.prog 35 #[.int .i64 i, .agg (stC a.st a.ao a.c), .int .i64 k, .agg (stC b.st b.ao b.c)] w fun en w' => en = .returned (.bool (beatsM (rankOf i a.st) (rankOf k b.st))) ∧ Below w.heap.size w w' := by
  obtain ⟨w1, hw1⟩ : ∃ W, w.alloc (.cells (stC a.st a.ao a.c) 63) = W := ⟨_, rfl⟩
  have hs1 : w1.heap.size = w.heap.size + 1 := by rw [← hw1]; simp
  have hA1 : Has w1 w.heap.size 63 (stC a.st a.ao a.c) := hw1 ▸ Has.new _ _ _
  obtain ⟨w2, hw2⟩ : ∃ W, w1.alloc (.cells (stC b.st b.ao b.c) 63) = W := ⟨_, rfl⟩
  have hB : Has w2 (w.heap.size + 1) 63 (stC b.st b.ao b.c) := by rw [← hs1, ← hw2]; exact Has.new _ _ _
  have hA : Has w2 w.heap.size 63 (stC a.st a.ao a.c) := by rw [← hw2]; exact hA1.alloc _
  have hb : Below w.heap.size w w2 := by
    rw [← hw2]
    exact (hw1 ▸ (Below.refl _ _).alloc (Nat.le_refl _) _ : Below w.heap.size w w1).alloc (by omega) _
  have hsw : (w.alloc (.cells (stC a.st a.ao a.c) 63)).alloc (.cells (stC b.st b.ao b.c) 63) = w2 := by rw [hw1, hw2]
  have hF : Hid (beatsM (rankOf i a.st) (rankOf k b.st) = if a.st.started ≠ b.st.started then decide (b.st.started < a.st.started) else if (headM a.st).1 ≠ (headM b.st).1 then decide ((headM b.st).1 < (headM a.st).1) else if (headM a.st).2 ≠ (headM b.st).2 then decide ((headM b.st).2 < (headM a.st).2) else decide (i < k)) := rfl
  clear hw1 hw2 hA1 hs1
  go_enter Try.func35, Try.ntmps35
  go_wp2_with (first
    | (refine wpList_load_has (by rfl) 63 _ rfl w.heap.size rfl 63 (stC a.st a.ao a.c) _ Try.underlying63 rfl (st_size _ _ _) ?hg ?_; (case hg => first | exact hA | (rw [hsw]; exact hA))))
  try rw [hsw]
  refine (refhead_any a.st a.ao a.c _ ha (hla.later hb)).mono ?_
  rintro e w3 ⟨rfl, hq⟩
  replace hA := hA.later hq
  replace hB := hB.later hq
  replace hb := hb.trans (hq.mono hb.size)
  clear hq hsw
  go_wp2_with (first
    | (refine wpList_load_has (by rfl) 63 _ rfl (w.heap.size + 1) rfl 63 (stC b.st b.ao b.c) _ Try.underlying63 rfl (st_size _ _ _) ?hg ?_; (case hg => exact hB)))
  refine (refhead_any b.st b.ao b.c _ hb' (hlb.later hb)).mono ?_
  rintro e w4 ⟨rfl, hq⟩
  replace hA := hA.later hq
  replace hB := hB.later hq
  replace hb := hb.trans (hq.mono hb.size)
  clear hq
  have ca := hA.st_started
  have cb := hB.st_started
  generalize (headM a.st).1 = a1 at *
  generalize (headM a.st).2 = a2 at *
  generalize (headM b.st).1 = b1 at *
  generalize (headM b.st).2 = b2 at *
  generalize a.st.started = a0 at *
  generalize b.st.started = b0 at *
  by_cases h0 : a0 = b0
  · rw [if_neg (by simpa using h0)] at hF
    subst h0
    by_cases h1 : a1 = b1
    · rw [if_neg (by simpa using h1)] at hF
      subst h1
      by_cases h2 : a2 = b2
      · rw [if_neg (by simpa using h2)] at hF
        subst h2
        go_wp2
        go_ret
        exact ⟨by rw [hF.out]; rfl, hb⟩
      · rw [if_pos h2] at hF
        have i1 : ((a2 : Int) != (b2 : Int)) = true := by rw [bne_iff_ne]; omega
        have i2 : (a2 != b2) = true := by rw [bne_iff_ne]; exact h2
        go_wp2
        go_ret
        exact ⟨by rw [hF.out]; rfl, hb⟩
    · rw [if_pos h1] at hF
      have i1 : ((a1 : Int) != (b1 : Int)) = true := by rw [bne_iff_ne]; omega
      have i2 : (a1 != b1) = true := by rw [bne_iff_ne]; exact h1
      go_wp2
      go_ret
      exact ⟨by rw [hF.out]; rfl, hb⟩
  · rw [if_pos h0] at hF
    have i1 : ((a0 : Int) != (b0 : Int)) = true := by rw [bne_iff_ne]; omega
    have i2 : (a0 != b0) = true := by rw [bne_iff_ne]; exact h0
    go_wp2
    go_ret
    exact ⟨by rw [hF.out]; rfl, hb⟩

set_option maxHeartbeats 4000000 in
theorem refStarted_any (ao : Option Addr) (c : Nat) (xs : List StE) (w : World) (h : StS w ao c xs) (hl : xs.length ≤ 1000000) :
    Calls Try.prog 15 #[.slice ao xs.length c] w fun en w' => en = .returned (.int .u32 (startedM (stsOf xs) : Int)) ∧ Below w.heap.size w w' := by
  have hcap := h.sl.cap
  have hle := h.len
  have hend : Hid (startedM (stsOf xs) = startedTo (stsOf xs) xs.length) := by show _ = _; unfold startedM; rw [stsOf_len]
  go_enter Try.func15, Try.ntmps15
  go_wp2
  go_loopw [3, 4] (fun v i wr => ∃ n : Nat, n ≤ xs.length ∧ i = .int .i64 n ∧ v = .int .u32 (startedTo (stsOf xs) n : Nat) ∧ Below w.heap.size w wr) (fun _ i _ => xs.length - (intOf i).toNat)
  case atStart => exact ⟨0, Nat.zero_le _, rfl, rfl, Below.refl _ _⟩
  case round =>
    obtain ⟨n, hn, rfl, rfl, hb⟩ := hrel
    by_cases hlt : n < xs.length
    · have hnI : (n : Int) < (xs.length : Int) := by omega
      cases ao with
      | none => have h1 := h.sl.nil rfl; omega
      | some ad =>
        have cx := (h.later hb).row n hlt 0 _ rfl
        have e0 : (ad.add (n * 49)).add 0 = ad.add (n * 49) := by unfold Addr.add; simp
        rw [e0] at cx
        have hok := (h.ok xs[n] (List.getElem_mem hlt)).1
        have hst := started_lt (xs := xs) (fun x hx => (h.ok x hx).1.started) n hn
        have hnext : Hid (startedTo (stsOf xs) (n + 1) = max (startedTo (stsOf xs) n) xs[n].st.started) := by
          show max _ _ = _
          rw [stsOf_get xs n hlt]
        have hs0 := hok.started
        clear e0 hok
        generalize xs[n].st.started = s0 at *
        generalize startedTo (stsOf xs) n = m at *
        go_wp2_with (first
          | (at_builtin; refine wpList_max (by rfl) _ _ _ rfl .u32 .u32 (m : Int) (s0 : Int) ((max m s0 : Nat) : Int) rfl rfl ?hmx ?_; (case hmx => omega)))
        go_roundw
        case rel => exact ⟨n + 1, by omega, by go_num, by rw [hnext.out]; congr 1; omega, hb⟩
        case measure => simp [intOf]; omega
    · have e : n = xs.length := by omega
      subst e
      go_wp2
      go_ret
      exact ⟨by rw [hend.out]; rfl, hb⟩

set_option maxHeartbeats 8000000 in
theorem refBest_any (oo : Option Addr) (oc : Nat) (os : List Int) (ao : Option Addr) (c : Nat) (xs : List StE) (w : World) (hx : Ix w oo oc os) (h : StS w ao c xs) (hl : xs.length ≤ 1000000) (hol : os.length ≤ 1000000) :
    Calls Try.prog 13 #[.slice oo os.length oc, .slice ao xs.length c] w fun en w' => en = .returned (.int .i64 (bestM9 os (stsOf xs))) ∧ Below w.heap.size w w' := by
  have hcap := h.sl.cap
  have hle := h.len
  have hocap := hx.cap
  have hole := hx.le
  by_cases hlen : os.length = xs.length
  · have hlen' : Hid (os.length = xs.length) := hlen
    rw [hlen] at hole
    rw [hlen]
    clear hlen
    go_enter Try.func13, Try.ntmps13
    go_wp2
    go_loopw [5, 6] (fun v i wr => ∃ n : Nat, n ≤ xs.length ∧ i = .int .i64 n ∧ v = .int .i64 (bestN os (stsOf xs) n).1 ∧ (∀ k (hk : k < xs.length), k < n → isSt xs[k].st = true) ∧ Below w.heap.size w wr) (fun _ i _ => xs.length - (intOf i).toNat)
    case atStart => exact ⟨0, Nat.zero_le _, rfl, rfl, (fun k hk h0 => absurd h0 (by omega)), Below.refl _ _⟩
    case round =>
      obtain ⟨n, hn, rfl, rfl, hall, hb⟩ := hrel
      by_cases hlt : n < xs.length
      · have hnI : (n : Int) < (xs.length : Int) := by omega
        have holt : n < os.length := by have := hlen'.out; omega
        cases ao with
        | none => have h1 := h.sl.nil rfl; omega
        | some ad =>
          cases oo with
          | none => have h1 := hx.nil rfl; omega
          | some od =>
            have cx := (h.later hb).row n hlt
            obtain ⟨hok, hlog⟩ := h.ok xs[n] (List.getElem_mem hlt)
            have hyes : Hid _ := @bestN_yes os (stsOf xs) n
            have hno : Hid _ := @bestN_no os (stsOf xs) n
            have hin := bestN_in os (stsOf xs) n
            rw [stsOf_get xs n hlt, show os.getD n 0 = os[n] by simp [List.getD, holt]] at hyes hno
            have hbadi : Hid (isSt xs[n].st = false → allIs (stsOf xs) = false) := allIs_at hlt
            have hgoodi : Hid (isSt xs[n].st = true → ∀ k (hk : k < xs.length), k < n + 1 → isSt xs[k].st = true) := fun hi k hk hkn => by
              by_cases e : k < n
              · exact hall k hk e
              · obtain rfl : k = n := by omega
                exact hi
            have hox : ∀ W, Below w.heap.size w W → W.cell? (od.add n) = some (.int .i64 os[n]) := fun W hW => (hx.later hW).at' od rfl n holt
            have hrowx : ∀ W, Below w.heap.size w W → ∀ j v, (stL xs[n].st xs[n].ao xs[n].c)[j]? = some v → W.cell? ((ad.add (n * 49)).add j) = some v := fun W hW => (h.later hW).row n hlt
            have hother : ∀ k (hk : k < n), ∃ (y : StE) (z : Int), (∀ W, Below w.heap.size w W → W.cell? (od.add k) = some (.int .i64 z) ∧ (∀ j v, (stL y.st y.ao y.c)[j]? = some v → W.cell? ((ad.add (k * 49)).add j) = some v)) ∧ StOk y.st ∧ Sl w y.ao y.c 8 (entR y.st.log) ∧ os.getD k 0 = z ∧ (stsOf xs).getD k st0 = y.st := fun k hk => by
              have hkx : k < xs.length := by omega
              have hko : k < os.length := by omega
              refine ⟨xs[k], os[k], fun W hW => ⟨(hx.later hW).at' od rfl k hko, (h.later hW).row k hkx⟩, (h.ok xs[k] (List.getElem_mem hkx)).1, (h.ok xs[k] (List.getElem_mem hkx)).2, by simp [List.getD, hko], stsOf_get xs k hkx⟩
            clear hall
            generalize xs[n] = x at *
            generalize os[n] = o at *
            go_wp2_with (first
              | (refine wpList_load_any (by rfl) 63 _ rfl (ad.add (n * 49)) rfl (stL x.st x.ao x.c) _ ?hg Try.underlying63 rfl (st_size _ _ _) ?_; (case hg => exact cx)))
            refine (refis_any7 x.st x.ao x.c _ hok (hlog.later hb)).mono ?_
            rintro e w4 ⟨rfl, hq⟩
            replace hb := hb.trans (hq.mono hb.size)
            clear hq cx
            cases hi : isSt x.st with
            | false =>
              have hF : Hid (bestM9 os (stsOf xs) = -1) := bst_none (hbadi.out hi)
              go_wp2
              go_ret
              exact ⟨by rw [hF.out]; rfl, hb⟩
            | true =>
              have hG : Hid _ := hgoodi.out hi
              clear hbadi hgoodi
              rcases hin with ⟨hn0, hB1⟩ | ⟨k, hk, hBk⟩
              · have hnext : Hid _ := hyes.out (.inl (by rw [hB1]; decide))
                rw [hB1]
                clear hyes hno hB1 hn0
                go_wp2
                refine wp_region_plan (fun W => Below w.heap.size w W) (Plan.of [(0, true), (1, true), (2, true), (3, true), (4, true), (5, true), (6, true), (7, true), (8, true), (9, true), (10, true), (11, true), (12, true), (13, true), (14, true), (15, true), (16, true), (17, true), (18, true), (19, false), (20, true)] .done) (by kernel_rfl) (by kernel_rfl) (by kernel_rfl) (by kernel_rfl) hb.drew ?_
                iterate 19
                  first
                    | (refine plan_pass _ rfl (by rfl) ?_)
                    | (refine plan_take _ _ rfl (.inl ⟨by rfl, fun W hS => by clear hS; go_simp; try with_reducible rfl⟩) ?_)
                  try simp only [Act.put, List.setIfInBounds_toArray, List.set_cons_zero, List.set_cons_succ]
                refine plan_run _ rfl (fun K hK => ?_)
                go_simp
                refine hK.out _ _ hb.drew ?_
                clear hK K
                iterate 1
                  first
                    | (refine plan_pass _ rfl (by rfl) ?_)
                    | (refine plan_take _ _ rfl (.inl ⟨by rfl, fun W hS => by clear hS; go_simp; try with_reducible rfl⟩) ?_)
                  try simp only [Act.put, List.setIfInBounds_toArray, List.set_cons_zero, List.set_cons_succ]
                refine plan_done ?_
                go_wp2
                go_roundw
                case rel => exact ⟨n + 1, by omega, by go_num, by rw [hnext.out], hG.out, hb.drew⟩
                case measure => simp [intOf]; omega
              · obtain ⟨y, z, hcell, hyok, hylog, hz, hys⟩ := hother k hk
                rw [hBk, hz, hys] at hyes hno
                rw [hBk]
                have hk0 : Hid (¬ (k : Int) < 0) := show ¬ (k : Int) < 0 by omega
                have hkl : (k : Int) < (xs.length : Int) := by omega
                clear hother hBk hz hys
                go_wp2
                refine wp_region_plan (fun W => Below w.heap.size w W) (Plan.of [(0, true), (1, true), (2, true), (3, true), (4, true), (5, true), (6, true), (7, true), (8, true), (9, true), (10, true), (11, true), (12, true), (13, true), (14, true), (15, true), (16, true), (17, true), (18, true), (19, false), (20, true)] .done) (by kernel_rfl) (by kernel_rfl) (by kernel_rfl) (by kernel_rfl) hb.drew ?_
                iterate 6
                  first
                    | (refine plan_pass _ rfl (by rfl) ?_)
                    | (refine plan_take _ _ rfl (.inl ⟨by rfl, fun W hS => by clear hS; go_simp; try with_reducible rfl⟩) ?_)
                  try simp only [Act.put, List.setIfInBounds_toArray, List.set_cons_zero, List.set_cons_succ]
                iterate 1
                  first
                    | (refine plan_pass _ rfl (by rfl) ?_)
                    | (refine plan_take _ _ rfl (.inl ⟨by rfl, fun W hS => by have z := hox W hS; go_simp; try with_reducible rfl⟩) ?_)
                  try simp only [Act.put, List.setIfInBounds_toArray, List.set_cons_zero, List.set_cons_succ]
                iterate 3
                  first
                    | (refine plan_pass _ rfl (by rfl) ?_)
                    | (refine plan_take _ _ rfl (.inl ⟨by rfl, fun W hS => by clear hS; go_simp; try with_reducible rfl⟩) ?_)
                  try simp only [Act.put, List.setIfInBounds_toArray, List.set_cons_zero, List.set_cons_succ]
                refine plan_take _ _ rfl (yields_load_any9 (by rfl) 63 _ rfl (ad.add (n * 49)) rfl (stL x.st x.ao x.c) _ (fun W hW => hrowx W hW) Try.underlying63 rfl (st_size _ _ _)) ?_
                try simp only [Act.put, List.setIfInBounds_toArray, List.set_cons_zero, List.set_cons_succ]
                iterate 3
                  first
                    | (refine plan_pass _ rfl (by rfl) ?_)
                    | (refine plan_take _ _ rfl (.inl ⟨by rfl, fun W hS => by clear hS; go_simp; try with_reducible rfl⟩) ?_)
                  try simp only [Act.put, List.setIfInBounds_toArray, List.set_cons_zero, List.set_cons_succ]
                iterate 1
                  first
                    | (refine plan_pass _ rfl (by rfl) ?_)
                    | (refine plan_take _ _ rfl (.inl ⟨by rfl, fun W hS => by have z := (hcell W hS).1; go_simp; try with_reducible rfl⟩) ?_)
                  try simp only [Act.put, List.setIfInBounds_toArray, List.set_cons_zero, List.set_cons_succ]
                iterate 3
                  first
                    | (refine plan_pass _ rfl (by rfl) ?_)
                    | (refine plan_take _ _ rfl (.inl ⟨by rfl, fun W hS => by clear hS; go_simp; try with_reducible rfl⟩) ?_)
                  try simp only [Act.put, List.setIfInBounds_toArray, List.set_cons_zero, List.set_cons_succ]
                refine plan_take _ _ rfl (yields_load_any9 (by rfl) 63 _ rfl (ad.add (k * 49)) rfl (stL y.st y.ao y.c) _ (fun W hW => (hcell W hW).2) Try.underlying63 rfl (st_size _ _ _)) ?_
                try simp only [Act.put, List.setIfInBounds_toArray, List.set_cons_zero, List.set_cons_succ]
                refine plan_run _ rfl (fun K hK => ?_)
                go_simp
                refine (refbetter_any o z x y _ hok hyok (hlog.later hb.drew) (hylog.later hb.drew)).mono ?_
                rintro e w5 ⟨rfl, hq⟩
                have hb5 := hb.drew.trans (hq.mono hb.size)
                refine hK.out _ _ hb5 ?_
                clear hK K hq
                iterate 1
                  first
                    | (refine plan_pass _ rfl (by rfl) ?_)
                    | (refine plan_take _ _ rfl (.inl ⟨by rfl, fun W hS => by clear hS; go_simp; try with_reducible rfl⟩) ?_)
                  try simp only [Act.put, List.setIfInBounds_toArray, List.set_cons_zero, List.set_cons_succ]
                refine plan_done ?_
                have hdk : ∀ i : Decidable ((k : Int) < 0), @decide _ i = false := fun i => @decide_eq_false ((k : Int) < 0) i (by omega)
                rw [hdk, Bool.false_or]
                clear hdk
                cases hbt : beatsM (rankOf o x.st) (rankOf z y.st) with
                | true =>
                  have hnext : Hid _ := hyes.out (.inr hbt)
                  go_wp2
                  go_roundw
                  case rel => exact ⟨n + 1, by omega, by go_num, by rw [hnext.out], hG.out, hb5⟩
                  case measure => simp [intOf]; omega
                | false =>
                  have hnext : Hid _ := hno.out (fun hh => by rcases hh with hh | hh; exact absurd hh (by show ¬ (k : Int) < 0; omega); rw [hbt] at hh; cases hh)
                  go_wp2
                  go_roundw
                  case rel => exact ⟨n + 1, by omega, by go_num, by rw [hnext.out], hG.out, hb5⟩
                  case measure => simp [intOf]; omega
      · have e : n = xs.length := by omega
        subst e
        have hF : Hid (bestM9 os (stsOf xs) = (bestN os (stsOf xs) xs.length).1) := bst_is hlen'.out (allIs_take fun k hk => hall k hk hk)
        generalize (bestN os (stsOf xs) xs.length).1 = bb at *
        go_wp2
        go_ret
        exact ⟨by rw [hF.out]; rfl, hb⟩
  · have hF : Hid (bestM9 os (stsOf xs) = -1) := bst_no hlen
    have h1 : ((os.length : Int) != (xs.length : Int)) = true := by rw [bne_iff_ne]; omega
    have h2 : (os.length != xs.length) = true := by rw [bne_iff_ne]; exact hlen
    go_enter Try.func13, Try.ntmps13
    go_wp2
    go_ret
    exact ⟨by rw [hF.out]; rfl, Below.refl _ _⟩
end Go.Proofs.Ytlbokkbngbpmiaa
