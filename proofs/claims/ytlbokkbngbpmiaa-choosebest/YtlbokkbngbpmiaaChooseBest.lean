/- The contracts of choose's Best and Started. -/
import Derived.Test.YtlbokkbngbpmiaaRanks
import Derived.Test.YtlbokkbngbpmiaaPackTools
namespace Go.Proofs.Ytlbokkbngbpmiaa
set_option linter.unusedSimpArgs false
set_option linter.unusedVariables false
set_option maxRecDepth 100000
open Go.RowKit

/-- A state, and where its log lies. -/
structure StE where
  st : StV
  ao : Option Addr
  c : Nat
def rowsS (xs : List StE) : List (List Value) := xs.map fun x => stL x.st x.ao x.c
def stsOf (xs : List StE) : List StV := xs.map fun x => x.st
theorem rowsS_len (xs : List StE) : (rowsS xs).length = xs.length := by unfold rowsS; rw [List.length_map]
theorem stsOf_len (xs : List StE) : (stsOf xs).length = xs.length := by unfold stsOf; rw [List.length_map]
theorem stsOf_get (xs : List StE) (n : Nat) (h : n < xs.length) : (stsOf xs).getD n st0 = xs[n].st := by
  unfold stsOf
  simp [List.getD, h]
/-- States in a slice, each with its log. -/
structure StS (w : World) (ao : Option Addr) (c : Nat) (xs : List StE) : Prop where
  sl : Sl w ao c 49 (rowsS xs)
  ok : ∀ x ∈ xs, StOk x.st ∧ Sl w x.ao x.c 8 (entR x.st.log)
theorem StS.later {w w' : World} {ao : Option Addr} {c : Nat} {xs : List StE} (h : StS w ao c xs) (hb : Below w.heap.size w w') : StS w' ao c xs := ⟨h.sl.later hb, fun x hx => ⟨(h.ok x hx).1, (h.ok x hx).2.later hb⟩⟩
theorem StS.len {w : World} {ao : Option Addr} {c : Nat} {xs : List StE} (h : StS w ao c xs) : xs.length ≤ c := by have := h.sl.le; rw [rowsS_len] at this; exact this
theorem StS.row {w : World} {ad : Addr} {c : Nat} {xs : List StE} (h : StS w (some ad) c xs) (n : Nat) (hn : n < xs.length) : ∀ j v, (stL xs[n].st xs[n].ao xs[n].c)[j]? = some v → w.cell? ((ad.add (n * 49)).add j) = some v := by
  intro j v hj
  have hj2 : j < 49 := by
    rcases Nat.lt_or_ge j 49 with h | h
    · exact h
    · rw [List.getElem?_eq_none (by show 49 ≤ j; exact h)] at hj; cases hj
  have h0 := h.sl.at' ad rfl n (by rw [rowsS_len]; exact hn) j hj2
  have er : (rowsS xs)[n]'(by rw [rowsS_len]; exact hn) = stL xs[n].st xs[n].ao xs[n].c := by simp [rowsS]
  rw [er, hj] at h0
  rw [Go.Deep.add_add]
  exact h0
theorem StS.nothing (w : World) : StS w none 0 [] := ⟨Sl.nothing _ _, fun _ h => by cases h⟩

theorem allIs_at {xs : List StE} {n : Nat} (hn : n < xs.length) (h : isSt xs[n].st = false) : allIs (stsOf xs) = false := by
  unfold allIs
  rw [← Bool.not_eq_true, List.all_eq_true]
  intro hall
  have := hall xs[n].st (List.mem_map.2 ⟨_, List.getElem_mem hn, rfl⟩)
  rw [h] at this
  cases this
theorem allIs_take {xs : List StE} (h : ∀ k (hk : k < xs.length), isSt xs[k].st = true) : allIs (stsOf xs) = true := by
  unfold allIs
  rw [List.all_eq_true]
  intro x hx
  obtain ⟨y, hy, rfl⟩ := List.mem_map.1 hx
  obtain ⟨k, hk, rfl⟩ := List.getElem_of_mem hy
  exact h k hk

theorem started_lt {xs : List StE} (h : ∀ x ∈ xs, x.st.started < 4294967296) (n : Nat) (hn : n ≤ xs.length) : startedTo (stsOf xs) n < 4294967296 := by
  induction n with
  | zero => show 0 < 4294967296; decide
  | succ n ih =>
    show max (startedTo (stsOf xs) n) ((stsOf xs).getD n st0).started < _
    rw [stsOf_get xs n (by omega)]
    have := ih (by omega)
    have := h xs[n] (List.getElem_mem (by omega))
    omega

set_option maxHeartbeats 4000000 in
theorem Started_any (ao : Option Addr) (c : Nat) (xs : List StE) (w : World) (h : StS w ao c xs) (hl : xs.length ≤ 1000000) :
    Calls Try.prog 14 #[.slice ao xs.length c] w fun en w' => en = .returned (.int .u32 (startedM (stsOf xs) : Int)) ∧ Below w.heap.size w w' := by
  have hcap := h.sl.cap
  have hle := h.len
  have hend : Hid (startedM (stsOf xs) = startedTo (stsOf xs) xs.length) := by show _ = _; unfold startedM; rw [stsOf_len]
  go_enter Try.func14, Try.ntmps14
  go_wp2
  go_loopw [3, 8] (fun v i wr => ∃ n : Nat, n ≤ xs.length ∧ i = .int .i64 n ∧ v = .int .u32 (startedTo (stsOf xs) n : Nat) ∧ Below w.heap.size w wr) (fun _ i _ => xs.length - (intOf i).toNat)
  case atStart => exact ⟨0, Nat.zero_le _, rfl, rfl, Below.refl _ _⟩
  case round =>
    obtain ⟨n, hn, rfl, rfl, hb⟩ := hrel
    by_cases hlt : n < xs.length
    · have hnI : (n : Int) < (xs.length : Int) := by omega
      cases ao with
      | none => have h1 := h.sl.nil rfl; omega
      | some ad =>
        have cx := (h.later hb).row n hlt
        have hok := (h.ok xs[n] (List.getElem_mem hlt)).1
        have hst := started_lt (xs := xs) (fun x hx => (h.ok x hx).1.started) n hn
        have hnext : Hid (startedTo (stsOf xs) (n + 1) = max (startedTo (stsOf xs) n) xs[n].st.started) := by
          show max _ _ = _
          rw [stsOf_get xs n hlt]
        generalize xs[n] = x at *
        generalize startedTo (stsOf xs) n = m at *
        have hX1 := (Has.new wr 63 (stC st0 none 0)).row (stC x.st x.ao x.c)
        have hbb := below_setRow ((Below.refl wr.heap.size wr).alloc (Nat.le_refl _) (.cells (stC st0 none 0) 63)) (Nat.le_refl _) (stC x.st x.ao x.c)
        obtain ⟨w3, hw3⟩ : ∃ W, (wr.alloc (.cells (stC st0 none 0) 63)).setRow wr.heap.size (stC x.st x.ao x.c) = W := ⟨_, rfl⟩
        rw [hw3] at hX1 hbb
        have c0 := hX1.st_started
        have hb3 := hb.trans (hbb.mono hb.size)
        have hs0 := hok.started
        go_wp2_with (first
          | (refine wpList_load_any (by rfl) 63 _ rfl (ad.add (n * 49)) rfl (stL x.st x.ao x.c) _ ?hg Try.underlying63 rfl (st_size _ _ _) ?_; (case hg => exact cx))
          | (refine wpList_alloc_has (by rfl) 63 rfl (stC st0 none 0) st_zero ?_)
          | (refine wpList_store_has (by rfl) 63 _ _ rfl wr.heap.size rfl (stC x.st x.ao x.c) rfl 63 (stC st0 none 0) (st_size _ _ _) rfl (st_one _ _ _) ?hg ?_; (case hg => exact Has.new _ _ _); rw [hw3])
          | (at_builtin; refine wpList_max (by rfl) _ _ _ rfl .u32 .u32 (m : Int) (x.st.started : Int) ((max m x.st.started : Nat) : Int) rfl rfl ?hmx ?_; (case hmx => omega)))
        go_roundw
        case rel => exact ⟨n + 1, by omega, by go_num, by rw [hnext.out]; congr 1; omega, hb3⟩
        case measure => simp [intOf]; omega
    · have e : n = xs.length := by omega
      subst e
      go_wp2
      go_ret
      exact ⟨by rw [hend.out]; rfl, hb⟩

theorem at_g2 {P : Program} {ops : Array Oper} {rest : List Oper} {d : Option Tmp} {op : Op} {t : TypeId} {p : String} {af : Array Edge} {a : Act} {w : World} {Q : Exit → Act → World → Prop} (h : wpList P ops Q (⟨d, op, t, p, af, some (2, false)⟩ :: rest) a w) : wpList P ops Q (⟨d, op, t, p, af, some (2, false)⟩ :: rest) a w := h
theorem bst_no {os : List Int} {xs : List StE} (h : os.length ≠ xs.length) : bestM9 os (stsOf xs) = -1 := if_neg (fun hh => h (by rw [hh.1, stsOf_len]))
theorem bst_none {os : List Int} {xs : List StE} (h : allIs (stsOf xs) = false) : bestM9 os (stsOf xs) = -1 := if_neg (fun hh => by rw [h] at hh; cases hh.2)
theorem bst_is {os : List Int} {xs : List StE} (h : os.length = xs.length) (h' : allIs (stsOf xs) = true) : bestM9 os (stsOf xs) = (bestN os (stsOf xs) xs.length).1 := by
  unfold bestM9
  rw [if_pos ⟨by rw [h, stsOf_len], h'⟩, stsOf_len]
theorem bestN_bd (os : List Int) (l : List StV) (n : Nat) : -1 ≤ (bestN os l n).1 ∧ (bestN os l n).1 < (n : Int) + 1 := by
  rcases bestN_in os l n with ⟨_, h⟩ | ⟨k, hk, h⟩
  · rw [h]; omega
  · rw [h]
    show -1 ≤ (k : Int) ∧ (k : Int) < _
    omega

set_option maxHeartbeats 8000000 in
theorem Best_any (oo : Option Addr) (oc : Nat) (os : List Int) (ao : Option Addr) (c : Nat) (xs : List StE) (w : World) (hx : Ix w oo oc os) (h : StS w ao c xs) (hl : xs.length ≤ 1000000) (hol : os.length ≤ 1000000) :
    Calls Try.prog 12 #[.slice oo os.length oc, .slice ao xs.length c] w fun en w' => en = .returned (.int .i64 (bestM9 os (stsOf xs))) ∧ Below w.heap.size w w' := by
  have hcap := h.sl.cap
  have hle := h.len
  have hocap := hx.cap
  have hole := hx.le
  by_cases hlen : os.length = xs.length
  · have hlen' : Hid (os.length = xs.length) := hlen
    rw [hlen] at hole
    rw [hlen]
    clear hlen
    obtain ⟨w1, hw1⟩ : ∃ W, (w.alloc (.cells (rankC ⟨0, 0, 0, 0⟩) 84)).setRow w.heap.size (rankC ⟨0, 0, 0, 0⟩) = W := ⟨_, rfl⟩
    have hM1 : Has w1 w.heap.size 84 (rankC ⟨0, 0, 0, 0⟩) := by rw [← hw1]; exact (Has.new _ _ _).row _
    have hb1 : Below w.heap.size w w1 := by rw [← hw1]; exact below_setRow ((Below.refl _ _).alloc (Nat.le_refl _) _) (Nat.le_refl _) _
    go_enter Try.func12, Try.ntmps12
    go_wp2_with (first
      | (refine wpList_build_has (by rfl) 84 _ rfl (rankC ⟨0, 0, 0, 0⟩) rank_built0 ?_)
      | (refine wpList_alloc_has (by rfl) 84 rfl (rankC ⟨0, 0, 0, 0⟩) rank_zero ?_)
      | (refine wpList_store_has (by rfl) 84 _ _ rfl w.heap.size rfl (rankC ⟨0, 0, 0, 0⟩) rfl 84 (rankC ⟨0, 0, 0, 0⟩) (rank_size _) rfl (rank_one _) ?hg ?_; (case hg => exact Has.new _ _ _); rw [hw1]))
    go_loopw [5, 18] (fun v i wr => ∃ n : Nat, n ≤ xs.length ∧ i = .int .i64 n ∧ v = .int .i64 (bestN os (stsOf xs) n).1 ∧ (∀ k (hk : k < xs.length), k < n → isSt xs[k].st = true) ∧ Has wr w.heap.size 84 (rankC (bestN os (stsOf xs) n).2) ∧ Below w.heap.size w wr) (fun _ i _ => xs.length - (intOf i).toNat)
    case atStart => exact ⟨0, Nat.zero_le _, rfl, rfl, (fun k hk h0 => absurd h0 (by omega)), hM1, hb1⟩
    case round =>
      clear hM1 hb1 hw1
      obtain ⟨n, hn, rfl, rfl, hall, hM, hb⟩ := hrel
      by_cases hlt : n < xs.length
      · have hnI : (n : Int) < (xs.length : Int) := by omega
        have holt : n < os.length := by have := hlen'.out; omega
        cases ao with
        | none => have h1 := h.sl.nil rfl; omega
        | some ad =>
          cases oo with
          | none => have h1 := hx.nil rfl; omega
          | some od =>
            have cx := (h.later hb).row n hlt
            obtain ⟨hok, hlog⟩ := h.ok xs[n] (List.getElem_mem hlt)
            have hyes : Hid _ := @bestN_yes os (stsOf xs) n
            have hno : Hid _ := @bestN_no os (stsOf xs) n
            have hbd := bestN_bd os (stsOf xs) n
            rw [stsOf_get xs n hlt, show os.getD n 0 = os[n] by simp [List.getD, holt]] at hyes hno
            have hbadi : Hid (isSt xs[n].st = false → allIs (stsOf xs) = false) := allIs_at hlt
            have hgoodi : Hid (isSt xs[n].st = true → ∀ k (hk : k < xs.length), k < n + 1 → isSt xs[k].st = true) := fun hi k hk hkn => by
              by_cases e : k < n
              · exact hall k hk e
              · obtain rfl : k = n := by omega
                exact hi
            have hox : ∀ W, Below w.heap.size w W → W.cell? (od.add n) = some (.int .i64 os[n]) := fun W hW => (hx.later hW).at' od rfl n holt
            clear hall
            generalize xs[n] = x at *
            generalize os[n] = o at *
            generalize hB : bestN os (stsOf xs) n = B at *
            clear hB
            obtain ⟨B1, B2⟩ := B
            have hbd : -1 ≤ B1 ∧ B1 < (n : Int) + 1 := hbd
            have hbd1 := hbd.1
            have hbd2 := hbd.2
            have hX1 := (Has.new wr 63 (stC st0 none 0)).row (stC x.st x.ao x.c)
            have hbb := below_setRow ((Below.refl wr.heap.size wr).alloc (Nat.le_refl _) (.cells (stC st0 none 0) 63)) (Nat.le_refl _) (stC x.st x.ao x.c)
            obtain ⟨w3, hw3⟩ : ∃ W, (wr.alloc (.cells (stC st0 none 0) 63)).setRow wr.heap.size (stC x.st x.ao x.c) = W := ⟨_, rfl⟩
            rw [hw3] at hX1 hbb
            have hM3 := hM.later hbb
            have hb3 := hb.trans (hbb.mono hb.size)
            go_wp2_with (first
              | (refine wpList_load_any (by rfl) 63 _ rfl (ad.add (n * 49)) rfl (stL x.st x.ao x.c) _ ?hg Try.underlying63 rfl (st_size _ _ _) ?_; (case hg => exact cx))
              | (refine wpList_alloc_has (by rfl) 63 rfl (stC st0 none 0) st_zero ?_)
              | (refine wpList_store_has (by rfl) 63 _ _ rfl wr.heap.size rfl (stC x.st x.ao x.c) rfl 63 (stC st0 none 0) (st_size _ _ _) rfl (st_one _ _ _) ?hg ?_; (case hg => exact Has.new _ _ _); rw [hw3])
              | (refine wpList_load_has (by rfl) 63 _ rfl wr.heap.size rfl 63 (stC x.st x.ao x.c) _ Try.underlying63 rfl (st_size _ _ _) ?hg ?_; (case hg => exact hX1)))
            refine (is_any7 x.st x.ao x.c _ hok (hlog.later hb3)).mono ?_
            rintro e w4 ⟨rfl, hq⟩
            have hX4 := hX1.later hq
            have hM4 := hM3.later hq
            have hb4 := hb3.trans (hq.mono hb3.size)
            have hbs := hb.size
            have hws : wr.heap.size < w4.heap.size := hX4.lt
            clear hq hX1 hM3 hb3 hbb hw3 cx hM
            cases hi : isSt x.st with
            | false =>
              have hF : Hid (bestM9 os (stsOf xs) = -1) := bst_none (hbadi.out hi)
              go_wp2
              go_ret
              exact ⟨by rw [hF.out]; rfl, hb4⟩
            | true =>
              have hG : Hid _ := hgoodi.out hi
              clear hbadi hgoodi
              have hlog4 := hlog.later hb4
              have hSd : Below w4.heap.size w4 w4.drew := (Below.refl _ _).drew
              go_wp2
              refine wp_region_plan (fun W => Below w4.heap.size w4 W) (Plan.of [(0, true), (1, true), (2, true), (3, true), (4, true)] (.either 5 (Plan.of [(6, false), (7, false)] .done) 6 (Plan.of [(5, false), (7, false)] .done))) (by kernel_rfl) (by kernel_rfl) (by kernel_rfl) (by kernel_rfl) hSd ?_
              iterate 3
                first
                  | (refine plan_pass _ rfl (by rfl) ?_)
                  | (refine plan_take _ _ rfl (.inl ⟨by rfl, fun W hS => by clear hS; go_simp; try with_reducible rfl⟩) ?_)
                try simp only [Act.put, List.setIfInBounds_toArray, List.set_cons_zero, List.set_cons_succ]
              iterate 1
                first
                  | (refine plan_pass _ rfl (by rfl) ?_)
                  | (refine plan_take _ _ rfl (.inl ⟨by rfl, fun W hS => by have z := hox W (hb4.trans (Below.mono hS hb4.size)); go_simp; try with_reducible rfl⟩) ?_)
                try simp only [Act.put, List.setIfInBounds_toArray, List.set_cons_zero, List.set_cons_succ]
              refine plan_take _ _ rfl (yields_load_has (by rfl) 63 _ rfl wr.heap.size rfl 63 (stC x.st x.ao x.c) _ Try.underlying63 rfl (st_size _ _ _) (fun W hW => hX4.later hW)) ?_
              try simp only [Act.put, List.setIfInBounds_toArray, List.set_cons_zero, List.set_cons_succ]
              generalize w4.drew = wd at *
              refine plan_either ?_ ?_
              · refine plan_run _ rfl (fun K hK => ?_)
                go_simp
                refine (ranked_any o x.st x.ao x.c _ hok (hlog4.later hSd)).mono ?_
                rintro e w5 ⟨rfl, hq⟩
                replace hSd := hSd.trans (hq.mono hSd.size)
                refine hK.out _ _ hSd ?_
                clear hK K hq
                have hal := hSd.alloc hSd.size (.cells (rankC ⟨0, 0, 0, 0⟩) 84)
                refine plan_alloc_has _ rfl (by rfl) 84 rfl (rankC ⟨0, 0, 0, 0⟩) rank_zero hal ?_
                try simp only [Act.put, List.setIfInBounds_toArray, List.set_cons_zero, List.set_cons_succ]
                have hst := below_setRow hal hSd.size (rankC (rankOf o x.st))
                refine plan_store_has _ rfl (by rfl) 84 _ _ rfl w5.heap.size rfl (rankC (rankOf o x.st)) rfl 84 (rankC ⟨0, 0, 0, 0⟩) (rank_size _) rfl (rank_one _) (Has.new _ _ _) hst ?_
                refine plan_done ?_
                have hR := (Has.new w5 84 (rankC ⟨0, 0, 0, 0⟩)).row (rankC (rankOf o x.st))
                have hgr : w.heap.size ≠ w5.heap.size := by have := hSd.size; omega
                have hgl : w.heap.size ≤ w5.heap.size := by have := hSd.size; omega
                generalize w5.heap.size = gr at *
                generalize (w5.alloc (.cells (rankC ⟨0, 0, 0, 0⟩) 84)).setRow gr (rankC (rankOf o x.st)) = w7 at *
                have hM7 := hM4.later hst
                have hb7 := hb4.trans (hst.mono hb4.size)
                clear hal hst hSd hM4 hb4 hX4 hlog4
                generalize rankOf o x.st = r at *
                by_cases hneg : B1 < 0
                · have hnext : Hid _ := hyes.out (.inl hneg)
                  have hd1 : decide (B1 < 0) = true := decide_eq_true hneg
                  go_wp2
                  have hM9 := hM7.row (rankC r)
                  have hR9 := hR.row_other (k := w.heap.size) (Ne.symm hgr) (rankC r)
                  have hb9 := below_setRow hb7 (Nat.le_refl _) (rankC r)
                  refine wp_region_plan (fun W => Has W gr 84 (rankC r)) (Plan.of [(0, true), (1, true), (2, true), (3, false)] .done) (by kernel_rfl) (by kernel_rfl) (by kernel_rfl) (by kernel_rfl) hR.drew ?_
                  iterate 1
                    first
                      | (refine plan_pass _ rfl (by rfl) ?_)
                      | (refine plan_take _ _ rfl (.inl ⟨by rfl, fun W hS => by clear hS; go_simp; try with_reducible rfl⟩) ?_)
                    try simp only [Act.put, List.setIfInBounds_toArray, List.set_cons_zero, List.set_cons_succ]
                  refine plan_take _ _ rfl (yields_load_has (by rfl) 84 _ rfl gr rfl 84 (rankC r) _ Try.underlying84 rfl (rank_size _) (fun W hW => hW)) ?_
                  try simp only [Act.put, List.setIfInBounds_toArray, List.set_cons_zero, List.set_cons_succ]
                  iterate 1
                    first
                      | (refine plan_pass _ rfl (by rfl) ?_)
                      | (refine plan_take _ _ rfl (.inl ⟨by rfl, fun W hS => by clear hS; go_simp; try with_reducible rfl⟩) ?_)
                    try simp only [Act.put, List.setIfInBounds_toArray, List.set_cons_zero, List.set_cons_succ]
                  refine plan_store_has _ rfl (by rfl) 84 _ _ rfl w.heap.size rfl (rankC r) rfl 84 (rankC B2) (rank_size _) rfl (rank_one _) hM7.drew hR9.drew ?_
                  refine plan_done ?_
                  go_wp2
                  go_roundw
                  case rel => exact ⟨n + 1, by omega, by go_num, by rw [hnext.out], hG.out, by rw [hnext.out]; exact hM9.drew, hb9.drew⟩
                  case measure => simp [intOf]; omega
                · have hd1 : decide (B1 < 0) = false := decide_eq_false hneg
                  go_wp2_with ((with_reducible refine at_g2 ?_); first
                    | (refine wpList_load_has (by first | rfl | simp [Region.wanted, yielded]) 84 _ rfl gr rfl 84 (rankC r) _ Try.underlying84 rfl (rank_size _) ?hg ?_; (case hg => exact hR))
                    | (refine wpList_load_has (by first | rfl | simp [Region.wanted, yielded]) 84 _ rfl w.heap.size rfl 84 (rankC B2) _ Try.underlying84 rfl (rank_size _) ?hg ?_; (case hg => exact hM7)))
                  refine (beats_any r B2 _).mono ?_
                  rintro e w8 ⟨rfl, hq⟩
                  replace hR := hR.later hq
                  replace hM7 := hM7.later hq
                  replace hb7 := hb7.trans (hq.mono hb7.size)
                  clear hq
                  cases hbt : beatsM r B2 with
                  | true =>
                    have hnext : Hid _ := hyes.out (.inr hbt)
                    go_wp2
                    have hM9 := hM7.row (rankC r)
                    have hR9 := hR.row_other (k := w.heap.size) (Ne.symm hgr) (rankC r)
                    have hb9 := below_setRow hb7 (Nat.le_refl _) (rankC r)
                    refine wp_region_plan (fun W => Has W gr 84 (rankC r)) (Plan.of [(0, true), (1, true), (2, true), (3, false)] .done) (by kernel_rfl) (by kernel_rfl) (by kernel_rfl) (by kernel_rfl) hR.drew ?_
                    iterate 1
                      first
                        | (refine plan_pass _ rfl (by rfl) ?_)
                        | (refine plan_take _ _ rfl (.inl ⟨by rfl, fun W hS => by clear hS; go_simp; try with_reducible rfl⟩) ?_)
                      try simp only [Act.put, List.setIfInBounds_toArray, List.set_cons_zero, List.set_cons_succ]
                    refine plan_take _ _ rfl (yields_load_has (by rfl) 84 _ rfl gr rfl 84 (rankC r) _ Try.underlying84 rfl (rank_size _) (fun W hW => hW)) ?_
                    try simp only [Act.put, List.setIfInBounds_toArray, List.set_cons_zero, List.set_cons_succ]
                    iterate 1
                      first
                        | (refine plan_pass _ rfl (by rfl) ?_)
                        | (refine plan_take _ _ rfl (.inl ⟨by rfl, fun W hS => by clear hS; go_simp; try with_reducible rfl⟩) ?_)
                      try simp only [Act.put, List.setIfInBounds_toArray, List.set_cons_zero, List.set_cons_succ]
                    refine plan_store_has _ rfl (by rfl) 84 _ _ rfl w.heap.size rfl (rankC r) rfl 84 (rankC B2) (rank_size _) rfl (rank_one _) hM7.drew hR9.drew ?_
                    refine plan_done ?_
                    go_wp2
                    go_roundw
                    case rel => exact ⟨n + 1, by omega, by go_num, by rw [hnext.out], hG.out, by rw [hnext.out]; exact hM9.drew, hb9.drew⟩
                    case measure => simp [intOf]; omega
                  | false =>
                    have hnext : Hid _ := hno.out (fun hh => by rcases hh with hh | hh; exact absurd hh (by omega); rw [hbt] at hh; cases hh)
                    go_wp2
                    go_roundw
                    case rel => exact ⟨n + 1, by omega, by go_num, by rw [hnext.out], hG.out, by rw [hnext.out]; exact hM7, hb7⟩
                    case measure => simp [intOf]; omega
              · have hal := hSd.alloc hSd.size (.cells (rankC ⟨0, 0, 0, 0⟩) 84)
                refine plan_alloc_has _ rfl (by rfl) 84 rfl (rankC ⟨0, 0, 0, 0⟩) rank_zero hal ?_
                try simp only [Act.put, List.setIfInBounds_toArray, List.set_cons_zero, List.set_cons_succ]
                have hR := Has.new wd 84 (rankC ⟨0, 0, 0, 0⟩)
                have hgr : w.heap.size ≠ wd.heap.size := by have := hSd.size; omega
                have hgl : w.heap.size ≤ wd.heap.size := by have := hSd.size; omega
                have hgw : w4.heap.size ≤ wd.heap.size := hSd.size
                generalize wd.heap.size = gr at *
                generalize wd.alloc (.cells (rankC ⟨0, 0, 0, 0⟩) 84) = w5 at *
                refine plan_run _ rfl (fun K hK => ?_)
                go_simp
                refine (ranked_any o x.st x.ao x.c _ hok (hlog4.later hal)).mono ?_
                rintro e w6 ⟨rfl, hq⟩
                replace hal := hal.trans (hq.mono hal.size)
                replace hR := hR.later hq
                refine hK.out _ _ hal ?_
                clear hK K hq
                have hst := below_setRow hal hgw (rankC (rankOf o x.st))
                refine plan_store_has _ rfl (by rfl) 84 _ _ rfl gr rfl (rankC (rankOf o x.st)) rfl 84 (rankC ⟨0, 0, 0, 0⟩) (rank_size _) rfl (rank_one _) hR hst ?_
                refine plan_done ?_
                replace hR := hR.row (rankC (rankOf o x.st))
                generalize w6.setRow gr (rankC (rankOf o x.st)) = w7 at *
                have hM7 := hM4.later hst
                have hb7 := hb4.trans (hst.mono hb4.size)
                clear hal hst hSd hM4 hb4 hX4 hlog4 hgw
                generalize rankOf o x.st = r at *
                by_cases hneg : B1 < 0
                · have hnext : Hid _ := hyes.out (.inl hneg)
                  have hd1 : decide (B1 < 0) = true := decide_eq_true hneg
                  go_wp2
                  have hM9 := hM7.row (rankC r)
                  have hR9 := hR.row_other (k := w.heap.size) (Ne.symm hgr) (rankC r)
                  have hb9 := below_setRow hb7 (Nat.le_refl _) (rankC r)
                  refine wp_region_plan (fun W => Has W gr 84 (rankC r)) (Plan.of [(0, true), (1, true), (2, true), (3, false)] .done) (by kernel_rfl) (by kernel_rfl) (by kernel_rfl) (by kernel_rfl) hR.drew ?_
                  iterate 1
                    first
                      | (refine plan_pass _ rfl (by rfl) ?_)
                      | (refine plan_take _ _ rfl (.inl ⟨by rfl, fun W hS => by clear hS; go_simp; try with_reducible rfl⟩) ?_)
                    try simp only [Act.put, List.setIfInBounds_toArray, List.set_cons_zero, List.set_cons_succ]
                  refine plan_take _ _ rfl (yields_load_has (by rfl) 84 _ rfl gr rfl 84 (rankC r) _ Try.underlying84 rfl (rank_size _) (fun W hW => hW)) ?_
                  try simp only [Act.put, List.setIfInBounds_toArray, List.set_cons_zero, List.set_cons_succ]
                  iterate 1
                    first
                      | (refine plan_pass _ rfl (by rfl) ?_)
                      | (refine plan_take _ _ rfl (.inl ⟨by rfl, fun W hS => by clear hS; go_simp; try with_reducible rfl⟩) ?_)
                    try simp only [Act.put, List.setIfInBounds_toArray, List.set_cons_zero, List.set_cons_succ]
                  refine plan_store_has _ rfl (by rfl) 84 _ _ rfl w.heap.size rfl (rankC r) rfl 84 (rankC B2) (rank_size _) rfl (rank_one _) hM7.drew hR9.drew ?_
                  refine plan_done ?_
                  go_wp2
                  go_roundw
                  case rel => exact ⟨n + 1, by omega, by go_num, by rw [hnext.out], hG.out, by rw [hnext.out]; exact hM9.drew, hb9.drew⟩
                  case measure => simp [intOf]; omega
                · have hd1 : decide (B1 < 0) = false := decide_eq_false hneg
                  go_wp2_with ((with_reducible refine at_g2 ?_); first
                    | (refine wpList_load_has (by first | rfl | simp [Region.wanted, yielded]) 84 _ rfl gr rfl 84 (rankC r) _ Try.underlying84 rfl (rank_size _) ?hg ?_; (case hg => exact hR))
                    | (refine wpList_load_has (by first | rfl | simp [Region.wanted, yielded]) 84 _ rfl w.heap.size rfl 84 (rankC B2) _ Try.underlying84 rfl (rank_size _) ?hg ?_; (case hg => exact hM7)))
                  refine (beats_any r B2 _).mono ?_
                  rintro e w8 ⟨rfl, hq⟩
                  replace hR := hR.later hq
                  replace hM7 := hM7.later hq
                  replace hb7 := hb7.trans (hq.mono hb7.size)
                  clear hq
                  cases hbt : beatsM r B2 with
                  | true =>
                    have hnext : Hid _ := hyes.out (.inr hbt)
                    go_wp2
                    have hM9 := hM7.row (rankC r)
                    have hR9 := hR.row_other (k := w.heap.size) (Ne.symm hgr) (rankC r)
                    have hb9 := below_setRow hb7 (Nat.le_refl _) (rankC r)
                    refine wp_region_plan (fun W => Has W gr 84 (rankC r)) (Plan.of [(0, true), (1, true), (2, true), (3, false)] .done) (by kernel_rfl) (by kernel_rfl) (by kernel_rfl) (by kernel_rfl) hR.drew ?_
                    iterate 1
                      first
                        | (refine plan_pass _ rfl (by rfl) ?_)
                        | (refine plan_take _ _ rfl (.inl ⟨by rfl, fun W hS => by clear hS; go_simp; try with_reducible rfl⟩) ?_)
                      try simp only [Act.put, List.setIfInBounds_toArray, List.set_cons_zero, List.set_cons_succ]
                    refine plan_take _ _ rfl (yields_load_has (by rfl) 84 _ rfl gr rfl 84 (rankC r) _ Try.underlying84 rfl (rank_size _) (fun W hW => hW)) ?_
                    try simp only [Act.put, List.setIfInBounds_toArray, List.set_cons_zero, List.set_cons_succ]
                    iterate 1
                      first
                        | (refine plan_pass _ rfl (by rfl) ?_)
                        | (refine plan_take _ _ rfl (.inl ⟨by rfl, fun W hS => by clear hS; go_simp; try with_reducible rfl⟩) ?_)
                      try simp only [Act.put, List.setIfInBounds_toArray, List.set_cons_zero, List.set_cons_succ]
                    refine plan_store_has _ rfl (by rfl) 84 _ _ rfl w.heap.size rfl (rankC r) rfl 84 (rankC B2) (rank_size _) rfl (rank_one _) hM7.drew hR9.drew ?_
                    refine plan_done ?_
                    go_wp2
                    go_roundw
                    case rel => exact ⟨n + 1, by omega, by go_num, by rw [hnext.out], hG.out, by rw [hnext.out]; exact hM9.drew, hb9.drew⟩
                    case measure => simp [intOf]; omega
                  | false =>
                    have hnext : Hid _ := hno.out (fun hh => by rcases hh with hh | hh; exact absurd hh (by omega); rw [hbt] at hh; cases hh)
                    go_wp2
                    go_roundw
                    case rel => exact ⟨n + 1, by omega, by go_num, by rw [hnext.out], hG.out, by rw [hnext.out]; exact hM7, hb7⟩
                    case measure => simp [intOf]; omega
      · have e : n = xs.length := by omega
        subst e
        have hF : Hid (bestM9 os (stsOf xs) = (bestN os (stsOf xs) xs.length).1) := bst_is hlen'.out (allIs_take fun k hk => hall k hk hk)
        generalize (bestN os (stsOf xs) xs.length).1 = bb at *
        go_wp2
        go_ret
        exact ⟨by rw [hF.out]; rfl, hb⟩
  · have hF : Hid (bestM9 os (stsOf xs) = -1) := bst_no hlen
    have h1 : ((os.length : Int) != (xs.length : Int)) = true := by rw [bne_iff_ne]; omega
    have h2 : (os.length != xs.length) = true := by rw [bne_iff_ne]; exact hlen
    go_enter Try.func12, Try.ntmps12
    go_wp2
    go_ret
    exact ⟨by rw [hF.out]; rfl, Below.refl _ _⟩
end Go.Proofs.Ytlbokkbngbpmiaa
