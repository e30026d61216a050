/- The document's history in memory, and the contract of its Add. -/
import Derived.Test.YtlbokkbngbpmiaaRefHist
import Derived.Test.YtlbokkbngbpmiaaIvRow
namespace Go.Proofs.Ytlbokkbngbpmiaa
set_option linter.unusedSimpArgs false
set_option linter.unusedVariables false
set_option maxRecDepth 100000
open Go.RowKit

/-- At block r lies a history of the document's, of the increments xs, in the blocks G. -/
def IsR (w : World) (r : Nat) (xs : List IncV) (G : Nat → Prop) : Prop :=
  Good xs ∧ ∃ v, Has w r 81 #[v] ∧ w.ownsRow 0 73 3 v xs.length (incR xs).flatten ∧ v.ownBlock ≠ some r ∧ ∀ k, G k ↔ (k = r ∨ v.ownBlock = some k)

theorem isR_lt {w : World} {r : Nat} {xs : List IncV} {G : Nat → Prop} (h : IsR w r xs G) : ∀ b, G b → b < w.heap.size := by
  obtain ⟨_, v, h1, h2, _, h4⟩ := h
  intro k hk
  rcases (h4 k).1 hk with rfl | e
  · exact h1.lt
  · exact (h2.lt k e).2

theorem isR_kept {w w' : World} {r : Nat} {xs : List IncV} {G : Nat → Prop} (h : IsR w r xs G) (hk : ∀ b, G b → w'.heap[b]? = w.heap[b]?) : IsR w' r xs G := by
  obtain ⟨h0, v, h1, h2, h3, h4⟩ := h
  refine ⟨h0, v, (hk r ((h4 r).2 (.inl rfl))).trans h1, ⟨h2.1, ?_⟩, h3, h4⟩
  rcases h2.2 with hn | ⟨g, cap, cur, rfl, hb, hgg, rest⟩
  · exact .inl hn
  · exact .inr ⟨g, cap, cur, rfl, hb, (hk g ((h4 g).2 (.inr rfl))).trans hgg, rest⟩

theorem isR_later {w w' : World} {r : Nat} {xs : List IncV} {G : Nat → Prop} (h : IsR w r xs G) (hb : Below w.heap.size w w') : IsR w' r xs G :=
  isR_kept h fun b hG => hb.block b (isR_lt h b hG)

theorem isR_off {w w' : World} {r : Nat} {xs : List IncV} {G F : Nat → Prop} (h : IsR w r xs G) (hb : Off F w w') (hn : ∀ b, G b → ¬ F b) : IsR w' r xs G :=
  isR_kept h fun b hG => hb.block b (isR_lt h b hG) (hn b hG)

theorem isR_new (w : World) : IsR (w.alloc (.cells #[.slice none 0 0] 81)) w.heap.size [] (fun k => k = w.heap.size) :=
  ⟨Good.nil, .slice none 0 0, Has.new _ _ _, World.ownsRow_nil _ _ _ _, by simp [Value.ownBlock], fun k => by simp [Value.ownBlock]⟩

theorem isR_get {w : World} {r : Nat} {xs : List IncV} {G : Nat → Prop} (h : IsR w r xs G) : Good xs ∧ ∃ lo lc, Has w r 81 #[.slice lo xs.length lc] ∧ Sl w lo lc 3 (incR xs) := by
  obtain ⟨h0, v, h1, h2, h3, h4⟩ := h
  obtain ⟨_, ao, c, rfl, hS⟩ := inc_own h2
  exact ⟨h0, ao, c, h1, hS⟩

theorem grown_setCell (w : World) (a : Addr) (u : Value) : w.grownBy (w.setCell a u) (some a.block) :=
  ⟨rfl, rfl, rfl, by simp [World.setCell], fun k _ hn => Below.heap_setCell w a u k (fun e => hn (by rw [e]))⟩

section
variable {P : Program} {ops : Array Oper} {Q : Exit → Act → World → Prop} {S : World → Prop}

theorem plan_append {i : Nat} {p : Plan} {a : Act} {w : World} (o : Oper) (ho : nth ops.toList i = some o) (hw : Region.wanted o (yielded ops a.tmps) = true) (s x : Operand) (t : TypeId)
    (hop : o.op = .call { callee := .builtin .append, args := #[s, x], argTypes := #[t, t] })
    (base : Nat) (e : TypeId) (i' : TypeInfo) (z : Value) (size bytes : Nat) (ht : P.underlying t = some (.slice e)) (hi : P.info? e = some i') (hz : i'.zero = some z)
    (hsize : i'.size = size) (hby : i'.bytes = bytes) (hzs : z.cells.size = size) (hsz : 0 < size)
    (v : Value) (n : Nat) (xs : List Value) (hs : a.eval s = v) (hown : w.ownsRow base e size v n xs)
    (ad : Addr) (m c : Nat) (news : List Value) (hx : a.eval x = .slice (some ad) m c) (hl : news.length = m * size) (hnews : ∀ j u, news[j]? = some u → w.cell? (ad.add j) = some u) (h1 : ∀ u ∈ news, u.oneCell' = true)
    (h63 : n + m ≤ maxLen) (hbytes : (n + m) * bytes ≤ 140737488355328) (hbase : base ≤ w.heap.size)
    (h : ∀ v' w', w'.ownsRow base e size v' (n + m) (xs ++ news) → w.grownBy w' v.ownBlock → (v'.ownBlock = v.ownBlock ∨ v'.ownBlock = some w.heap.size) → S w' ∧ wpPlan P ops Q S p (a.put o.dst v') w') :
    wpPlan P ops Q S (Plan.run i p) a w := by
  refine plan_run o ho fun K hK => ?_
  rw [if_pos hw]
  obtain ⟨v', w', hr, h2, h3, h4, h5⟩ := run_append_own_at (P := P) w base t o.type e i' z size bytes ht hi hz hsize hby hzs hsz v n xs hown ad m c news hl hnews h1 h63 hbytes hbase
  obtain ⟨hS, hW⟩ := h v' w' h2 h3 h5
  unfold Oper.wp execOp
  simp only [hop, resolve, invoke, builtin, Sem.run_bind, Sem.run_pure, Result.andThen_ok, List.map_toArray, List.map_cons, List.map_nil, hs, hx, hr]
  exact hK.out _ _ hS hW
end

theorem off_alloc {F : Nat → Prop} {w : World} (o : Obj) : Off F w (w.drew.alloc o) := Off.of ((Below.refl _ _).drew.alloc (Nat.le_refl _) _)
theorem off_grown {F : Nat → Prop} {w w' : World} {row : Option Nat} (h : w.grownBy w' row) (hr : ∀ k, row = some k → F k) : Off F w w' :=
  ⟨h.os, h.tape, h.output, h.size, fun k hk hn => h.block k hk (fun e => hn (hr k e.symm))⟩

set_option maxHeartbeats 8000000 in
theorem radd_any {r : Nat} {xs : List IncV} {G : Nat → Prop} (e : Nat) (x : IncV) (w : World) (h : IsR w r xs G) (heb : e < 4294967296) (hx : IncOk x) :
    Calls Try.prog 30 #[ptr r, .int .u32 e, .agg (incC x)] w fun en w' => en = .returned (.int .i64 (addH xs e x).1) ∧ (∃ G', IsR w' r (addH xs e x).2 G' ∧ ∀ b, G' b → G b ∨ w.heap.size ≤ b) ∧ Off G w w' := by
  obtain ⟨i0, hi, hz0, hz1, hz2⟩ := info_parts Try.infoIncH
  have hpt : ptr r = .pointer (some ⟨r, 0, none⟩) := rfl
  have hX := Has.new w 73 (incC x)
  have hb0 := (Below.refl w.heap.size w).alloc (Nat.le_refl _) (.cells (incC x) 73)
  have hI1 := isR_later h hb0
  have hw1 : w.heap.size < (w.alloc (.cells (incC x) 73)).heap.size := by simp
  obtain ⟨hgood, v, hPw, hownw, hv3, h4⟩ := h
  obtain ⟨_, lo, lc, hlv, hSw⟩ := inc_own hownw
  have hl := lenH hgood
  have hP1 := hPw.later hb0
  have hS1 := hSw.later hb0
  have hown1 : (w.alloc (.cells (incC x) 73)).ownsRow 0 73 3 v xs.length (incR xs).flatten := hownw.alloc _
  have hrlt := hPw.lt
  subst hlv
  obtain ⟨m, hm⟩ : ∃ m, m = xs.length + 1 := ⟨_, rfl⟩
  have hlast := fun W (hW : Has W r 81 #[.slice lo xs.length lc]) => rlast_any r lo lc xs W hW (by omega)
  have hmap := fun W (hW : Has W r 81 #[.slice lo xs.length lc]) (hS : Sl W lo lc 3 (incR xs)) => rmap_any r lo lc xs m W hW hS hgood (by omega)
  rw [← hm, hpt] at hlast
  rw [show min (m - 1) xs.length = xs.length by omega, hpt] at hmap
  have hm' : Hid (m = xs.length + 1) := hm
  have hm60 : m ≤ 60 := by omega
  have hmI : (m : Int) ≤ 60 := by omega
  clear hm
  rw [hpt]
  go_enter Try.func30, Try.ntmps30
  go_wp2_with fail
  refine (hlast _ hP1).mono ?_
  rintro en w1 ⟨rfl, rfl⟩
  generalize w.alloc (.cells (incC x) 73) = w1 at *
  by_cases h1 : e ≤ m
  · have h1I : (e : Int) ≤ (m : Int) := by omega
    have hA : Hid (addH xs e x = (51, xs)) := addH_old (by have := hm'.out; omega)
    clear h1
    go_wp2
    go_ret
    exact ⟨by rw [hA.out]; rfl, ⟨G, by rw [hA.out]; exact hI1, fun k hk => .inl hk⟩, Off.of hb0⟩
  · have h1I : (m : Int) < (e : Int) := by omega
    go_wp2_with fail
    refine (hlast _ hP1).mono ?_
    rintro en w1' ⟨rfl, rfl⟩
    by_cases h2 : m + 1 < e
    · have h2I : (m : Int) + 1 < (e : Int) := by omega
      have hA : Hid (addH xs e x = (50, xs)) := addH_gap (by have := hm'.out; omega)
      clear h1 h2
      go_wp2
      go_ret
      exact ⟨by rw [hA.out]; rfl, ⟨G, by rw [hA.out]; exact hI1, fun k hk => .inl hk⟩, Off.of hb0⟩
    · have h2I : (e : Int) ≤ (m : Int) + 1 := by omega
      have he : Hid (e = xs.length + 2) := by have := hm'.out; show e = xs.length + 2; omega
      clear h1 h2
      have hokm := okH hgood xs.length (Nat.le_refl _)
      have hbA : Below w1'.heap.size w1' w1'.drew := (Below.refl _ _).drew
      go_wp2
      refine wp_region_plan (fun W => Below w1'.heap.size w1' W) (Plan.of [(0, true), (1, true), (4, true)] (.either 2 (.either 3 (.either 5 (Plan.of [(6, true), (7, true), (8, true), (9, false), (10, false), (11, true)] .done) 9 (Plan.of [(5, false), (6, true), (7, true), (8, true), (10, false), (11, true)] .done)) 9 (Plan.of [(3, false), (5, false), (6, true), (7, true), (8, true), (10, false), (11, true)] .done)) 9 (Plan.of [(2, false), (3, false), (5, false), (6, true), (7, true), (8, true), (10, false), (11, true)] .done))) (by kernel_rfl) (by kernel_rfl) (by kernel_rfl) (by kernel_rfl) hbA ?_
      iterate 2
        first
          | (refine plan_pass _ rfl (by rfl) ?_)
          | (refine plan_take _ _ rfl (.inl ⟨by rfl, fun W hS => by clear hS; go_simp; try with_reducible rfl⟩) ?_)
        try simp only [Act.put, List.setIfInBounds_toArray, List.set_cons_zero, List.set_cons_succ]
      refine plan_take _ _ rfl (yields_inc x (by rfl) _ rfl (w.heap.size) rfl (fun W hS => hX.later hS)) ?_
      try simp only [Act.put, List.setIfInBounds_toArray, List.set_cons_zero, List.set_cons_succ]
      refine plan_either ?_ ?_
      · refine plan_run _ rfl (fun K hK => ?_)
        go_simp
        refine (hlast _ (hP1.later hbA)).mono ?_
        rintro en wq ⟨rfl, rfl⟩
        refine hK.out _ _ hbA ?_
        clear hK K
        refine plan_either ?_ ?_
        · refine plan_run _ rfl (fun K hK => ?_)
          go_simp
          refine (hmap _ (hP1.later hbA) (hS1.later hbA)).mono ?_
          rintro en w3 ⟨rfl, hq⟩
          have hbB : Below w1'.heap.size w1' w3 := hbA.trans (hq.mono hbA.size)
          try replace hM := hM.later hq
          refine hK.out _ _ hbB ?_
          clear hK K hq
          refine plan_either ?_ ?_
          · refine plan_run _ rfl (fun K hK => ?_)
            go_simp
            refine (refapply_any (mapH xs xs.length) x _ hokm hx).mono ?_
            rintro en w4 ⟨rfl, hq⟩
            have hbC : Below w1'.heap.size w1' w4 := hbB.trans (hq.mono hbB.size)
            try replace hM := hM.later hq
            refine hK.out _ _ hbC ?_
            clear hK K hq
            iterate 3
              first
                | (refine plan_pass _ rfl (by rfl) ?_)
                | (refine plan_take _ _ rfl (.inl ⟨by rfl, fun W hS => by clear hS; go_simp; try with_reducible rfl⟩) ?_)
              try simp only [Act.put, List.setIfInBounds_toArray, List.set_cons_zero, List.set_cons_succ]
            refine plan_alloc_has _ rfl (by rfl) 106 rfl (mapC zeroM) map_zero (hbC.alloc hbC.size _) ?_
            try simp only [Act.put, List.setIfInBounds_toArray, List.set_cons_zero, List.set_cons_succ]
            have hM := Has.new w4 106 (mapC zeroM)
            have hbD : Below w1'.heap.size w1' (w4.alloc (.cells (mapC zeroM) 106)) := hbC.alloc hbC.size _
            have hgm : w1'.heap.size ≤ w4.heap.size := hbC.size
            generalize w4.alloc (.cells (mapC zeroM) 106) = w5 at *
            generalize w4.heap.size = gm at *
            have hbW := below_setRow hbD hgm (mapC (applyM (mapH xs xs.length) x))
            refine plan_store_has _ rfl (by rfl) 106 _ _ rfl gm rfl (mapC (applyM (mapH xs xs.length) x)) rfl 106 (mapC zeroM) (map_size _) (by rw [mapC_size, mapC_size]) (mapC_one _) hM hbW ?_
            try simp only [Act.put, List.setIfInBounds_toArray, List.set_cons_zero, List.set_cons_succ]
            generalize w5.setRow gm (mapC (applyM (mapH xs xs.length) x)) = w8 at *
            iterate 1
              first
                | (refine plan_pass _ rfl (by rfl) ?_)
                | (refine plan_take _ _ rfl (.inl ⟨by rfl, fun W hS => by clear hS; go_simp; try with_reducible rfl⟩) ?_)
              try simp only [Act.put, List.setIfInBounds_toArray, List.set_cons_zero, List.set_cons_succ]
            refine plan_done ?_
            clear hM hgm
            cases hok : okA (mapH xs xs.length) x with
            | false =>
              have hno := addH_no (x := x) he.out hok
              have hA : Hid (addH xs e x = (40, xs)) := hno
              clear hno
              have hI2 := isR_later hI1 hbW
              go_wp2
              go_ret
              exact ⟨by rw [hA.out]; rfl, ⟨G, by rw [hA.out]; exact hI2, fun k hk => .inl hk⟩, Off.of (hb0.trans (hbW.mono hb0.size))⟩
            | true =>
              have hyes := addH_yes (x := x) he.out hok
              have hA : Hid (addH xs e x = (0, xs ++ [x])) := hyes
              clear hyes
              have hgood2 := Good.snoc hgood hok hx
              have hX2 := hX.later hbW
              have hP2 := hP1.later hbW
              have hown2 : w8.drew.ownsRow 0 73 3 (.slice lo xs.length lc) xs.length (incR xs).flatten := hown1.kept (grown_of hbW.drew) (by simp; exact Classical.em _)
              have hvx : (Value.slice lo xs.length lc).ownBlock ≠ some w.heap.size := fun e2 => by have := (hownw.lt _ e2).2; omega
              have c2 : w8.drew.cell? ⟨r, 0, none⟩ = some (.slice lo xs.length lc) := (hP2.drew.cell 0).trans rfl
              have hsz3 : (incC x).size = 3 := rfl
              go_wp2
              refine wp_region_plan (fun V => Has V w.heap.size 73 (incC x)) (Plan.of [(0, true), (1, true), (2, true), (3, true), (5, true)] (.either 4 (Plan.of [(6, false), (7, false), (8, true), (9, true), (10, false)] .done) 6 (Plan.of [(4, false), (7, false), (8, true), (9, true), (10, false)] .done))) (by kernel_rfl) (by kernel_rfl) (by kernel_rfl) (by kernel_rfl) hX2.drew ?_
              iterate 4
                first
                  | (refine plan_pass _ rfl (by rfl) ?_)
                  | (refine plan_take _ _ rfl (.inl ⟨by rfl, fun W hS => by clear hS; go_simp; try with_reducible rfl⟩) ?_)
                try simp only [Act.put, List.setIfInBounds_toArray, List.set_cons_zero, List.set_cons_succ]
              refine plan_take _ _ rfl (yields_inc x (by rfl) _ rfl (w.heap.size) rfl (fun _ h => h)) ?_
              try simp only [Act.put, List.setIfInBounds_toArray, List.set_cons_zero, List.set_cons_succ]
              refine plan_either ?_ ?_
              · refine plan_run _ rfl (fun K hK => ?_)
                go_simp
                refine hK.out _ _ (hX2.drew) ?_
                clear hK K
                refine plan_run _ rfl (fun K hK => ?_)
                go_simp
                refine hK.out _ (w8.drew.alloc (.cells (incC x) 73)) (hX2.drew.alloc _) ?_
                clear hK K
                refine plan_append _ rfl (by rfl) _ _ 24 rfl 0 73 i0 (.agg (incC ⟨0, 0, 0⟩)) 3 16 Try.underlying24 hi hz0 hz1 hz2 rfl (by decide) _ xs.length _ rfl (hown2.alloc _) ⟨w8.drew.heap.size, 0, none⟩ 1 1 (incC x).toList rfl rfl (row_new _ _ _) (inc_cells1 x) (by unfold maxLen; omega) (by omega) (Nat.zero_le _) ?_
                intro v' w9 hown9 hgrow hat
                have hP9 := hP2.drew.grown (.cells (incC x) 73) hgrow hv3
                have hX9 := hX2.drew.grown (.cells (incC x) 73) hgrow hvx
                refine ⟨hX9, ?_⟩
                try simp only [Act.put, List.setIfInBounds_toArray, List.set_cons_zero, List.set_cons_succ]
                have hrow9 : w9.ownsRow 0 73 3 v' (xs ++ [x]).length (incR (xs ++ [x])).flatten := inc_row_own hown9 rfl rfl
                have hv9 : v'.ownBlock ≠ some r := by
                  rcases hat with e1 | e1
                  · rw [e1]; exact hv3
                  · rw [e1]
                    intro e2
                    have := Option.some.inj e2
                    have := hP2.lt
                    simp at *
                    omega
                have hO9 : Off G w w9 := (Off.of (hb0.trans (hbW.mono hb0.size))).trans ((off_alloc (w := w8) (.cells (incC x) 73)).trans (off_grown hgrow (fun k hk => (h4 k).2 (.inr hk))))
                have hat9 : ∀ k, v'.ownBlock = some k → G k ∨ w.heap.size ≤ k := fun k hk => by
                  rcases hat with e1 | e1
                  · exact .inl ((h4 k).2 (.inr (e1 ▸ hk)))
                  · rw [hk] at e1
                    have e2 := Option.some.inj e1
                    have := hbW.size
                    have := hb0.size
                    simp at e2
                    exact .inr (by omega)
                clear hown9 hgrow hat
                obtain ⟨eo, n9, ec, rfl⟩ : ∃ eo n9 ec, v' = Value.slice eo n9 ec := by obtain ⟨_, ao, c, h, _⟩ := inc_own hrow9; exact ⟨ao, _, c, h⟩
                have c9 := (hP9.cell 0).trans rfl
                have f9 := hP9.free 0
                iterate 2
                  first
                    | (refine plan_pass _ rfl (by rfl) ?_)
                    | (refine plan_take _ _ rfl (.inl ⟨by rfl, fun W hS => by clear hS; go_simp; try with_reducible rfl⟩) ?_)
                  try simp only [Act.put, List.setIfInBounds_toArray, List.set_cons_zero, List.set_cons_succ]
                refine plan_run _ rfl (fun K hK => ?_)
                go_simp
                have hPz : Has (w9.setCell ⟨r, 0, none⟩ (.slice eo n9 ec)) r 81 #[.slice eo n9 ec] := hP9.set 0 (.slice eo n9 ec)
                have hXz := hX9.set_other (a := ⟨r, 0, none⟩) (show w.heap.size ≠ r by omega) (.slice eo n9 ec)
                have hrowz := hrow9.kept (grown_setCell w9 ⟨r, 0, none⟩ (.slice eo n9 ec)) (.inr hv9)
                have hOz : Off G w (w9.setCell ⟨r, 0, none⟩ (.slice eo n9 ec)) := hO9.trans (off_grown (grown_setCell w9 ⟨r, 0, none⟩ (.slice eo n9 ec)) (fun k hk => (h4 k).2 (.inl (Option.some.inj hk).symm)))
                refine hK.out _ _ hXz ?_
                clear hK K
                refine plan_done ?_
                generalize w9.setCell ⟨r, 0, none⟩ (.slice eo n9 ec) = wz at *
                go_wp2
                go_ret
                exact ⟨by rw [hA.out]; rfl, ⟨fun k => k = r ∨ (Value.slice eo n9 ec).ownBlock = some k, by rw [hA.out]; exact ⟨hgood2, .slice eo n9 ec, hPz, hrowz, hv9, fun _ => Iff.rfl⟩, fun k hk => by rcases hk with rfl | hk; exact .inl ((h4 k).2 (.inl rfl)); exact hat9 k hk⟩, hOz⟩
              · refine plan_run _ rfl (fun K hK => ?_)
                go_simp
                refine hK.out _ (w8.drew.alloc (.cells (incC x) 73)) (hX2.drew.alloc _) ?_
                clear hK K
                have c2' : (w8.alloc (.cells (incC x) 73)).cell? ⟨r, 0, none⟩ = some (.slice lo xs.length lc) := ((hP2.alloc _).cell 0).trans rfl
                refine plan_run _ rfl (fun K hK => ?_)
                go_simp
                refine hK.out _ _ (hX2.drew.alloc _) ?_
                clear hK K
                refine plan_append _ rfl (by rfl) _ _ 24 rfl 0 73 i0 (.agg (incC ⟨0, 0, 0⟩)) 3 16 Try.underlying24 hi hz0 hz1 hz2 rfl (by decide) _ xs.length _ rfl (hown2.alloc _) ⟨w8.drew.heap.size, 0, none⟩ 1 1 (incC x).toList rfl rfl (row_new _ _ _) (inc_cells1 x) (by unfold maxLen; omega) (by omega) (Nat.zero_le _) ?_
                intro v' w9 hown9 hgrow hat
                have hP9 := hP2.drew.grown (.cells (incC x) 73) hgrow hv3
                have hX9 := hX2.drew.grown (.cells (incC x) 73) hgrow hvx
                refine ⟨hX9, ?_⟩
                try simp only [Act.put, List.setIfInBounds_toArray, List.set_cons_zero, List.set_cons_succ]
                have hrow9 : w9.ownsRow 0 73 3 v' (xs ++ [x]).length (incR (xs ++ [x])).flatten := inc_row_own hown9 rfl rfl
                have hv9 : v'.ownBlock ≠ some r := by
                  rcases hat with e1 | e1
                  · rw [e1]; exact hv3
                  · rw [e1]
                    intro e2
                    have := Option.some.inj e2
                    have := hP2.lt
                    simp at *
                    omega
                have hO9 : Off G w w9 := (Off.of (hb0.trans (hbW.mono hb0.size))).trans ((off_alloc (w := w8) (.cells (incC x) 73)).trans (off_grown hgrow (fun k hk => (h4 k).2 (.inr hk))))
                have hat9 : ∀ k, v'.ownBlock = some k → G k ∨ w.heap.size ≤ k := fun k hk => by
                  rcases hat with e1 | e1
                  · exact .inl ((h4 k).2 (.inr (e1 ▸ hk)))
                  · rw [hk] at e1
                    have e2 := Option.some.inj e1
                    have := hbW.size
                    have := hb0.size
                    simp at e2
                    exact .inr (by omega)
                clear hown9 hgrow hat
                obtain ⟨eo, n9, ec, rfl⟩ : ∃ eo n9 ec, v' = Value.slice eo n9 ec := by obtain ⟨_, ao, c, h, _⟩ := inc_own hrow9; exact ⟨ao, _, c, h⟩
                have c9 := (hP9.cell 0).trans rfl
                have f9 := hP9.free 0
                iterate 2
                  first
                    | (refine plan_pass _ rfl (by rfl) ?_)
                    | (refine plan_take _ _ rfl (.inl ⟨by rfl, fun W hS => by clear hS; go_simp; try with_reducible rfl⟩) ?_)
                  try simp only [Act.put, List.setIfInBounds_toArray, List.set_cons_zero, List.set_cons_succ]
                refine plan_run _ rfl (fun K hK => ?_)
                go_simp
                have hPz : Has (w9.setCell ⟨r, 0, none⟩ (.slice eo n9 ec)) r 81 #[.slice eo n9 ec] := hP9.set 0 (.slice eo n9 ec)
                have hXz := hX9.set_other (a := ⟨r, 0, none⟩) (show w.heap.size ≠ r by omega) (.slice eo n9 ec)
                have hrowz := hrow9.kept (grown_setCell w9 ⟨r, 0, none⟩ (.slice eo n9 ec)) (.inr hv9)
                have hOz : Off G w (w9.setCell ⟨r, 0, none⟩ (.slice eo n9 ec)) := hO9.trans (off_grown (grown_setCell w9 ⟨r, 0, none⟩ (.slice eo n9 ec)) (fun k hk => (h4 k).2 (.inl (Option.some.inj hk).symm)))
                refine hK.out _ _ hXz ?_
                clear hK K
                refine plan_done ?_
                generalize w9.setCell ⟨r, 0, none⟩ (.slice eo n9 ec) = wz at *
                go_wp2
                go_ret
                exact ⟨by rw [hA.out]; rfl, ⟨fun k => k = r ∨ (Value.slice eo n9 ec).ownBlock = some k, by rw [hA.out]; exact ⟨hgood2, .slice eo n9 ec, hPz, hrowz, hv9, fun _ => Iff.rfl⟩, fun k hk => by rcases hk with rfl | hk; exact .inl ((h4 k).2 (.inl rfl)); exact hat9 k hk⟩, hOz⟩
          · refine plan_alloc_has _ rfl (by rfl) 106 rfl (mapC zeroM) map_zero (hbB.alloc hbB.size _) ?_
            try simp only [Act.put, List.setIfInBounds_toArray, List.set_cons_zero, List.set_cons_succ]
            have hM := Has.new w3 106 (mapC zeroM)
            have hbC : Below w1'.heap.size w1' (w3.alloc (.cells (mapC zeroM) 106)) := hbB.alloc hbB.size _
            have hgm : w1'.heap.size ≤ w3.heap.size := hbB.size
            generalize w3.alloc (.cells (mapC zeroM) 106) = w4 at *
            generalize w3.heap.size = gm at *
            refine plan_run _ rfl (fun K hK => ?_)
            go_simp
            refine (refapply_any (mapH xs xs.length) x _ hokm hx).mono ?_
            rintro en w5 ⟨rfl, hq⟩
            have hbD : Below w1'.heap.size w1' w5 := hbC.trans (hq.mono hbC.size)
            try replace hM := hM.later hq
            refine hK.out _ _ hbD ?_
            clear hK K hq
            iterate 3
              first
                | (refine plan_pass _ rfl (by rfl) ?_)
                | (refine plan_take _ _ rfl (.inl ⟨by rfl, fun W hS => by clear hS; go_simp; try with_reducible rfl⟩) ?_)
              try simp only [Act.put, List.setIfInBounds_toArray, List.set_cons_zero, List.set_cons_succ]
            have hbW := below_setRow hbD hgm (mapC (applyM (mapH xs xs.length) x))
            refine plan_store_has _ rfl (by rfl) 106 _ _ rfl gm rfl (mapC (applyM (mapH xs xs.length) x)) rfl 106 (mapC zeroM) (map_size _) (by rw [mapC_size, mapC_size]) (mapC_one _) hM hbW ?_
            try simp only [Act.put, List.setIfInBounds_toArray, List.set_cons_zero, List.set_cons_succ]
            generalize w5.setRow gm (mapC (applyM (mapH xs xs.length) x)) = w8 at *
            iterate 1
              first
                | (refine plan_pass _ rfl (by rfl) ?_)
                | (refine plan_take _ _ rfl (.inl ⟨by rfl, fun W hS => by clear hS; go_simp; try with_reducible rfl⟩) ?_)
              try simp only [Act.put, List.setIfInBounds_toArray, List.set_cons_zero, List.set_cons_succ]
            refine plan_done ?_
            clear hM hgm
            cases hok : okA (mapH xs xs.length) x with
            | false =>
              have hno := addH_no (x := x) he.out hok
              have hA : Hid (addH xs e x = (40, xs)) := hno
              clear hno
              have hI2 := isR_later hI1 hbW
              go_wp2
              go_ret
              exact ⟨by rw [hA.out]; rfl, ⟨G, by rw [hA.out]; exact hI2, fun k hk => .inl hk⟩, Off.of (hb0.trans (hbW.mono hb0.size))⟩
            | true =>
              have hyes := addH_yes (x := x) he.out hok
              have hA : Hid (addH xs e x = (0, xs ++ [x])) := hyes
              clear hyes
              have hgood2 := Good.snoc hgood hok hx
              have hX2 := hX.later hbW
              have hP2 := hP1.later hbW
              have hown2 : w8.drew.ownsRow 0 73 3 (.slice lo xs.length lc) xs.length (incR xs).flatten := hown1.kept (grown_of hbW.drew) (by simp; exact Classical.em _)
              have hvx : (Value.slice lo xs.length lc).ownBlock ≠ some w.heap.size := fun e2 => by have := (hownw.lt _ e2).2; omega
              have c2 : w8.drew.cell? ⟨r, 0, none⟩ = some (.slice lo xs.length lc) := (hP2.drew.cell 0).trans rfl
              have hsz3 : (incC x).size = 3 := rfl
              go_wp2
              refine wp_region_plan (fun V => Has V w.heap.size 73 (incC x)) (Plan.of [(0, true), (1, true), (2, true), (3, true), (5, true)] (.either 4 (Plan.of [(6, false), (7, false), (8, true), (9, true), (10, false)] .done) 6 (Plan.of [(4, false), (7, false), (8, true), (9, true), (10, false)] .done))) (by kernel_rfl) (by kernel_rfl) (by kernel_rfl) (by kernel_rfl) hX2.drew ?_
              iterate 4
                first
                  | (refine plan_pass _ rfl (by rfl) ?_)
                  | (refine plan_take _ _ rfl (.inl ⟨by rfl, fun W hS => by clear hS; go_simp; try with_reducible rfl⟩) ?_)
                try simp only [Act.put, List.setIfInBounds_toArray, List.set_cons_zero, List.set_cons_succ]
              refine plan_take _ _ rfl (yields_inc x (by rfl) _ rfl (w.heap.size) rfl (fun _ h => h)) ?_
              try simp only [Act.put, List.setIfInBounds_toArray, List.set_cons_zero, List.set_cons_succ]
              refine plan_either ?_ ?_
              · refine plan_run _ rfl (fun K hK => ?_)
                go_simp
                refine hK.out _ _ (hX2.drew) ?_
                clear hK K
                refine plan_run _ rfl (fun K hK => ?_)
                go_simp
                refine hK.out _ (w8.drew.alloc (.cells (incC x) 73)) (hX2.drew.alloc _) ?_
                clear hK K
                refine plan_append _ rfl (by rfl) _ _ 24 rfl 0 73 i0 (.agg (incC ⟨0, 0, 0⟩)) 3 16 Try.underlying24 hi hz0 hz1 hz2 rfl (by decide) _ xs.length _ rfl (hown2.alloc _) ⟨w8.drew.heap.size, 0, none⟩ 1 1 (incC x).toList rfl rfl (row_new _ _ _) (inc_cells1 x) (by unfold maxLen; omega) (by omega) (Nat.zero_le _) ?_
                intro v' w9 hown9 hgrow hat
                have hP9 := hP2.drew.grown (.cells (incC x) 73) hgrow hv3
                have hX9 := hX2.drew.grown (.cells (incC x) 73) hgrow hvx
                refine ⟨hX9, ?_⟩
                try simp only [Act.put, List.setIfInBounds_toArray, List.set_cons_zero, List.set_cons_succ]
                have hrow9 : w9.ownsRow 0 73 3 v' (xs ++ [x]).length (incR (xs ++ [x])).flatten := inc_row_own hown9 rfl rfl
                have hv9 : v'.ownBlock ≠ some r := by
                  rcases hat with e1 | e1
                  · rw [e1]; exact hv3
                  · rw [e1]
                    intro e2
                    have := Option.some.inj e2
                    have := hP2.lt
                    simp at *
                    omega
                have hO9 : Off G w w9 := (Off.of (hb0.trans (hbW.mono hb0.size))).trans ((off_alloc (w := w8) (.cells (incC x) 73)).trans (off_grown hgrow (fun k hk => (h4 k).2 (.inr hk))))
                have hat9 : ∀ k, v'.ownBlock = some k → G k ∨ w.heap.size ≤ k := fun k hk => by
                  rcases hat with e1 | e1
                  · exact .inl ((h4 k).2 (.inr (e1 ▸ hk)))
                  · rw [hk] at e1
                    have e2 := Option.some.inj e1
                    have := hbW.size
                    have := hb0.size
                    simp at e2
                    exact .inr (by omega)
                clear hown9 hgrow hat
                obtain ⟨eo, n9, ec, rfl⟩ : ∃ eo n9 ec, v' = Value.slice eo n9 ec := by obtain ⟨_, ao, c, h, _⟩ := inc_own hrow9; exact ⟨ao, _, c, h⟩
                have c9 := (hP9.cell 0).trans rfl
                have f9 := hP9.free 0
                iterate 2
                  first
                    | (refine plan_pass _ rfl (by rfl) ?_)
                    | (refine plan_take _ _ rfl (.inl ⟨by rfl, fun W hS => by clear hS; go_simp; try with_reducible rfl⟩) ?_)
                  try simp only [Act.put, List.setIfInBounds_toArray, List.set_cons_zero, List.set_cons_succ]
                refine plan_run _ rfl (fun K hK => ?_)
                go_simp
                have hPz : Has (w9.setCell ⟨r, 0, none⟩ (.slice eo n9 ec)) r 81 #[.slice eo n9 ec] := hP9.set 0 (.slice eo n9 ec)
                have hXz := hX9.set_other (a := ⟨r, 0, none⟩) (show w.heap.size ≠ r by omega) (.slice eo n9 ec)
                have hrowz := hrow9.kept (grown_setCell w9 ⟨r, 0, none⟩ (.slice eo n9 ec)) (.inr hv9)
                have hOz : Off G w (w9.setCell ⟨r, 0, none⟩ (.slice eo n9 ec)) := hO9.trans (off_grown (grown_setCell w9 ⟨r, 0, none⟩ (.slice eo n9 ec)) (fun k hk => (h4 k).2 (.inl (Option.some.inj hk).symm)))
                refine hK.out _ _ hXz ?_
                clear hK K
                refine plan_done ?_
                generalize w9.setCell ⟨r, 0, none⟩ (.slice eo n9 ec) = wz at *
                go_wp2
                go_ret
                exact ⟨by rw [hA.out]; rfl, ⟨fun k => k = r ∨ (Value.slice eo n9 ec).ownBlock = some k, by rw [hA.out]; exact ⟨hgood2, .slice eo n9 ec, hPz, hrowz, hv9, fun _ => Iff.rfl⟩, fun k hk => by rcases hk with rfl | hk; exact .inl ((h4 k).2 (.inl rfl)); exact hat9 k hk⟩, hOz⟩
              · refine plan_run _ rfl (fun K hK => ?_)
                go_simp
                refine hK.out _ (w8.drew.alloc (.cells (incC x) 73)) (hX2.drew.alloc _) ?_
                clear hK K
                have c2' : (w8.alloc (.cells (incC x) 73)).cell? ⟨r, 0, none⟩ = some (.slice lo xs.length lc) := ((hP2.alloc _).cell 0).trans rfl
                refine plan_run _ rfl (fun K hK => ?_)
                go_simp
                refine hK.out _ _ (hX2.drew.alloc _) ?_
                clear hK K
                refine plan_append _ rfl (by rfl) _ _ 24 rfl 0 73 i0 (.agg (incC ⟨0, 0, 0⟩)) 3 16 Try.underlying24 hi hz0 hz1 hz2 rfl (by decide) _ xs.length _ rfl (hown2.alloc _) ⟨w8.drew.heap.size, 0, none⟩ 1 1 (incC x).toList rfl rfl (row_new _ _ _) (inc_cells1 x) (by unfold maxLen; omega) (by omega) (Nat.zero_le _) ?_
                intro v' w9 hown9 hgrow hat
                have hP9 := hP2.drew.grown (.cells (incC x) 73) hgrow hv3
                have hX9 := hX2.drew.grown (.cells (incC x) 73) hgrow hvx
                refine ⟨hX9, ?_⟩
                try simp only [Act.put, List.setIfInBounds_toArray, List.set_cons_zero, List.set_cons_succ]
                have hrow9 : w9.ownsRow 0 73 3 v' (xs ++ [x]).length (incR (xs ++ [x])).flatten := inc_row_own hown9 rfl rfl
                have hv9 : v'.ownBlock ≠ some r := by
                  rcases hat with e1 | e1
                  · rw [e1]; exact hv3
                  · rw [e1]
                    intro e2
                    have := Option.some.inj e2
                    have := hP2.lt
                    simp at *
                    omega
                have hO9 : Off G w w9 := (Off.of (hb0.trans (hbW.mono hb0.size))).trans ((off_alloc (w := w8) (.cells (incC x) 73)).trans (off_grown hgrow (fun k hk => (h4 k).2 (.inr hk))))
                have hat9 : ∀ k, v'.ownBlock = some k → G k ∨ w.heap.size ≤ k := fun k hk => by
                  rcases hat with e1 | e1
                  · exact .inl ((h4 k).2 (.inr (e1 ▸ hk)))
                  · rw [hk] at e1
                    have e2 := Option.some.inj e1
                    have := hbW.size
                    have := hb0.size
                    simp at e2
                    exact .inr (by omega)
                clear hown9 hgrow hat
                obtain ⟨eo, n9, ec, rfl⟩ : ∃ eo n9 ec, v' = Value.slice eo n9 ec := by obtain ⟨_, ao, c, h, _⟩ := inc_own hrow9; exact ⟨ao, _, c, h⟩
                have c9 := (hP9.cell 0).trans rfl
                have f9 := hP9.free 0
                iterate 2
                  first
                    | (refine plan_pass _ rfl (by rfl) ?_)
                    | (refine plan_take _ _ rfl (.inl ⟨by rfl, fun W hS => by clear hS; go_simp; try with_reducible rfl⟩) ?_)
                  try simp only [Act.put, List.setIfInBounds_toArray, List.set_cons_zero, List.set_cons_succ]
                refine plan_run _ rfl (fun K hK => ?_)
                go_simp
                have hPz : Has (w9.setCell ⟨r, 0, none⟩ (.slice eo n9 ec)) r 81 #[.slice eo n9 ec] := hP9.set 0 (.slice eo n9 ec)
                have hXz := hX9.set_other (a := ⟨r, 0, none⟩) (show w.heap.size ≠ r by omega) (.slice eo n9 ec)
                have hrowz := hrow9.kept (grown_setCell w9 ⟨r, 0, none⟩ (.slice eo n9 ec)) (.inr hv9)
                have hOz : Off G w (w9.setCell ⟨r, 0, none⟩ (.slice eo n9 ec)) := hO9.trans (off_grown (grown_setCell w9 ⟨r, 0, none⟩ (.slice eo n9 ec)) (fun k hk => (h4 k).2 (.inl (Option.some.inj hk).symm)))
                refine hK.out _ _ hXz ?_
                clear hK K
                refine plan_done ?_
                generalize w9.setCell ⟨r, 0, none⟩ (.slice eo n9 ec) = wz at *
                go_wp2
                go_ret
                exact ⟨by rw [hA.out]; rfl, ⟨fun k => k = r ∨ (Value.slice eo n9 ec).ownBlock = some k, by rw [hA.out]; exact ⟨hgood2, .slice eo n9 ec, hPz, hrowz, hv9, fun _ => Iff.rfl⟩, fun k hk => by rcases hk with rfl | hk; exact .inl ((h4 k).2 (.inl rfl)); exact hat9 k hk⟩, hOz⟩
        · refine plan_alloc_has _ rfl (by rfl) 106 rfl (mapC zeroM) map_zero (hbA.alloc hbA.size _) ?_
          try simp only [Act.put, List.setIfInBounds_toArray, List.set_cons_zero, List.set_cons_succ]
          have hM := Has.new w1'.drew 106 (mapC zeroM)
          have hbB : Below w1'.heap.size w1' (w1'.drew.alloc (.cells (mapC zeroM) 106)) := hbA.alloc hbA.size _
          have hgm : w1'.heap.size ≤ w1'.drew.heap.size := hbA.size
          generalize w1'.drew.alloc (.cells (mapC zeroM) 106) = w3 at *
          generalize w1'.drew.heap.size = gm at *
          refine plan_run _ rfl (fun K hK => ?_)
          go_simp
          refine (hmap _ (hP1.later hbB) (hS1.later hbB)).mono ?_
          rintro en w4 ⟨rfl, hq⟩
          have hbC : Below w1'.heap.size w1' w4 := hbB.trans (hq.mono hbB.size)
          try replace hM := hM.later hq
          refine hK.out _ _ hbC ?_
          clear hK K hq
          refine plan_run _ rfl (fun K hK => ?_)
          go_simp
          refine (refapply_any (mapH xs xs.length) x _ hokm hx).mono ?_
          rintro en w5 ⟨rfl, hq⟩
          have hbD : Below w1'.heap.size w1' w5 := hbC.trans (hq.mono hbC.size)
          try replace hM := hM.later hq
          refine hK.out _ _ hbD ?_
          clear hK K hq
          iterate 3
            first
              | (refine plan_pass _ rfl (by rfl) ?_)
              | (refine plan_take _ _ rfl (.inl ⟨by rfl, fun W hS => by clear hS; go_simp; try with_reducible rfl⟩) ?_)
            try simp only [Act.put, List.setIfInBounds_toArray, List.set_cons_zero, List.set_cons_succ]
          have hbW := below_setRow hbD hgm (mapC (applyM (mapH xs xs.length) x))
          refine plan_store_has _ rfl (by rfl) 106 _ _ rfl gm rfl (mapC (applyM (mapH xs xs.length) x)) rfl 106 (mapC zeroM) (map_size _) (by rw [mapC_size, mapC_size]) (mapC_one _) hM hbW ?_
          try simp only [Act.put, List.setIfInBounds_toArray, List.set_cons_zero, List.set_cons_succ]
          generalize w5.setRow gm (mapC (applyM (mapH xs xs.length) x)) = w8 at *
          iterate 1
            first
              | (refine plan_pass _ rfl (by rfl) ?_)
              | (refine plan_take _ _ rfl (.inl ⟨by rfl, fun W hS => by clear hS; go_simp; try with_reducible rfl⟩) ?_)
            try simp only [Act.put, List.setIfInBounds_toArray, List.set_cons_zero, List.set_cons_succ]
          refine plan_done ?_
          clear hM hgm
          cases hok : okA (mapH xs xs.length) x with
          | false =>
            have hno := addH_no (x := x) he.out hok
            have hA : Hid (addH xs e x = (40, xs)) := hno
            clear hno
            have hI2 := isR_later hI1 hbW
            go_wp2
            go_ret
            exact ⟨by rw [hA.out]; rfl, ⟨G, by rw [hA.out]; exact hI2, fun k hk => .inl hk⟩, Off.of (hb0.trans (hbW.mono hb0.size))⟩
          | true =>
            have hyes := addH_yes (x := x) he.out hok
            have hA : Hid (addH xs e x = (0, xs ++ [x])) := hyes
            clear hyes
            have hgood2 := Good.snoc hgood hok hx
            have hX2 := hX.later hbW
            have hP2 := hP1.later hbW
            have hown2 : w8.drew.ownsRow 0 73 3 (.slice lo xs.length lc) xs.length (incR xs).flatten := hown1.kept (grown_of hbW.drew) (by simp; exact Classical.em _)
            have hvx : (Value.slice lo xs.length lc).ownBlock ≠ some w.heap.size := fun e2 => by have := (hownw.lt _ e2).2; omega
            have c2 : w8.drew.cell? ⟨r, 0, none⟩ = some (.slice lo xs.length lc) := (hP2.drew.cell 0).trans rfl
            have hsz3 : (incC x).size = 3 := rfl
            go_wp2
            refine wp_region_plan (fun V => Has V w.heap.size 73 (incC x)) (Plan.of [(0, true), (1, true), (2, true), (3, true), (5, true)] (.either 4 (Plan.of [(6, false), (7, false), (8, true), (9, true), (10, false)] .done) 6 (Plan.of [(4, false), (7, false), (8, true), (9, true), (10, false)] .done))) (by kernel_rfl) (by kernel_rfl) (by kernel_rfl) (by kernel_rfl) hX2.drew ?_
            iterate 4
              first
                | (refine plan_pass _ rfl (by rfl) ?_)
                | (refine plan_take _ _ rfl (.inl ⟨by rfl, fun W hS => by clear hS; go_simp; try with_reducible rfl⟩) ?_)
              try simp only [Act.put, List.setIfInBounds_toArray, List.set_cons_zero, List.set_cons_succ]
            refine plan_take _ _ rfl (yields_inc x (by rfl) _ rfl (w.heap.size) rfl (fun _ h => h)) ?_
            try simp only [Act.put, List.setIfInBounds_toArray, List.set_cons_zero, List.set_cons_succ]
            refine plan_either ?_ ?_
            · refine plan_run _ rfl (fun K hK => ?_)
              go_simp
              refine hK.out _ _ (hX2.drew) ?_
              clear hK K
              refine plan_run _ rfl (fun K hK => ?_)
              go_simp
              refine hK.out _ (w8.drew.alloc (.cells (incC x) 73)) (hX2.drew.alloc _) ?_
              clear hK K
              refine plan_append _ rfl (by rfl) _ _ 24 rfl 0 73 i0 (.agg (incC ⟨0, 0, 0⟩)) 3 16 Try.underlying24 hi hz0 hz1 hz2 rfl (by decide) _ xs.length _ rfl (hown2.alloc _) ⟨w8.drew.heap.size, 0, none⟩ 1 1 (incC x).toList rfl rfl (row_new _ _ _) (inc_cells1 x) (by unfold maxLen; omega) (by omega) (Nat.zero_le _) ?_
              intro v' w9 hown9 hgrow hat
              have hP9 := hP2.drew.grown (.cells (incC x) 73) hgrow hv3
              have hX9 := hX2.drew.grown (.cells (incC x) 73) hgrow hvx
              refine ⟨hX9, ?_⟩
              try simp only [Act.put, List.setIfInBounds_toArray, List.set_cons_zero, List.set_cons_succ]
              have hrow9 : w9.ownsRow 0 73 3 v' (xs ++ [x]).length (incR (xs ++ [x])).flatten := inc_row_own hown9 rfl rfl
              have hv9 : v'.ownBlock ≠ some r := by
                rcases hat with e1 | e1
                · rw [e1]; exact hv3
                · rw [e1]
                  intro e2
                  have := Option.some.inj e2
                  have := hP2.lt
                  simp at *
                  omega
              have hO9 : Off G w w9 := (Off.of (hb0.trans (hbW.mono hb0.size))).trans ((off_alloc (w := w8) (.cells (incC x) 73)).trans (off_grown hgrow (fun k hk => (h4 k).2 (.inr hk))))
              have hat9 : ∀ k, v'.ownBlock = some k → G k ∨ w.heap.size ≤ k := fun k hk => by
                rcases hat with e1 | e1
                · exact .inl ((h4 k).2 (.inr (e1 ▸ hk)))
                · rw [hk] at e1
                  have e2 := Option.some.inj e1
                  have := hbW.size
                  have := hb0.size
                  simp at e2
                  exact .inr (by omega)
              clear hown9 hgrow hat
              obtain ⟨eo, n9, ec, rfl⟩ : ∃ eo n9 ec, v' = Value.slice eo n9 ec := by obtain ⟨_, ao, c, h, _⟩ := inc_own hrow9; exact ⟨ao, _, c, h⟩
              have c9 := (hP9.cell 0).trans rfl
              have f9 := hP9.free 0
              iterate 2
                first
                  | (refine plan_pass _ rfl (by rfl) ?_)
                  | (refine plan_take _ _ rfl (.inl ⟨by rfl, fun W hS => by clear hS; go_simp; try with_reducible rfl⟩) ?_)
                try simp only [Act.put, List.setIfInBounds_toArray, List.set_cons_zero, List.set_cons_succ]
              refine plan_run _ rfl (fun K hK => ?_)
              go_simp
              have hPz : Has (w9.setCell ⟨r, 0, none⟩ (.slice eo n9 ec)) r 81 #[.slice eo n9 ec] := hP9.set 0 (.slice eo n9 ec)
              have hXz := hX9.set_other (a := ⟨r, 0, none⟩) (show w.heap.size ≠ r by omega) (.slice eo n9 ec)
              have hrowz := hrow9.kept (grown_setCell w9 ⟨r, 0, none⟩ (.slice eo n9 ec)) (.inr hv9)
              have hOz : Off G w (w9.setCell ⟨r, 0, none⟩ (.slice eo n9 ec)) := hO9.trans (off_grown (grown_setCell w9 ⟨r, 0, none⟩ (.slice eo n9 ec)) (fun k hk => (h4 k).2 (.inl (Option.some.inj hk).symm)))
              refine hK.out _ _ hXz ?_
              clear hK K
              refine plan_done ?_
              generalize w9.setCell ⟨r, 0, none⟩ (.slice eo n9 ec) = wz at *
              go_wp2
              go_ret
              exact ⟨by rw [hA.out]; rfl, ⟨fun k => k = r ∨ (Value.slice eo n9 ec).ownBlock = some k, by rw [hA.out]; exact ⟨hgood2, .slice eo n9 ec, hPz, hrowz, hv9, fun _ => Iff.rfl⟩, fun k hk => by rcases hk with rfl | hk; exact .inl ((h4 k).2 (.inl rfl)); exact hat9 k hk⟩, hOz⟩
            · refine plan_run _ rfl (fun K hK => ?_)
              go_simp
              refine hK.out _ (w8.drew.alloc (.cells (incC x) 73)) (hX2.drew.alloc _) ?_
              clear hK K
              have c2' : (w8.alloc (.cells (incC x) 73)).cell? ⟨r, 0, none⟩ = some (.slice lo xs.length lc) := ((hP2.alloc _).cell 0).trans rfl
              refine plan_run _ rfl (fun K hK => ?_)
              go_simp
              refine hK.out _ _ (hX2.drew.alloc _) ?_
              clear hK K
              refine plan_append _ rfl (by rfl) _ _ 24 rfl 0 73 i0 (.agg (incC ⟨0, 0, 0⟩)) 3 16 Try.underlying24 hi hz0 hz1 hz2 rfl (by decide) _ xs.length _ rfl (hown2.alloc _) ⟨w8.drew.heap.size, 0, none⟩ 1 1 (incC x).toList rfl rfl (row_new _ _ _) (inc_cells1 x) (by unfold maxLen; omega) (by omega) (Nat.zero_le _) ?_
              intro v' w9 hown9 hgrow hat
              have hP9 := hP2.drew.grown (.cells (incC x) 73) hgrow hv3
              have hX9 := hX2.drew.grown (.cells (incC x) 73) hgrow hvx
              refine ⟨hX9, ?_⟩
              try simp only [Act.put, List.setIfInBounds_toArray, List.set_cons_zero, List.set_cons_succ]
              have hrow9 : w9.ownsRow 0 73 3 v' (xs ++ [x]).length (incR (xs ++ [x])).flatten := inc_row_own hown9 rfl rfl
              have hv9 : v'.ownBlock ≠ some r := by
                rcases hat with e1 | e1
                · rw [e1]; exact hv3
                · rw [e1]
                  intro e2
                  have := Option.some.inj e2
                  have := hP2.lt
                  simp at *
                  omega
              have hO9 : Off G w w9 := (Off.of (hb0.trans (hbW.mono hb0.size))).trans ((off_alloc (w := w8) (.cells (incC x) 73)).trans (off_grown hgrow (fun k hk => (h4 k).2 (.inr hk))))
              have hat9 : ∀ k, v'.ownBlock = some k → G k ∨ w.heap.size ≤ k := fun k hk => by
                rcases hat with e1 | e1
                · exact .inl ((h4 k).2 (.inr (e1 ▸ hk)))
                · rw [hk] at e1
                  have e2 := Option.some.inj e1
                  have := hbW.size
                  have := hb0.size
                  simp at e2
                  exact .inr (by omega)
              clear hown9 hgrow hat
              obtain ⟨eo, n9, ec, rfl⟩ : ∃ eo n9 ec, v' = Value.slice eo n9 ec := by obtain ⟨_, ao, c, h, _⟩ := inc_own hrow9; exact ⟨ao, _, c, h⟩
              have c9 := (hP9.cell 0).trans rfl
              have f9 := hP9.free 0
              iterate 2
                first
                  | (refine plan_pass _ rfl (by rfl) ?_)
                  | (refine plan_take _ _ rfl (.inl ⟨by rfl, fun W hS => by clear hS; go_simp; try with_reducible rfl⟩) ?_)
                try simp only [Act.put, List.setIfInBounds_toArray, List.set_cons_zero, List.set_cons_succ]
              refine plan_run _ rfl (fun K hK => ?_)
              go_simp
              have hPz : Has (w9.setCell ⟨r, 0, none⟩ (.slice eo n9 ec)) r 81 #[.slice eo n9 ec] := hP9.set 0 (.slice eo n9 ec)
              have hXz := hX9.set_other (a := ⟨r, 0, none⟩) (show w.heap.size ≠ r by omega) (.slice eo n9 ec)
              have hrowz := hrow9.kept (grown_setCell w9 ⟨r, 0, none⟩ (.slice eo n9 ec)) (.inr hv9)
              have hOz : Off G w (w9.setCell ⟨r, 0, none⟩ (.slice eo n9 ec)) := hO9.trans (off_grown (grown_setCell w9 ⟨r, 0, none⟩ (.slice eo n9 ec)) (fun k hk => (h4 k).2 (.inl (Option.some.inj hk).symm)))
              refine hK.out _ _ hXz ?_
              clear hK K
              refine plan_done ?_
              generalize w9.setCell ⟨r, 0, none⟩ (.slice eo n9 ec) = wz at *
              go_wp2
              go_ret
              exact ⟨by rw [hA.out]; rfl, ⟨fun k => k = r ∨ (Value.slice eo n9 ec).ownBlock = some k, by rw [hA.out]; exact ⟨hgood2, .slice eo n9 ec, hPz, hrowz, hv9, fun _ => Iff.rfl⟩, fun k hk => by rcases hk with rfl | hk; exact .inl ((h4 k).2 (.inl rfl)); exact hat9 k hk⟩, hOz⟩
      · refine plan_alloc_has _ rfl (by rfl) 106 rfl (mapC zeroM) map_zero (hbA.alloc hbA.size _) ?_
        try simp only [Act.put, List.setIfInBounds_toArray, List.set_cons_zero, List.set_cons_succ]
        have hM := Has.new w1'.drew 106 (mapC zeroM)
        have hbB : Below w1'.heap.size w1' (w1'.drew.alloc (.cells (mapC zeroM) 106)) := hbA.alloc hbA.size _
        have hgm : w1'.heap.size ≤ w1'.drew.heap.size := hbA.size
        generalize w1'.drew.alloc (.cells (mapC zeroM) 106) = w2 at *
        generalize w1'.drew.heap.size = gm at *
        refine plan_run _ rfl (fun K hK => ?_)
        go_simp
        refine (hlast _ (hP1.later hbB)).mono ?_
        rintro en wq ⟨rfl, rfl⟩
        refine hK.out _ _ hbB ?_
        clear hK K
        refine plan_run _ rfl (fun K hK => ?_)
        go_simp
        refine (hmap _ (hP1.later hbB) (hS1.later hbB)).mono ?_
        rintro en w4 ⟨rfl, hq⟩
        have hbC : Below w1'.heap.size w1' w4 := hbB.trans (hq.mono hbB.size)
        try replace hM := hM.later hq
        refine hK.out _ _ hbC ?_
        clear hK K hq
        refine plan_run _ rfl (fun K hK => ?_)
        go_simp
        refine (refapply_any (mapH xs xs.length) x _ hokm hx).mono ?_
        rintro en w5 ⟨rfl, hq⟩
        have hbD : Below w1'.heap.size w1' w5 := hbC.trans (hq.mono hbC.size)
        try replace hM := hM.later hq
        refine hK.out _ _ hbD ?_
        clear hK K hq
        iterate 3
          first
            | (refine plan_pass _ rfl (by rfl) ?_)
            | (refine plan_take _ _ rfl (.inl ⟨by rfl, fun W hS => by clear hS; go_simp; try with_reducible rfl⟩) ?_)
          try simp only [Act.put, List.setIfInBounds_toArray, List.set_cons_zero, List.set_cons_succ]
        have hbW := below_setRow hbD hgm (mapC (applyM (mapH xs xs.length) x))
        refine plan_store_has _ rfl (by rfl) 106 _ _ rfl gm rfl (mapC (applyM (mapH xs xs.length) x)) rfl 106 (mapC zeroM) (map_size _) (by rw [mapC_size, mapC_size]) (mapC_one _) hM hbW ?_
        try simp only [Act.put, List.setIfInBounds_toArray, List.set_cons_zero, List.set_cons_succ]
        generalize w5.setRow gm (mapC (applyM (mapH xs xs.length) x)) = w8 at *
        iterate 1
          first
            | (refine plan_pass _ rfl (by rfl) ?_)
            | (refine plan_take _ _ rfl (.inl ⟨by rfl, fun W hS => by clear hS; go_simp; try with_reducible rfl⟩) ?_)
          try simp only [Act.put, List.setIfInBounds_toArray, List.set_cons_zero, List.set_cons_succ]
        refine plan_done ?_
        clear hM hgm
        cases hok : okA (mapH xs xs.length) x with
        | false =>
          have hno := addH_no (x := x) he.out hok
          have hA : Hid (addH xs e x = (40, xs)) := hno
          clear hno
          have hI2 := isR_later hI1 hbW
          go_wp2
          go_ret
          exact ⟨by rw [hA.out]; rfl, ⟨G, by rw [hA.out]; exact hI2, fun k hk => .inl hk⟩, Off.of (hb0.trans (hbW.mono hb0.size))⟩
        | true =>
          have hyes := addH_yes (x := x) he.out hok
          have hA : Hid (addH xs e x = (0, xs ++ [x])) := hyes
          clear hyes
          have hgood2 := Good.snoc hgood hok hx
          have hX2 := hX.later hbW
          have hP2 := hP1.later hbW
          have hown2 : w8.drew.ownsRow 0 73 3 (.slice lo xs.length lc) xs.length (incR xs).flatten := hown1.kept (grown_of hbW.drew) (by simp; exact Classical.em _)
          have hvx : (Value.slice lo xs.length lc).ownBlock ≠ some w.heap.size := fun e2 => by have := (hownw.lt _ e2).2; omega
          have c2 : w8.drew.cell? ⟨r, 0, none⟩ = some (.slice lo xs.length lc) := (hP2.drew.cell 0).trans rfl
          have hsz3 : (incC x).size = 3 := rfl
          go_wp2
          refine wp_region_plan (fun V => Has V w.heap.size 73 (incC x)) (Plan.of [(0, true), (1, true), (2, true), (3, true), (5, true)] (.either 4 (Plan.of [(6, false), (7, false), (8, true), (9, true), (10, false)] .done) 6 (Plan.of [(4, false), (7, false), (8, true), (9, true), (10, false)] .done))) (by kernel_rfl) (by kernel_rfl) (by kernel_rfl) (by kernel_rfl) hX2.drew ?_
          iterate 4
            first
              | (refine plan_pass _ rfl (by rfl) ?_)
              | (refine plan_take _ _ rfl (.inl ⟨by rfl, fun W hS => by clear hS; go_simp; try with_reducible rfl⟩) ?_)
            try simp only [Act.put, List.setIfInBounds_toArray, List.set_cons_zero, List.set_cons_succ]
          refine plan_take _ _ rfl (yields_inc x (by rfl) _ rfl (w.heap.size) rfl (fun _ h => h)) ?_
          try simp only [Act.put, List.setIfInBounds_toArray, List.set_cons_zero, List.set_cons_succ]
          refine plan_either ?_ ?_
          · refine plan_run _ rfl (fun K hK => ?_)
            go_simp
            refine hK.out _ _ (hX2.drew) ?_
            clear hK K
            refine plan_run _ rfl (fun K hK => ?_)
            go_simp
            refine hK.out _ (w8.drew.alloc (.cells (incC x) 73)) (hX2.drew.alloc _) ?_
            clear hK K
            refine plan_append _ rfl (by rfl) _ _ 24 rfl 0 73 i0 (.agg (incC ⟨0, 0, 0⟩)) 3 16 Try.underlying24 hi hz0 hz1 hz2 rfl (by decide) _ xs.length _ rfl (hown2.alloc _) ⟨w8.drew.heap.size, 0, none⟩ 1 1 (incC x).toList rfl rfl (row_new _ _ _) (inc_cells1 x) (by unfold maxLen; omega) (by omega) (Nat.zero_le _) ?_
            intro v' w9 hown9 hgrow hat
            have hP9 := hP2.drew.grown (.cells (incC x) 73) hgrow hv3
            have hX9 := hX2.drew.grown (.cells (incC x) 73) hgrow hvx
            refine ⟨hX9, ?_⟩
            try simp only [Act.put, List.setIfInBounds_toArray, List.set_cons_zero, List.set_cons_succ]
            have hrow9 : w9.ownsRow 0 73 3 v' (xs ++ [x]).length (incR (xs ++ [x])).flatten := inc_row_own hown9 rfl rfl
            have hv9 : v'.ownBlock ≠ some r := by
              rcases hat with e1 | e1
              · rw [e1]; exact hv3
              · rw [e1]
                intro e2
                have := Option.some.inj e2
                have := hP2.lt
                simp at *
                omega
            have hO9 : Off G w w9 := (Off.of (hb0.trans (hbW.mono hb0.size))).trans ((off_alloc (w := w8) (.cells (incC x) 73)).trans (off_grown hgrow (fun k hk => (h4 k).2 (.inr hk))))
            have hat9 : ∀ k, v'.ownBlock = some k → G k ∨ w.heap.size ≤ k := fun k hk => by
              rcases hat with e1 | e1
              · exact .inl ((h4 k).2 (.inr (e1 ▸ hk)))
              · rw [hk] at e1
                have e2 := Option.some.inj e1
                have := hbW.size
                have := hb0.size
                simp at e2
                exact .inr (by omega)
            clear hown9 hgrow hat
            obtain ⟨eo, n9, ec, rfl⟩ : ∃ eo n9 ec, v' = Value.slice eo n9 ec := by obtain ⟨_, ao, c, h, _⟩ := inc_own hrow9; exact ⟨ao, _, c, h⟩
            have c9 := (hP9.cell 0).trans rfl
            have f9 := hP9.free 0
            iterate 2
              first
                | (refine plan_pass _ rfl (by rfl) ?_)
                | (refine plan_take _ _ rfl (.inl ⟨by rfl, fun W hS => by clear hS; go_simp; try with_reducible rfl⟩) ?_)
              try simp only [Act.put, List.setIfInBounds_toArray, List.set_cons_zero, List.set_cons_succ]
            refine plan_run _ rfl (fun K hK => ?_)
            go_simp
            have hPz : Has (w9.setCell ⟨r, 0, none⟩ (.slice eo n9 ec)) r 81 #[.slice eo n9 ec] := hP9.set 0 (.slice eo n9 ec)
            have hXz := hX9.set_other (a := ⟨r, 0, none⟩) (show w.heap.size ≠ r by omega) (.slice eo n9 ec)
            have hrowz := hrow9.kept (grown_setCell w9 ⟨r, 0, none⟩ (.slice eo n9 ec)) (.inr hv9)
            have hOz : Off G w (w9.setCell ⟨r, 0, none⟩ (.slice eo n9 ec)) := hO9.trans (off_grown (grown_setCell w9 ⟨r, 0, none⟩ (.slice eo n9 ec)) (fun k hk => (h4 k).2 (.inl (Option.some.inj hk).symm)))
            refine hK.out _ _ hXz ?_
            clear hK K
            refine plan_done ?_
            generalize w9.setCell ⟨r, 0, none⟩ (.slice eo n9 ec) = wz at *
            go_wp2
            go_ret
            exact ⟨by rw [hA.out]; rfl, ⟨fun k => k = r ∨ (Value.slice eo n9 ec).ownBlock = some k, by rw [hA.out]; exact ⟨hgood2, .slice eo n9 ec, hPz, hrowz, hv9, fun _ => Iff.rfl⟩, fun k hk => by rcases hk with rfl | hk; exact .inl ((h4 k).2 (.inl rfl)); exact hat9 k hk⟩, hOz⟩
          · refine plan_run _ rfl (fun K hK => ?_)
            go_simp
            refine hK.out _ (w8.drew.alloc (.cells (incC x) 73)) (hX2.drew.alloc _) ?_
            clear hK K
            have c2' : (w8.alloc (.cells (incC x) 73)).cell? ⟨r, 0, none⟩ = some (.slice lo xs.length lc) := ((hP2.alloc _).cell 0).trans rfl
            refine plan_run _ rfl (fun K hK => ?_)
            go_simp
            refine hK.out _ _ (hX2.drew.alloc _) ?_
            clear hK K
            refine plan_append _ rfl (by rfl) _ _ 24 rfl 0 73 i0 (.agg (incC ⟨0, 0, 0⟩)) 3 16 Try.underlying24 hi hz0 hz1 hz2 rfl (by decide) _ xs.length _ rfl (hown2.alloc _) ⟨w8.drew.heap.size, 0, none⟩ 1 1 (incC x).toList rfl rfl (row_new _ _ _) (inc_cells1 x) (by unfold maxLen; omega) (by omega) (Nat.zero_le _) ?_
            intro v' w9 hown9 hgrow hat
            have hP9 := hP2.drew.grown (.cells (incC x) 73) hgrow hv3
            have hX9 := hX2.drew.grown (.cells (incC x) 73) hgrow hvx
            refine ⟨hX9, ?_⟩
            try simp only [Act.put, List.setIfInBounds_toArray, List.set_cons_zero, List.set_cons_succ]
            have hrow9 : w9.ownsRow 0 73 3 v' (xs ++ [x]).length (incR (xs ++ [x])).flatten := inc_row_own hown9 rfl rfl
            have hv9 : v'.ownBlock ≠ some r := by
              rcases hat with e1 | e1
              · rw [e1]; exact hv3
              · rw [e1]
                intro e2
                have := Option.some.inj e2
                have := hP2.lt
                simp at *
                omega
            have hO9 : Off G w w9 := (Off.of (hb0.trans (hbW.mono hb0.size))).trans ((off_alloc (w := w8) (.cells (incC x) 73)).trans (off_grown hgrow (fun k hk => (h4 k).2 (.inr hk))))
            have hat9 : ∀ k, v'.ownBlock = some k → G k ∨ w.heap.size ≤ k := fun k hk => by
              rcases hat with e1 | e1
              · exact .inl ((h4 k).2 (.inr (e1 ▸ hk)))
              · rw [hk] at e1
                have e2 := Option.some.inj e1
                have := hbW.size
                have := hb0.size
                simp at e2
                exact .inr (by omega)
            clear hown9 hgrow hat
            obtain ⟨eo, n9, ec, rfl⟩ : ∃ eo n9 ec, v' = Value.slice eo n9 ec := by obtain ⟨_, ao, c, h, _⟩ := inc_own hrow9; exact ⟨ao, _, c, h⟩
            have c9 := (hP9.cell 0).trans rfl
            have f9 := hP9.free 0
            iterate 2
              first
                | (refine plan_pass _ rfl (by rfl) ?_)
                | (refine plan_take _ _ rfl (.inl ⟨by rfl, fun W hS => by clear hS; go_simp; try with_reducible rfl⟩) ?_)
              try simp only [Act.put, List.setIfInBounds_toArray, List.set_cons_zero, List.set_cons_succ]
            refine plan_run _ rfl (fun K hK => ?_)
            go_simp
            have hPz : Has (w9.setCell ⟨r, 0, none⟩ (.slice eo n9 ec)) r 81 #[.slice eo n9 ec] := hP9.set 0 (.slice eo n9 ec)
            have hXz := hX9.set_other (a := ⟨r, 0, none⟩) (show w.heap.size ≠ r by omega) (.slice eo n9 ec)
            have hrowz := hrow9.kept (grown_setCell w9 ⟨r, 0, none⟩ (.slice eo n9 ec)) (.inr hv9)
            have hOz : Off G w (w9.setCell ⟨r, 0, none⟩ (.slice eo n9 ec)) := hO9.trans (off_grown (grown_setCell w9 ⟨r, 0, none⟩ (.slice eo n9 ec)) (fun k hk => (h4 k).2 (.inl (Option.some.inj hk).symm)))
            refine hK.out _ _ hXz ?_
            clear hK K
            refine plan_done ?_
            generalize w9.setCell ⟨r, 0, none⟩ (.slice eo n9 ec) = wz at *
            go_wp2
            go_ret
            exact ⟨by rw [hA.out]; rfl, ⟨fun k => k = r ∨ (Value.slice eo n9 ec).ownBlock = some k, by rw [hA.out]; exact ⟨hgood2, .slice eo n9 ec, hPz, hrowz, hv9, fun _ => Iff.rfl⟩, fun k hk => by rcases hk with rfl | hk; exact .inl ((h4 k).2 (.inl rfl)); exact hat9 k hk⟩, hOz⟩
end Go.Proofs.Ytlbokkbngbpmiaa
