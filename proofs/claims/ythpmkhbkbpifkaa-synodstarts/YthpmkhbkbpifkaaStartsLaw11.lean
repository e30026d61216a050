/- paddocklaw11.SynodStarts returns true, for whatever byte and row of ballots. -/
import Derived.Test.YthpmkhbkbpifkaaSynUse
import Derived.Test.YthpmkhbkbpifkaaBalOpen
namespace Go.Proofs.Ythpmkhbkbpifkaa
set_option linter.unusedSimpArgs false
set_option linter.unusedVariables false
set_option maxRecDepth 100000
open Go.RowKit

def balL (b : BalV) : List Value := (balC b).toList
def balR (l : List BalV) : List (List Value) := l.map balL
section
open Go.ChangeShapes Go.WideShapes Go.ChangeAt
theorem open_bals {H : Type} {enc : TypeId × Value → H} {W : World} {base : Nat} {v : Value} {d : DataW H} {p : List MemPlace} (ok : Value.okWide Try.prog W .any base 58 v) (h : DataW.Trod enc Try.prog W 0 (fun _ => true) true 58 v d p) :
    ∃ (ao : Option Addr) (c : Nat) (xs : List BalV), v = .slice ao xs.length c ∧ Sl W ao c 2 (balR xs) ∧ ∀ x ∈ xs, BalOk x :=
  open_rows balL BalOk 2 Try.underlying58 cells_bal (fun _ _ _ h => reads_bal h) (fun _ => rfl) ok h
end
theorem bal_at {w : World} {ad : Addr} {c : Nat} {l : List BalV} (h : Sl w (some ad) c 2 (balR l)) (i : Nat) (hi : i < l.length) : ∀ j v, (balL l[i])[j]? = some v → w.cell? ((ad.add (i * 2)).add j) = some v := by
  intro j v hj
  have hlt : j < 2 := (List.getElem?_eq_some_iff.1 hj).1
  have := h.at' ad rfl i (by rw [balR, List.length_map]; exact hi) j hlt
  rw [Go.Deep.add_add, this, ← hj]
  simp [balR]
theorem bal_atn {w : World} {ad : Addr} {c : Nat} {l : List BalV} (h : Sl w (some ad) c 2 (balR l)) (i : Nat) (hi : i < l.length) : w.cell? ((ad.add (i * 2))) = some (.int .u32 l[i].n) := by
  have := bal_at h i hi 0 _ rfl
  rwa [Go.Deep.add_add, Nat.add_zero] at this
theorem bals_le {w : World} {ao : Option Addr} {c : Nat} {l : List BalV} (h : Sl w ao c 2 (balR l)) : l.length ≤ c := by
  have := h.le
  rwa [balR, List.length_map] at this

theorem yields_bal_neS {ops : Array Oper} {o : Oper} {a : Act} {S : World → Prop} (b : BalV) (hb : BalOk b) (hw : Region.wanted o (yielded ops a.tmps) = true) (x y : Operand) (ty' : TypeId) (ho : o.op = .binOp .neq 31 x y ty') (hx : a.eval x = .agg (balC b)) (hy : a.eval y = .agg (balC b)) : YieldsIf Try.prog ops S o (.bool false) a := by
  have := yields_bal_ne (S := S) b b hb hb hw x y ty' ho hx hy
  rw [(sameBal_is b b).2 rfl] at this
  exact this

set_option maxHeartbeats 8000000 in
theorem starts_walk (k : Nat) (ao : Option Addr) (c : Nat) (l : List BalV) (w : World) (hk : k < 256) (hSl : Sl w ao c 2 (balR l)) (hl : ∀ b ∈ l, BalOk b) :
    Calls Try.prog 5 #[.int .u8 (k : Int), .slice ao l.length c] w fun e w' => e = .returned (.bool true) ∧ Below w.heap.size w w' := by
  have hle := bals_le hSl
  have hcap := hSl.cap
  go_enter Try.func5, Try.ntmps5
  go_wp2_with fail
  refine (known_any _).mono ?_
  rintro e w1 ⟨rfl, hb⟩
  by_cases hlen : l.length ≤ 40
  · have hlenI : (l.length : Int) ≤ 40 := by omega
    go_wp2_with (first
      | (refine wpList_build_one (by rfl) 23 0 _ rfl _ rfl (incC ⟨4, 0, 0⟩) (inc_k1 4) ?_))
    refine (pnew_any k ⟨4, 0, 0⟩ _ hk i400_ok).mono ?_
    rintro e w2 ⟨p, rfl, hp, hP, hq⟩
    replace hp : w.heap.size ≤ p := Nat.le_trans hb.size hp
    replace hb := hb.trans (hq.mono hb.size)
    clear hq
    obtain ⟨w3, hw3, hL, hq⟩ := new_var w2 31 (balC bal0) (balC bal0)
    have hpl : w2.heap.size ≠ p := by have := hP.lt; omega
    have hgl : w.heap.size ≤ w2.heap.size := hb.size
    replace hP := hP.later hq
    replace hb := hb.trans (hq.mono hb.size)
    clear hq
    go_wp2_with (first
      | (refine build_bal0 (by rfl) rfl ?_)
      | (refine alloc_bal (by rfl) rfl ?_)
      | (refine store_bal bal0 bal0 (by rfl) _ _ rfl w2.heap.size rfl rfl ?hg ?_; (case hg => exact Has.new _ _ _); rw [hw3]))
    clear hw3
    generalize w2.heap.size = gl at *
    go_loopw [7] (fun i wr => ∃ (n : Nat) (v : ProV), n ≤ l.length ∧ i = .int .i64 n ∧ Pro wr p v ∧ v.who = k ∧ Has wr gl 31 (balC v.b) ∧ Below w.heap.size w wr) (fun i _ => l.length - (intOf i).toNat)
    case atStart => exact ⟨0, newM k ⟨4, 0, 0⟩, Nat.zero_le _, rfl, hP, rfl, hL, hb⟩
    case round =>
      clear hP hb hL
      obtain ⟨n, v, hn, rfl, hP, hvk, hL, hb⟩ := hrel
      by_cases hlt : n < l.length
      · have hnI : (n : Int) < (l.length : Int) := by omega
        cases ao with
        | none => have h1 := hSl.nil rfl; omega
        | some ad =>
          have hst := bal_at (hSl.later hb) n hlt
          have ho := hl l[n] (List.getElem_mem hlt)
          have hzz : Hid (∀ W, Below w.heap.size w W → W.cell? (ad.add (n * 2)) = some (.int .u32 l[n].n)) := fun W hW => bal_atn (hSl.later hW) n hlt
          generalize l[n] = o at *
          go_wp2_with (first
            | (refine wpList_load_any (by rfl) 31 _ rfl _ rfl (balL o) _ ?hg Try.underlying31 rfl (bal_size o) ?_; (case hg => exact hst)))
          have hvb := hP.ok.b
          have hv' : startM v o = startM v o := rfl
          obtain ⟨m, hm⟩ : ∃ m, nextN (max v.b.n o.n) = m := ⟨_, rfl⟩
          have hmb : (startM v o).b = ⟨m, k⟩ := by show (⟨nextN (max v.b.n o.n), v.who⟩ : BalV) = _; rw [hm, hvk]
          have hk1 := pstart_any p v o wr hP ho
          rw [hmb] at hk1
          refine hk1.mono ?_
          rintro e w4 ⟨rfl, hP4, hq⟩
          replace hL := hq.has hL hpl
          replace hb := hb.trans (hq.below hp hb.size)
          clear hq hP hst hk1 hv'
          have hvw : (startM v o).who = k := hvk
          have hvV : (startM v o).hasV = false := rfl
          have hmo : BalOk ⟨m, k⟩ := by rw [← hmb]; exact hP4.ok.b
          have hob := ho.n
          have hvbn := hvb.n
          replace hmb : Hid _ := hmb
          replace hvV : Hid _ := hvV
          replace hvw : Hid _ := hvw
          generalize startM v o = u at *
          generalize v.b = last at *
          clear hvk
          replace hm : Hid _ := hm
          obtain ⟨w5, hw5, hB, hq⟩ := new_var w4 31 (balC bal0) (balC ⟨m, k⟩)
          have hBp : w4.heap.size ≠ p := by have := hP4.lt; omega
          have hBl : w4.heap.size ≠ gl := by have := hL.lt; omega
          have hBw : w.heap.size ≤ w4.heap.size := hb.size
          replace hP4 := hP4.later hq
          replace hL := hL.later hq
          replace hb := hb.trans (hq.mono hb.size)
          clear hq
          have zo := hzz.out _ hb
          have zl := (bal_cells hL).1
          by_cases h1 : o.n = 4294967295
          · have hmM : Hid (m = 4294967295) := by show _ = _; rw [← hm.out]; unfold nextN; split <;> omega
            have h1I : (o.n : Int) = 4294967295 := by omega
            go_wp2_with (first
              | (refine alloc_bal (by rfl) rfl ?_)
              | (refine store_bal ⟨m, k⟩ bal0 (by rfl) _ _ rfl w4.heap.size rfl rfl ?hg ?_; (case hg => exact Has.new _ _ _); rw [hw5]))
            clear hw5
            generalize w4.heap.size = gb at *
            refine (pvalue_any p u _ hP4).mono ?_
            rintro e w6 ⟨y, rfl, _, _, hq⟩
            rw [hvV.out]
            replace hP4 := hP4.later hq
            replace hL := hL.later hq
            replace hB := hB.later hq
            replace hb := hb.trans (hq.mono hb.size)
            clear hq zo zl
            obtain ⟨w7, hw7, hY, hq⟩ := new_var w6 23 (incC inc0) (incC y)
            replace hP4 := hP4.later hq
            replace hL := hL.later hq
            replace hB := hB.later hq
            replace hb := hb.trans (hq.mono hb.size)
            clear hq hY
            go_wp2_with (first
              | (refine alloc_inc0 (by rfl) rfl ?_)
              | (refine store_inc y inc0 (by rfl) _ _ rfl w6.heap.size rfl rfl ?hg ?_; (case hg => exact Has.new _ _ _); rw [hw7]))
            clear hw7
            have hE := ((Env.start hb.drew).add hL.drew).add hB.drew
            refine wp_region_plan (fun W => Env w W _) (Plan.of [(0, true), (1, true), (2, false), (3, true), (4, true), (5, true), (6, true), (7, true), (8, true), (9, true), (10, true), (11, true), (12, true), (13, true), (14, true), (15, true), (16, true), (17, true), (18, true), (19, true), (20, true), (21, true), (22, true), (23, true), (24, true), (25, true), (26, true), (27, true), (28, true), (29, true), (30, true), (31, true), (32, true), (33, true), (34, true), (35, true), (36, true), (37, true), (38, true), (39, true), (40, true), (41, true), (42, false), (43, true), (44, true), (45, true), (46, true), (47, true), (48, true), (49, true), (50, true), (51, true), (52, true), (53, true), (54, true), (55, true)] .done) (by kernel_rfl) (by kernel_rfl) (by kernel_rfl) (by kernel_rfl) hE ?_
            refine plan_take _ _ rfl (yields_bal ⟨m, k⟩ (by rfl) _ rfl gb rfl (fun _ h => h.get 1 rfl)) ?_
            try simp only [Act.put, List.setIfInBounds_toArray, List.set_cons_zero, List.set_cons_succ]
            iterate 1
              first
                | (refine plan_pass _ rfl (by rfl) ?_)
                | (refine plan_take _ _ rfl (.inl ⟨by rfl, fun W hS => by clear hS; go_simp; try with_reducible rfl⟩) ?_)
              try simp only [Act.put, List.setIfInBounds_toArray, List.set_cons_zero, List.set_cons_succ]
            refine plan_run _ rfl (fun K hK => ?_)
            go_simp
            have hk := pballot_any p u _ hP4.drew
            rw [hmb.out] at hk
            refine hk.mono ?_
            rintro e w8 ⟨rfl, hq⟩
            replace hP4 := hP4.drew.later hq
            replace hE := hE.later hq
            replace hb := hE.below
            refine hK.out _ _ hE ?_
            clear hK K hq hk
            try simp only [Act.put, List.setIfInBounds_toArray, List.set_cons_zero, List.set_cons_succ]
            refine plan_take _ _ rfl (yields_bal_neS ⟨m, k⟩ hmo (by rfl) _ _ _ rfl rfl rfl) ?_
            try simp only [Act.put, List.setIfInBounds_toArray, List.set_cons_zero, List.set_cons_succ]
            iterate 2
              first
                | (refine plan_pass _ rfl (by rfl) ?_)
                | (refine plan_take _ _ rfl (.inl ⟨by rfl, fun W hS => by clear hS; go_simp; try with_reducible rfl⟩) ?_)
              try simp only [Act.put, List.setIfInBounds_toArray, List.set_cons_zero, List.set_cons_succ]
            iterate 1
              first
                | (refine plan_pass _ rfl (by rfl) ?_)
                | (refine plan_take _ _ rfl (.inl ⟨by rfl, fun W hS => by have z := (bal_cells (hS.get 1 rfl)).2; go_simp; try with_reducible rfl⟩) ?_)
              try simp only [Act.put, List.setIfInBounds_toArray, List.set_cons_zero, List.set_cons_succ]
            iterate 1
              first
                | (refine plan_pass _ rfl (by rfl) ?_)
                | (refine plan_take _ _ rfl (.inl ⟨by rfl, fun W hS => by clear hS; go_simp; try with_reducible rfl⟩) ?_)
              try simp only [Act.put, List.setIfInBounds_toArray, List.set_cons_zero, List.set_cons_succ]
            iterate 1
              first
                | (refine plan_pass _ rfl (by rfl) ?_)
                | (refine plan_take _ _ rfl (.inl ⟨by rfl, fun W hS => by clear hS; go_simp; try with_reducible rfl⟩) ?_)
              try simp only [Act.put, List.setIfInBounds_toArray, List.set_cons_zero, List.set_cons_succ]
            iterate 2
              first
                | (refine plan_pass _ rfl (by rfl) ?_)
                | (refine plan_take _ _ rfl (.inl ⟨by rfl, fun W hS => by clear hS; go_simp; try with_reducible rfl⟩) ?_)
              try simp only [Act.put, List.setIfInBounds_toArray, List.set_cons_zero, List.set_cons_succ]
            iterate 3
              first
                | (refine plan_pass _ rfl (by rfl) ?_)
                | (refine plan_take _ _ rfl (.inl ⟨by rfl, fun W hS => by clear hS; go_simp; try with_reducible rfl⟩) ?_)
              try simp only [Act.put, List.setIfInBounds_toArray, List.set_cons_zero, List.set_cons_succ]
            iterate 3
              first
                | (refine plan_pass _ rfl (by rfl) ?_)
                | (refine plan_take _ _ rfl (.inl ⟨by rfl, fun W hS => by clear hS; go_simp; try with_reducible rfl⟩) ?_)
              try simp only [Act.put, List.setIfInBounds_toArray, List.set_cons_zero, List.set_cons_succ]
            iterate 25
              first
                | (refine plan_pass _ rfl (by rfl) ?_)
                | (refine plan_take _ _ rfl (.inl ⟨by rfl, fun W hS => by clear hS; go_simp; try with_reducible rfl⟩) ?_)
              try simp only [Act.put, List.setIfInBounds_toArray, List.set_cons_zero, List.set_cons_succ]
            refine plan_run _ rfl (fun K hK => ?_)
            rw [if_neg (fun hh => Bool.noConfusion (show true = false from hh.symm.trans (by rfl)))]
            refine hK.out _ _ hE ?_
            clear hK K
            try simp only [Act.put, List.setIfInBounds_toArray, List.set_cons_zero, List.set_cons_succ]
            iterate 9
              first
                | (refine plan_pass _ rfl (by rfl) ?_)
                | (refine plan_take _ _ rfl (.inl ⟨by rfl, fun W hS => by clear hS; go_simp; try with_reducible rfl⟩) ?_)
              try simp only [Act.put, List.setIfInBounds_toArray, List.set_cons_zero, List.set_cons_succ]
            iterate 1
              first
                | (refine plan_pass _ rfl (by rfl) ?_)
                | (refine plan_take _ _ rfl (.inl ⟨by rfl, fun W hS => by have z := (bal_cells (hS.get 1 rfl)).1; go_simp; try with_reducible rfl⟩) ?_)
              try simp only [Act.put, List.setIfInBounds_toArray, List.set_cons_zero, List.set_cons_succ]
            refine plan_take _ (.bool false) rfl (.inl ⟨by rfl, fun W hS => by clear hS; have h9 := hmM.out; subst h9; go_simp⟩) ?_
            try simp only [Act.put, List.setIfInBounds_toArray, List.set_cons_zero, List.set_cons_succ]
            iterate 2
              first
                | (refine plan_pass _ rfl (by rfl) ?_)
                | (refine plan_take _ _ rfl (.inl ⟨by rfl, fun W hS => by clear hS; go_simp; try with_reducible rfl⟩) ?_)
              try simp only [Act.put, List.setIfInBounds_toArray, List.set_cons_zero, List.set_cons_succ]
            refine plan_done ?_
            replace hL := hE.get 0 rfl
            replace hB := hE.get 1 rfl
            have hL9 := hL.row (balC ⟨m, k⟩)
            have hP9 := hP4.row_other (Ne.symm hpl) (balC ⟨m, k⟩)
            have hb9 := below_setRow hb hgl (balC ⟨m, k⟩)
            go_wp2_with (first
              | (refine load_bal ⟨m, k⟩ (by rfl) _ rfl gb rfl ?hg ?_; (case hg => exact hB))
              | (refine store_bal ⟨m, k⟩ last (by rfl) _ _ rfl gl rfl rfl ?hg ?_; (case hg => exact hL)))
            go_roundw
            case rel => exact ⟨n + 1, u, by omega, by go_num, hP9, hvw.out, by rw [hmb.out]; exact hL9, hb9⟩
            case measure => simp [intOf]; omega
          · by_cases h2 : last.n = 4294967295
            · have hmM : Hid (m = 4294967295) := by show _ = _; rw [← hm.out]; unfold nextN; split <;> omega
              have h1I : ((o.n : Int) == 4294967295) = false := beq_eq_false_iff_ne.2 (by omega)
              have h2I : (last.n : Int) = 4294967295 := by omega
              go_wp2_with (first
                | (refine alloc_bal (by rfl) rfl ?_)
                | (refine store_bal ⟨m, k⟩ bal0 (by rfl) _ _ rfl w4.heap.size rfl rfl ?hg ?_; (case hg => exact Has.new _ _ _); rw [hw5]))
              clear hw5
              generalize w4.heap.size = gb at *
              refine (pvalue_any p u _ hP4).mono ?_
              rintro e w6 ⟨y, rfl, _, _, hq⟩
              rw [hvV.out]
              replace hP4 := hP4.later hq
              replace hL := hL.later hq
              replace hB := hB.later hq
              replace hb := hb.trans (hq.mono hb.size)
              clear hq zo zl
              obtain ⟨w7, hw7, hY, hq⟩ := new_var w6 23 (incC inc0) (incC y)
              replace hP4 := hP4.later hq
              replace hL := hL.later hq
              replace hB := hB.later hq
              replace hb := hb.trans (hq.mono hb.size)
              clear hq hY
              go_wp2_with (first
                | (refine alloc_inc0 (by rfl) rfl ?_)
                | (refine store_inc y inc0 (by rfl) _ _ rfl w6.heap.size rfl rfl ?hg ?_; (case hg => exact Has.new _ _ _); rw [hw7]))
              clear hw7
              have hE := ((Env.start hb.drew).add hL.drew).add hB.drew
              refine wp_region_plan (fun W => Env w W _) (Plan.of [(0, true), (1, true), (2, false), (3, true), (4, true), (5, true), (6, true), (7, true), (8, true), (9, true), (10, true), (11, true), (12, true), (13, true), (14, true), (15, true), (16, true), (17, true), (18, true), (19, true), (20, true), (21, true), (22, true), (23, true), (24, true), (25, true), (26, true), (27, true), (28, true), (29, true), (30, true), (31, true), (32, true), (33, true), (34, true), (35, true), (36, true), (37, true), (38, true), (39, true), (40, true), (41, true), (42, false), (43, true), (44, true), (45, true), (46, true), (47, true), (48, true), (49, true), (50, true), (51, true), (52, true), (53, true), (54, true), (55, true)] .done) (by kernel_rfl) (by kernel_rfl) (by kernel_rfl) (by kernel_rfl) hE ?_
              refine plan_take _ _ rfl (yields_bal ⟨m, k⟩ (by rfl) _ rfl gb rfl (fun _ h => h.get 1 rfl)) ?_
              try simp only [Act.put, List.setIfInBounds_toArray, List.set_cons_zero, List.set_cons_succ]
              iterate 1
                first
                  | (refine plan_pass _ rfl (by rfl) ?_)
                  | (refine plan_take _ _ rfl (.inl ⟨by rfl, fun W hS => by clear hS; go_simp; try with_reducible rfl⟩) ?_)
                try simp only [Act.put, List.setIfInBounds_toArray, List.set_cons_zero, List.set_cons_succ]
              refine plan_run _ rfl (fun K hK => ?_)
              go_simp
              have hk := pballot_any p u _ hP4.drew
              rw [hmb.out] at hk
              refine hk.mono ?_
              rintro e w8 ⟨rfl, hq⟩
              replace hP4 := hP4.drew.later hq
              replace hE := hE.later hq
              replace hb := hE.below
              refine hK.out _ _ hE ?_
              clear hK K hq hk
              try simp only [Act.put, List.setIfInBounds_toArray, List.set_cons_zero, List.set_cons_succ]
              refine plan_take _ _ rfl (yields_bal_neS ⟨m, k⟩ hmo (by rfl) _ _ _ rfl rfl rfl) ?_
              try simp only [Act.put, List.setIfInBounds_toArray, List.set_cons_zero, List.set_cons_succ]
              iterate 2
                first
                  | (refine plan_pass _ rfl (by rfl) ?_)
                  | (refine plan_take _ _ rfl (.inl ⟨by rfl, fun W hS => by clear hS; go_simp; try with_reducible rfl⟩) ?_)
                try simp only [Act.put, List.setIfInBounds_toArray, List.set_cons_zero, List.set_cons_succ]
              iterate 1
                first
                  | (refine plan_pass _ rfl (by rfl) ?_)
                  | (refine plan_take _ _ rfl (.inl ⟨by rfl, fun W hS => by have z := (bal_cells (hS.get 1 rfl)).2; go_simp; try with_reducible rfl⟩) ?_)
                try simp only [Act.put, List.setIfInBounds_toArray, List.set_cons_zero, List.set_cons_succ]
              iterate 1
                first
                  | (refine plan_pass _ rfl (by rfl) ?_)
                  | (refine plan_take _ _ rfl (.inl ⟨by rfl, fun W hS => by clear hS; go_simp; try with_reducible rfl⟩) ?_)
                try simp only [Act.put, List.setIfInBounds_toArray, List.set_cons_zero, List.set_cons_succ]
              iterate 1
                first
                  | (refine plan_pass _ rfl (by rfl) ?_)
                  | (refine plan_take _ _ rfl (.inl ⟨by rfl, fun W hS => by clear hS; go_simp; try with_reducible rfl⟩) ?_)
                try simp only [Act.put, List.setIfInBounds_toArray, List.set_cons_zero, List.set_cons_succ]
              iterate 2
                first
                  | (refine plan_pass _ rfl (by rfl) ?_)
                  | (refine plan_take _ _ rfl (.inl ⟨by rfl, fun W hS => by clear hS; go_simp; try with_reducible rfl⟩) ?_)
                try simp only [Act.put, List.setIfInBounds_toArray, List.set_cons_zero, List.set_cons_succ]
              iterate 3
                first
                  | (refine plan_pass _ rfl (by rfl) ?_)
                  | (refine plan_take _ _ rfl (.inl ⟨by rfl, fun W hS => by clear hS; go_simp; try with_reducible rfl⟩) ?_)
                try simp only [Act.put, List.setIfInBounds_toArray, List.set_cons_zero, List.set_cons_succ]
              iterate 3
                first
                  | (refine plan_pass _ rfl (by rfl) ?_)
                  | (refine plan_take _ _ rfl (.inl ⟨by rfl, fun W hS => by clear hS; go_simp; try with_reducible rfl⟩) ?_)
                try simp only [Act.put, List.setIfInBounds_toArray, List.set_cons_zero, List.set_cons_succ]
              iterate 25
                first
                  | (refine plan_pass _ rfl (by rfl) ?_)
                  | (refine plan_take _ _ rfl (.inl ⟨by rfl, fun W hS => by clear hS; go_simp; try with_reducible rfl⟩) ?_)
                try simp only [Act.put, List.setIfInBounds_toArray, List.set_cons_zero, List.set_cons_succ]
              refine plan_run _ rfl (fun K hK => ?_)
              rw [if_neg (fun hh => Bool.noConfusion (show true = false from hh.symm.trans (by rfl)))]
              refine hK.out _ _ hE ?_
              clear hK K
              try simp only [Act.put, List.setIfInBounds_toArray, List.set_cons_zero, List.set_cons_succ]
              iterate 9
                first
                  | (refine plan_pass _ rfl (by rfl) ?_)
                  | (refine plan_take _ _ rfl (.inl ⟨by rfl, fun W hS => by clear hS; go_simp; try with_reducible rfl⟩) ?_)
                try simp only [Act.put, List.setIfInBounds_toArray, List.set_cons_zero, List.set_cons_succ]
              iterate 1
                first
                  | (refine plan_pass _ rfl (by rfl) ?_)
                  | (refine plan_take _ _ rfl (.inl ⟨by rfl, fun W hS => by have z := (bal_cells (hS.get 1 rfl)).1; go_simp; try with_reducible rfl⟩) ?_)
                try simp only [Act.put, List.setIfInBounds_toArray, List.set_cons_zero, List.set_cons_succ]
              refine plan_take _ (.bool false) rfl (.inl ⟨by rfl, fun W hS => by clear hS; have h9 := hmM.out; subst h9; go_simp⟩) ?_
              try simp only [Act.put, List.setIfInBounds_toArray, List.set_cons_zero, List.set_cons_succ]
              iterate 2
                first
                  | (refine plan_pass _ rfl (by rfl) ?_)
                  | (refine plan_take _ _ rfl (.inl ⟨by rfl, fun W hS => by clear hS; go_simp; try with_reducible rfl⟩) ?_)
                try simp only [Act.put, List.setIfInBounds_toArray, List.set_cons_zero, List.set_cons_succ]
              refine plan_done ?_
              replace hL := hE.get 0 rfl
              replace hB := hE.get 1 rfl
              have hL9 := hL.row (balC ⟨m, k⟩)
              have hP9 := hP4.row_other (Ne.symm hpl) (balC ⟨m, k⟩)
              have hb9 := below_setRow hb hgl (balC ⟨m, k⟩)
              go_wp2_with (first
                | (refine load_bal ⟨m, k⟩ (by rfl) _ rfl gb rfl ?hg ?_; (case hg => exact hB))
                | (refine store_bal ⟨m, k⟩ last (by rfl) _ _ rfl gl rfl rfl ?hg ?_; (case hg => exact hL)))
              go_roundw
              case rel => exact ⟨n + 1, u, by omega, by go_num, hP9, hvw.out, by rw [hmb.out]; exact hL9, hb9⟩
              case measure => simp [intOf]; omega
            · have hmM : Hid (m = max o.n last.n + 1) := by show _ = _; rw [← hm.out]; unfold nextN; split <;> omega
              have h1I : ((o.n : Int) == 4294967295) = false := beq_eq_false_iff_ne.2 (by omega)
              have h2I : ((last.n : Int) == 4294967295) = false := beq_eq_false_iff_ne.2 (by omega)
              obtain ⟨mx, hmx⟩ : ∃ q, max o.n last.n = q := ⟨_, rfl⟩
              have hb1 : o.n < m := by have := hmM.out; omega
              have hb2 : last.n < m := by have := hmM.out; omega
              have hmx1 : Hid ((if (last.n : Int) > (o.n : Int) then (last.n : Int) else (o.n : Int)) = ((mx : Nat) : Int)) := by show _ = _; split <;> omega
              have hmx2 : Hid (mx + 1 = m) := by show _ = _; rw [hmM.out, hmx]
              have hm32 : m < 4294967296 := hmo.n
              replace hmx : Hid _ := hmx
              go_wp2_with (first
                | (refine alloc_bal (by rfl) rfl ?_)
                | (refine store_bal ⟨m, k⟩ bal0 (by rfl) _ _ rfl w4.heap.size rfl rfl ?hg ?_; (case hg => exact Has.new _ _ _); rw [hw5]))
              clear hw5
              generalize w4.heap.size = gb at *
              refine (pvalue_any p u _ hP4).mono ?_
              rintro e w6 ⟨y, rfl, _, _, hq⟩
              rw [hvV.out]
              replace hP4 := hP4.later hq
              replace hL := hL.later hq
              replace hB := hB.later hq
              replace hb := hb.trans (hq.mono hb.size)
              clear hq zo zl
              obtain ⟨w7, hw7, hY, hq⟩ := new_var w6 23 (incC inc0) (incC y)
              replace hP4 := hP4.later hq
              replace hL := hL.later hq
              replace hB := hB.later hq
              replace hb := hb.trans (hq.mono hb.size)
              clear hq hY
              go_wp2_with (first
                | (refine alloc_inc0 (by rfl) rfl ?_)
                | (refine store_inc y inc0 (by rfl) _ _ rfl w6.heap.size rfl rfl ?hg ?_; (case hg => exact Has.new _ _ _); rw [hw7]))
              clear hw7
              have hE := ((Env.start hb.drew).add hL.drew).add hB.drew
              refine wp_region_plan (fun W => Env w W _) (Plan.of [(0, true), (1, true), (2, false), (3, true), (4, true), (5, true), (6, true), (7, true), (8, true), (9, true), (10, true), (11, true), (12, true), (13, true), (14, true), (15, true), (16, true), (17, true), (18, true), (19, true), (20, true), (21, true), (22, true), (23, true), (24, true), (25, true), (26, true), (27, true), (28, true), (29, true), (30, true), (31, true), (32, true), (33, true), (34, true), (35, true), (36, true), (37, true), (38, true), (39, true), (40, true), (41, true), (42, false), (43, true), (44, true), (45, true), (46, true), (47, true), (48, true), (49, true), (50, true), (51, true), (52, true), (53, true), (54, true), (55, true)] .done) (by kernel_rfl) (by kernel_rfl) (by kernel_rfl) (by kernel_rfl) hE ?_
              refine plan_take _ _ rfl (yields_bal ⟨m, k⟩ (by rfl) _ rfl gb rfl (fun _ h => h.get 1 rfl)) ?_
              try simp only [Act.put, List.setIfInBounds_toArray, List.set_cons_zero, List.set_cons_succ]
              iterate 1
                first
                  | (refine plan_pass _ rfl (by rfl) ?_)
                  | (refine plan_take _ _ rfl (.inl ⟨by rfl, fun W hS => by clear hS; go_simp; try with_reducible rfl⟩) ?_)
                try simp only [Act.put, List.setIfInBounds_toArray, List.set_cons_zero, List.set_cons_succ]
              refine plan_run _ rfl (fun K hK => ?_)
              go_simp
              have hk := pballot_any p u _ hP4.drew
              rw [hmb.out] at hk
              refine hk.mono ?_
              rintro e w8 ⟨rfl, hq⟩
              replace hP4 := hP4.drew.later hq
              replace hE := hE.later hq
              replace hb := hE.below
              refine hK.out _ _ hE ?_
              clear hK K hq hk
              try simp only [Act.put, List.setIfInBounds_toArray, List.set_cons_zero, List.set_cons_succ]
              refine plan_take _ _ rfl (yields_bal_neS ⟨m, k⟩ hmo (by rfl) _ _ _ rfl rfl rfl) ?_
              try simp only [Act.put, List.setIfInBounds_toArray, List.set_cons_zero, List.set_cons_succ]
              iterate 2
                first
                  | (refine plan_pass _ rfl (by rfl) ?_)
                  | (refine plan_take _ _ rfl (.inl ⟨by rfl, fun W hS => by clear hS; go_simp; try with_reducible rfl⟩) ?_)
                try simp only [Act.put, List.setIfInBounds_toArray, List.set_cons_zero, List.set_cons_succ]
              iterate 1
                first
                  | (refine plan_pass _ rfl (by rfl) ?_)
                  | (refine plan_take _ _ rfl (.inl ⟨by rfl, fun W hS => by have z := (bal_cells (hS.get 1 rfl)).2; go_simp; try with_reducible rfl⟩) ?_)
                try simp only [Act.put, List.setIfInBounds_toArray, List.set_cons_zero, List.set_cons_succ]
              iterate 1
                first
                  | (refine plan_pass _ rfl (by rfl) ?_)
                  | (refine plan_take _ _ rfl (.inl ⟨by rfl, fun W hS => by clear hS; go_simp; try with_reducible rfl⟩) ?_)
                try simp only [Act.put, List.setIfInBounds_toArray, List.set_cons_zero, List.set_cons_succ]
              iterate 1
                first
                  | (refine plan_pass _ rfl (by rfl) ?_)
                  | (refine plan_take _ _ rfl (.inl ⟨by rfl, fun W hS => by clear hS; go_simp; try with_reducible rfl⟩) ?_)
                try simp only [Act.put, List.setIfInBounds_toArray, List.set_cons_zero, List.set_cons_succ]
              iterate 2
                first
                  | (refine plan_pass _ rfl (by rfl) ?_)
                  | (refine plan_take _ _ rfl (.inl ⟨by rfl, fun W hS => by clear hS; go_simp; try with_reducible rfl⟩) ?_)
                try simp only [Act.put, List.setIfInBounds_toArray, List.set_cons_zero, List.set_cons_succ]
              iterate 3
                first
                  | (refine plan_pass _ rfl (by rfl) ?_)
                  | (refine plan_take _ _ rfl (.inl ⟨by rfl, fun W hS => by clear hS; go_simp; try with_reducible rfl⟩) ?_)
                try simp only [Act.put, List.setIfInBounds_toArray, List.set_cons_zero, List.set_cons_succ]
              iterate 3
                first
                  | (refine plan_pass _ rfl (by rfl) ?_)
                  | (refine plan_take _ _ rfl (.inl ⟨by rfl, fun W hS => by clear hS; go_simp; try with_reducible rfl⟩) ?_)
                try simp only [Act.put, List.setIfInBounds_toArray, List.set_cons_zero, List.set_cons_succ]
              iterate 1
                first
                  | (refine plan_pass _ rfl (by rfl) ?_)
                  | (refine plan_take _ _ rfl (.inl ⟨by rfl, fun W hS => by clear hS; go_simp; try with_reducible rfl⟩) ?_)
                try simp only [Act.put, List.setIfInBounds_toArray, List.set_cons_zero, List.set_cons_succ]
              iterate 1
                first
                  | (refine plan_pass _ rfl (by rfl) ?_)
                  | (refine plan_take _ _ rfl (.inl ⟨by rfl, fun W hS => by have z := (bal_cells (hS.get 1 rfl)).1; go_simp; try with_reducible rfl⟩) ?_)
                try simp only [Act.put, List.setIfInBounds_toArray, List.set_cons_zero, List.set_cons_succ]
              iterate 4
                first
                  | (refine plan_pass _ rfl (by rfl) ?_)
                  | (refine plan_take _ _ rfl (.inl ⟨by rfl, fun W hS => by clear hS; go_simp; try with_reducible rfl⟩) ?_)
                try simp only [Act.put, List.setIfInBounds_toArray, List.set_cons_zero, List.set_cons_succ]
              iterate 1
                first
                  | (refine plan_pass _ rfl (by rfl) ?_)
                  | (refine plan_take _ _ rfl (.inl ⟨by rfl, fun W hS => by have z := hzz.out _ hS.below; go_simp; try with_reducible rfl⟩) ?_)
                try simp only [Act.put, List.setIfInBounds_toArray, List.set_cons_zero, List.set_cons_succ]
              refine plan_take _ (.bool false) rfl (.inl ⟨by rfl, fun W hS => by clear hS; go_simp; try omega⟩) ?_
              try simp only [Act.put, List.setIfInBounds_toArray, List.set_cons_zero, List.set_cons_succ]
              iterate 2
                first
                  | (refine plan_pass _ rfl (by rfl) ?_)
                  | (refine plan_take _ _ rfl (.inl ⟨by rfl, fun W hS => by clear hS; go_simp; try with_reducible rfl⟩) ?_)
                try simp only [Act.put, List.setIfInBounds_toArray, List.set_cons_zero, List.set_cons_succ]
              iterate 1
                first
                  | (refine plan_pass _ rfl (by rfl) ?_)
                  | (refine plan_take _ _ rfl (.inl ⟨by rfl, fun W hS => by have z := (bal_cells (hS.get 1 rfl)).1; go_simp; try with_reducible rfl⟩) ?_)
                try simp only [Act.put, List.setIfInBounds_toArray, List.set_cons_zero, List.set_cons_succ]
              iterate 1
                first
                  | (refine plan_pass _ rfl (by rfl) ?_)
                  | (refine plan_take _ _ rfl (.inl ⟨by rfl, fun W hS => by clear hS; go_simp; try with_reducible rfl⟩) ?_)
                try simp only [Act.put, List.setIfInBounds_toArray, List.set_cons_zero, List.set_cons_succ]
              iterate 1
                first
                  | (refine plan_pass _ rfl (by rfl) ?_)
                  | (refine plan_take _ _ rfl (.inl ⟨by rfl, fun W hS => by have z := (bal_cells (hS.get 0 rfl)).1; go_simp; try with_reducible rfl⟩) ?_)
                try simp only [Act.put, List.setIfInBounds_toArray, List.set_cons_zero, List.set_cons_succ]
              refine plan_take _ (.bool false) rfl (.inl ⟨by rfl, fun W hS => by clear hS; go_simp; try omega⟩) ?_
              try simp only [Act.put, List.setIfInBounds_toArray, List.set_cons_zero, List.set_cons_succ]
              iterate 3
                first
                  | (refine plan_pass _ rfl (by rfl) ?_)
                  | (refine plan_take _ _ rfl (.inl ⟨by rfl, fun W hS => by clear hS; go_simp; try with_reducible rfl⟩) ?_)
                try simp only [Act.put, List.setIfInBounds_toArray, List.set_cons_zero, List.set_cons_succ]
              iterate 1
                first
                  | (refine plan_pass _ rfl (by rfl) ?_)
                  | (refine plan_take _ _ rfl (.inl ⟨by rfl, fun W hS => by have z := (bal_cells (hS.get 1 rfl)).1; go_simp; try with_reducible rfl⟩) ?_)
                try simp only [Act.put, List.setIfInBounds_toArray, List.set_cons_zero, List.set_cons_succ]
              iterate 4
                first
                  | (refine plan_pass _ rfl (by rfl) ?_)
                  | (refine plan_take _ _ rfl (.inl ⟨by rfl, fun W hS => by clear hS; go_simp; try with_reducible rfl⟩) ?_)
                try simp only [Act.put, List.setIfInBounds_toArray, List.set_cons_zero, List.set_cons_succ]
              iterate 1
                first
                  | (refine plan_pass _ rfl (by rfl) ?_)
                  | (refine plan_take _ _ rfl (.inl ⟨by rfl, fun W hS => by have z := hzz.out _ hS.below; go_simp; try with_reducible rfl⟩) ?_)
                try simp only [Act.put, List.setIfInBounds_toArray, List.set_cons_zero, List.set_cons_succ]
              iterate 1
                first
                  | (refine plan_pass _ rfl (by rfl) ?_)
                  | (refine plan_take _ _ rfl (.inl ⟨by rfl, fun W hS => by clear hS; go_simp; try with_reducible rfl⟩) ?_)
                try simp only [Act.put, List.setIfInBounds_toArray, List.set_cons_zero, List.set_cons_succ]
              iterate 1
                first
                  | (refine plan_pass _ rfl (by rfl) ?_)
                  | (refine plan_take _ _ rfl (.inl ⟨by rfl, fun W hS => by have z := (bal_cells (hS.get 0 rfl)).1; go_simp; try with_reducible rfl⟩) ?_)
                try simp only [Act.put, List.setIfInBounds_toArray, List.set_cons_zero, List.set_cons_succ]
              refine plan_maxL _ rfl (by rfl) _ _ _ rfl _ _ _ _ (mx : Int) rfl rfl hmx1.out hE ?_
              try simp only [Act.put, List.setIfInBounds_toArray, List.set_cons_zero, List.set_cons_succ]
              refine plan_take _ (.int .u32 (m : Int)) rfl (.inl ⟨by rfl, fun W _ => run_add_n32 _ _ _ _ rfl mx 1 m rfl rfl hmx2.out hm32 W⟩) ?_
              try simp only [Act.put, List.setIfInBounds_toArray, List.set_cons_zero, List.set_cons_succ]
              iterate 12
                first
                  | (refine plan_pass _ rfl (by rfl) ?_)
                  | (refine plan_take _ _ rfl (.inl ⟨by rfl, fun W hS => by clear hS; go_simp; try with_reducible rfl⟩) ?_)
                try simp only [Act.put, List.setIfInBounds_toArray, List.set_cons_zero, List.set_cons_succ]
              refine plan_done ?_
              replace hL := hE.get 0 rfl
              replace hB := hE.get 1 rfl
              have hL9 := hL.row (balC ⟨m, k⟩)
              have hP9 := hP4.row_other (Ne.symm hpl) (balC ⟨m, k⟩)
              have hb9 := below_setRow hb hgl (balC ⟨m, k⟩)
              go_wp2_with (first
                | (refine load_bal ⟨m, k⟩ (by rfl) _ rfl gb rfl ?hg ?_; (case hg => exact hB))
                | (refine store_bal ⟨m, k⟩ last (by rfl) _ _ rfl gl rfl rfl ?hg ?_; (case hg => exact hL)))
              go_roundw
              case rel => exact ⟨n + 1, u, by omega, by go_num, hP9, hvw.out, by rw [hmb.out]; exact hL9, hb9⟩
              case measure => simp [intOf]; omega
      · have hnI : ¬ (n : Int) < (l.length : Int) := by omega
        have hnI2 : (l.length : Int) ≤ (n : Int) := by omega
        go_wp2
        go_ret
        exact ⟨rfl, hb⟩
  · have hlenI : ¬ (l.length : Int) ≤ 40 := by omega
    have hlenI2 : (40 : Int) < (l.length : Int) := by omega
    go_wp2
    go_ret
    exact ⟨rfl, hb⟩
end Go.Proofs.Ythpmkhbkbpifkaa
