/- JournalBytes's walk. -/
import Derived.Test.YtlalfagafbpkiaaGrp40
namespace Go.Proofs.Ytlalfagafbpkiaa
set_option linter.unusedSimpArgs false
set_option linter.unusedVariables false
set_option maxRecDepth 100000
open Go.RowKit Go.MapKept

theorem taken_take (l : List (List UInt8)) (k : Nat) : takenM (l.take k) ≤ takenM l := by
  have h := takenM_app (l.take k) (l.drop k)
  rw [List.take_append_drop] at h
  omega
theorem build3 (w : World) : (Instr.buildSlice 23 3 #[(0, .int .u8 7), (1, .int .u8 255), (2, .int .u8 9)]).run Try.prog w = .ok (.slice (some ⟨w.heap.size, 0, none⟩) 3 3) (w.alloc (.cells #[.int .u8 7, .int .u8 255, .int .u8 9] 5)) := by
  have h : (Instr.buildSlice 23 3 #[(0, .int .u8 7), (1, .int .u8 255), (2, .int .u8 9)]).run Try.prog w = ((newRow 5 #[.int .u8 7, .int .u8 255, .int .u8 9]).run Try.prog w).andThen (fun a w => .ok (.slice (some a) 3 3) w) := by kernel_rfl
  rw [h]
  simp [newRow, run_newObj_alloc, Sem.run_bind, Sem.run_pure, Result.andThen]
theorem by_seven (w : World) : By (w.alloc (.cells #[.int .u8 7, .int .u8 255, .int .u8 9] 5)) (some ⟨w.heap.size, 0, none⟩) 3 [7, 255, 9] := by
  refine ⟨by decide, by decide, (fun h => by cases h), fun ad had j u hu => ?_⟩
  obtain rfl := Option.some.inj had
  rw [Addr.add_lit]
  match j, hu with
  | 0, hu => simp [Bs, B] at hu; subst hu; simp [go_sem]
  | 1, hu => simp [Bs, B] at hu; subst hu; simp [go_sem]
  | 2, hu => simp [Bs, B] at hu; subst hu; simp [go_sem]
section
variable {ops : Array Oper} {rest : List Oper} {o : Oper} {a : Act} {w : World} {Q : Exit → Act → World → Prop}
theorem wpList_build3 (hw : Region.wanted o (yielded ops a.tmps) = true) (ho : o.op = .buildSlice 23 3 #[(0, .const (.int .u8 7)), (1, .const (.int .u8 255)), (2, .const (.int .u8 9))])
    (h : wpList Try.prog ops Q rest (a.put o.dst (.slice (some ⟨w.heap.size, 0, none⟩) 3 3)) (w.alloc (.cells #[.int .u8 7, .int .u8 255, .int .u8 9] 5))) : wpList Try.prog ops Q (o :: rest) a w := by
  refine BigFrame.wpList_want hw fun K hK => ?_
  have e : (execOp a.eval o).run Try.prog w = .ok (.value (.slice (some ⟨w.heap.size, 0, none⟩) 3 3)) (w.alloc (.cells #[.int .u8 7, .int .u8 255, .int .u8 9] 5)) := by
    unfold execOp
    simp only [ho]
    have hp : (#[(0, Operand.const (.int .u8 7)), (1, .const (.int .u8 255)), (2, .const (.int .u8 9))] : Array (Nat × Operand)).map (fun (i, x) => (i, a.eval x)) = #[(0, .int .u8 7), (1, .int .u8 255), (2, .int .u8 9)] := by simp [Act.eval]
    simp only [hp, Sem.run_bind, build3 w, Result.andThen_ok, Sem.run_pure]
  unfold Oper.wp
  rw [e]
  exact hK _ _ h
end

set_option maxHeartbeats 32000000 in
theorem bytes_walk (ao : Option Addr) (ac : Nat) (l : List (List UInt8)) (tm : Nat) (w : World) (htm : tm < 256) (hS : Strs w ao ac l) (hl47 : ∀ s ∈ l, s.length ≤ 140737488355328) (hla : ∀ ad, ao = some ad → ad.block < w.heap.size) :
    Calls Try.prog 6 #[.slice ao l.length ac, .int .u8 (tm : Int)] w fun e w' => e = .returned (.bool true) ∧ Below w.heap.size w w' := by
  have hle := hS.le
  have hcap := hS.cap
  go_enter Try.func6, Try.ntmps6
  go_wp2_with fail
  refine (known_any w).mono ?_
  rintro e w1 ⟨rfl, hB1⟩
  by_cases h1 : l.length ≤ 12
  case neg =>
    have h1I : (12 : Int) < (l.length : Int) := by omega
    go_wp2_with fail
    go_ret
    exact ⟨rfl, hB1⟩
  have h1I : ¬ (12 : Int) < (l.length : Int) := by omega
  have hS1 := hS.later hB1
  have hwt := weight_any ao ac l w1 hS1 (by omega) hl47
  replace hwt : Hid _ := hwt
  go_wp2_with fail
  refine Calls.mono hwt.out ?_
  rintro e w2 ⟨rfl, h9⟩
  have h9' := h9.symm; subst h9'
  clear hwt h9
  by_cases h3 : takenM l ≤ 5000
  case neg =>
    have h3I : (5000 : Int) < (takenM l : Int) := by omega
    go_wp2_with fail
    go_ret
    exact ⟨rfl, hB1⟩
  have h3I : ¬ (5000 : Int) < (takenM l : Int) := by omega
  go_wp2_with fail
  refine (new_on w 250 w1 hB1 (by decide) (by decide)).mono ?_
  rintro e w2 ⟨p, kb, mb, rfl, H2, hq2, hF2⟩
  clear hq2 hF2 hB1 hS1 h1I h3I
  go_wp2_with fail
  refine (format_on w p kb mb 250 w2 H2 (by decide)).mono ?_
  rintro e w3 ⟨j, rfl, H3, hj, ho3⟩
  clear H2 hj ho3
  obtain ⟨L, hL⟩ : ∃ L, l.length = L := ⟨_, rfl⟩
  rw [hL]
  have hlk : ∀ k, k ≤ L → (l.take k).length = k := fun k hk => by rw [List.length_take]; omega
  have hle' : L ≤ ac := by omega
  have h1L : L ≤ 12 := by omega
  replace hL : Hid _ := hL
  by_cases h0 : L = 0
  · have h0I : ¬ (0 : Int) < (L : Int) := by omega
    have hz : (l.take 0).length = 0 := hlk 0 (Nat.zero_le _)
    clear h0
    go_wp2_with fail
    rw [show (Value.slice ao 0 ac) = Value.slice ao (l.take 0).length ac by rw [hz]]
    refine (replace_on w j p kb mb 250 none 0 [] 1 ao ac (l.take 0) w3 H3 (by decide) ((hS.later H3.below).takeL 0) (fun ad had => ⟨Nat.lt_of_lt_of_le (hla ad had) H3.below.size, fun hf => by have := H3.new _ hf; have := hla ad had; omega⟩) (fun r hr => Nat.le_trans (each_takenL h3 r (List.mem_of_mem_take hr)) (by decide)) (by have := taken_take l 0; show _ ≤ 64 * (250 / 2 - 4); omega)).mono ?_
    rintro e w4 ⟨rfl, lo4, lc4, H4, hF4, ho4⟩
    replace H4 : JL w w4 j p kb mb 250 lo4 lc4 (l.take 0) 2 := H4
    clear H3 hF4 ho4 hlk
    go_wp2_with fail
    go_loopw [9] (fun iv wr => ∃ (q N : Nat) (lo : Option Addr) (lc : Nat), q ≤ L ∧ N ≤ q + 2 ∧ iv = .int .i64 (q : Nat) ∧ JL w wr j p kb mb 250 lo lc (l.take q) N) (fun iv _ => L - (intOf iv).toNat)
    case atStart => exact ⟨0, 2, lo4, lc4, Nat.zero_le _, by omega, rfl, H4⟩
    case round =>
      obtain ⟨q, N, lo, lc, hq, hN, rfl, H5⟩ := hrel
      clear H4
      by_cases hlt : q < L
      · have hltI : (q : Int) < (L : Int) := by omega
        have hql : q < l.length := by rw [hL.out]; exact hlt
        cases ao with
        | none => have := hS.nil rfl; omega
        | some ad =>
          have c1 : wr.cell? (ad.add q) = some (strV l[q]) := by
            have c0 := hS.cell ad rfl q hql
            rw [H5.below.cell (World.block_lt_of_cell? w _ c0)]
            exact c0
          have hts : l.take (q + 1) = l.take q ++ [l[q]] := List.take_succ_eq_append_getElem hql
          have hs0 : l[q].length ≤ 20000 := Nat.le_trans (each_takenL h3 _ (List.getElem_mem hql)) (by decide)
          have hss : takenM (l.take q) + (l[q].length + 16) ≤ 5000 := by
            have := taken_take l (q + 1)
            rw [hts, takenM_app] at this
            have h9 : takenM [l[q]] = l[q].length + 16 := rfl
            omega
          obtain ⟨s, hs⟩ : ∃ s, l[q] = s := ⟨_, rfl⟩
          rw [hs] at c1 hts hs0 hss
          clear hs hql
          go_wp2_with fail
          refine (append_on w j p kb mb 250 lo lc (l.take q) N s wr H5 (by omega) hs0 (by show _ ≤ 64 * (250 / 2 - 4); omega)).mono ?_
          rintro e w5 ⟨rfl, lo5, lc5, H6, hF6, ho6⟩
          rw [← hts] at H6
          clear H5 hF6 ho6 hss hts c1
          go_wp2_with fail
          go_roundw
          case rel => exact ⟨q + 1, N + 1, lo5, lc5, by omega, by omega, by go_num, H6⟩
          case measure => simp [intOf]; omega
      · have hltI : ¬ (q : Int) < (L : Int) := by omega
        have hqL : q = L := by omega
        have hall : l.take q = l := by rw [hqL, ← hL.out]; exact List.take_length
        rw [hall] at H5
        clear hqL hall hq
        go_wp2_with (first | (refine wpList_build3 (by rfl) rfl ?_) | fail)
        have hq6 : Below wr.heap.size wr (wr.alloc (.cells #[.int .u8 7, .int .u8 255, .int .u8 9] 5)) := (Below.refl _ _).alloc (Nat.le_refl _) _
        obtain ⟨D, H6, hg⟩ := (H5.later hq6).disk
        have hno : ¬ DF p kb mb wr.heap.size := fun hf => absurd (H5.ok.lt _ (.inr (.inl hf))) (Nat.lt_irrefl _)
        refine (crash_on w p kb mb 250 D _ 3 3 [7, 255, 9] _ H6 (by_seven wr) rfl (fun ad had => by cases had; exact ⟨by simp, hno⟩)).mono ?_
        rintro e w6 ⟨rfl, H7, ho6⟩
        clear H5 H6 hq6 hno ho6
        go_wp2_with fail
        refine (open_on w p kb mb 250 D l N w6 H7 hg).mono ?_
        rintro e w9 ⟨j9, lo9, lc9, bo, bc, rfl, H9, hF9, hS9, hb9, hq9⟩
        have htx := texts_any bo ao bc ac l l w9 hS9 (hS.later H9.below)
        replace htx : Hid _ := htx
        have hbc := hS9.le
        have hbc2 := hS9.cap
        rw [hL.out] at htx hbc ⊢
        clear hF9 hS9 hb9 hq9 H7 hg
        go_wp2_with fail
        refine Calls.mono htx.out ?_
        rintro e w10 ⟨rfl, hb10⟩
        simp only [decide_true]
        have H10 := H9.later hb10
        clear htx hb10 H9 hbc hbc2
        go_wp2_with fail
        refine (all_on w j9 p kb mb 250 lo9 lc9 l N w10 H10).mono ?_
        rintro e w11 ⟨bo2, bc2, rfl, hS11, hbo, H11, hb11⟩
        have hB11 : Below w.heap.size w w11 := H11.below
        have htx := texts_any bo2 ao bc2 ac l l w11 hS11 (hS.later hB11)
        replace htx : Hid _ := htx
        rw [hL.out] at htx ⊢
        clear hS11 hbo H11 hb11 H10
        go_wp2_with fail
        refine Calls.mono htx.out ?_
        rintro e w12 ⟨rfl, hb12⟩
        simp only [decide_true]
        have hB12 : Below w.heap.size w w12 := hB11.trans (hb12.mono hB11.size)
        clear htx hb12
        go_wp2_with fail
        go_ret
        exact ⟨rfl, hB12⟩
  · have h0I : (0 : Int) < (L : Int) := by omega
    obtain ⟨k, hk⟩ : ∃ k, tm % (L + 1) = k := ⟨_, rfl⟩
    have hkL : k ≤ L := by have := Nat.mod_lt tm (show 0 < L + 1 by omega); omega
    have hz : (l.take k).length = k := hlk k hkL
    have hkI : (tm : Int) % ((L : Int) + 1) = (k : Int) := by rw [← hk]; rfl
    have hkL9 : (k : Int) ≤ (ac : Int) := by omega
    have hL1 : ¬ (L : Int) + 1 = 0 := by omega
    clear hk
    go_wp2_with fail
    rw [show (Value.slice ao k ac) = Value.slice ao (l.take k).length ac by rw [hz]]
    refine (replace_on w j p kb mb 250 none 0 [] 1 ao ac (l.take k) w3 H3 (by decide) ((hS.later H3.below).takeL k) (fun ad had => ⟨Nat.lt_of_lt_of_le (hla ad had) H3.below.size, fun hf => by have := H3.new _ hf; have := hla ad had; omega⟩) (fun r hr => Nat.le_trans (each_takenL h3 r (List.mem_of_mem_take hr)) (by decide)) (by have := taken_take l k; show _ ≤ 64 * (250 / 2 - 4); omega)).mono ?_
    rintro e w4 ⟨rfl, lo4, lc4, H4, hF4, ho4⟩
    replace H4 : JL w w4 j p kb mb 250 lo4 lc4 (l.take k) 2 := H4
    clear H3 hF4 ho4 hlk
    go_wp2_with fail
    go_loopw [9] (fun iv wr => ∃ (q N : Nat) (lo : Option Addr) (lc : Nat), q ≤ L ∧ N ≤ q + 2 ∧ iv = .int .i64 (q : Nat) ∧ JL w wr j p kb mb 250 lo lc (l.take q) N) (fun iv _ => L - (intOf iv).toNat)
    case atStart => exact ⟨k, 2, lo4, lc4, hkL, by omega, rfl, H4⟩
    case round =>
      obtain ⟨q, N, lo, lc, hq, hN, rfl, H5⟩ := hrel
      clear H4
      by_cases hlt : q < L
      · have hltI : (q : Int) < (L : Int) := by omega
        have hql : q < l.length := by rw [hL.out]; exact hlt
        cases ao with
        | none => have := hS.nil rfl; omega
        | some ad =>
          have c1 : wr.cell? (ad.add q) = some (strV l[q]) := by
            have c0 := hS.cell ad rfl q hql
            rw [H5.below.cell (World.block_lt_of_cell? w _ c0)]
            exact c0
          have hts : l.take (q + 1) = l.take q ++ [l[q]] := List.take_succ_eq_append_getElem hql
          have hs0 : l[q].length ≤ 20000 := Nat.le_trans (each_takenL h3 _ (List.getElem_mem hql)) (by decide)
          have hss : takenM (l.take q) + (l[q].length + 16) ≤ 5000 := by
            have := taken_take l (q + 1)
            rw [hts, takenM_app] at this
            have h9 : takenM [l[q]] = l[q].length + 16 := rfl
            omega
          obtain ⟨s, hs⟩ : ∃ s, l[q] = s := ⟨_, rfl⟩
          rw [hs] at c1 hts hs0 hss
          clear hs hql
          go_wp2_with fail
          refine (append_on w j p kb mb 250 lo lc (l.take q) N s wr H5 (by omega) hs0 (by show _ ≤ 64 * (250 / 2 - 4); omega)).mono ?_
          rintro e w5 ⟨rfl, lo5, lc5, H6, hF6, ho6⟩
          rw [← hts] at H6
          clear H5 hF6 ho6 hss hts c1
          go_wp2_with fail
          go_roundw
          case rel => exact ⟨q + 1, N + 1, lo5, lc5, by omega, by omega, by go_num, H6⟩
          case measure => simp [intOf]; omega
      · have hltI : ¬ (q : Int) < (L : Int) := by omega
        have hqL : q = L := by omega
        have hall : l.take q = l := by rw [hqL, ← hL.out]; exact List.take_length
        rw [hall] at H5
        clear hqL hall hq
        go_wp2_with (first | (refine wpList_build3 (by rfl) rfl ?_) | fail)
        have hq6 : Below wr.heap.size wr (wr.alloc (.cells #[.int .u8 7, .int .u8 255, .int .u8 9] 5)) := (Below.refl _ _).alloc (Nat.le_refl _) _
        obtain ⟨D, H6, hg⟩ := (H5.later hq6).disk
        have hno : ¬ DF p kb mb wr.heap.size := fun hf => absurd (H5.ok.lt _ (.inr (.inl hf))) (Nat.lt_irrefl _)
        refine (crash_on w p kb mb 250 D _ 3 3 [7, 255, 9] _ H6 (by_seven wr) rfl (fun ad had => by cases had; exact ⟨by simp, hno⟩)).mono ?_
        rintro e w6 ⟨rfl, H7, ho6⟩
        clear H5 H6 hq6 hno ho6
        go_wp2_with fail
        refine (open_on w p kb mb 250 D l N w6 H7 hg).mono ?_
        rintro e w9 ⟨j9, lo9, lc9, bo, bc, rfl, H9, hF9, hS9, hb9, hq9⟩
        have htx := texts_any bo ao bc ac l l w9 hS9 (hS.later H9.below)
        replace htx : Hid _ := htx
        have hbc := hS9.le
        have hbc2 := hS9.cap
        rw [hL.out] at htx hbc ⊢
        clear hF9 hS9 hb9 hq9 H7 hg
        go_wp2_with fail
        refine Calls.mono htx.out ?_
        rintro e w10 ⟨rfl, hb10⟩
        simp only [decide_true]
        have H10 := H9.later hb10
        clear htx hb10 H9 hbc hbc2
        go_wp2_with fail
        refine (all_on w j9 p kb mb 250 lo9 lc9 l N w10 H10).mono ?_
        rintro e w11 ⟨bo2, bc2, rfl, hS11, hbo, H11, hb11⟩
        have hB11 : Below w.heap.size w w11 := H11.below
        have htx := texts_any bo2 ao bc2 ac l l w11 hS11 (hS.later hB11)
        replace htx : Hid _ := htx
        rw [hL.out] at htx ⊢
        clear hS11 hbo H11 hb11 H10
        go_wp2_with fail
        refine Calls.mono htx.out ?_
        rintro e w12 ⟨rfl, hb12⟩
        simp only [decide_true]
        have hB12 : Below w.heap.size w w12 := hB11.trans (hb12.mono hB11.size)
        clear htx hb12
        go_wp2_with fail
        go_ret
        exact ⟨rfl, hB12⟩
end Go.Proofs.Ytlalfagafbpkiaa
