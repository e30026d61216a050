/- paddocklaw11.SynodTakes returns true, for whatever increments, numbers, flags. -/
import Derived.Test.YthpmkhbkbpifkaaSynUse
import Derived.Test.YthpmkhbkbpifkaaSynOpen
import Derived.Test.YthpmkhbkbpifkaaPackTools
import Derived.Test.YthpmkhbkbpifkaaInc9
namespace Go.Proofs.Ythpmkhbkbpifkaa
set_option linter.unusedSimpArgs false
set_option linter.unusedVariables false
set_option maxRecDepth 100000
open Go.RowKit

def two2 (a b : Bool) : Array Value := #[.bool a, .bool b]
def tb : BalV := ⟨2001, 0⟩
theorem tb_ok : BalOk tb := ⟨by decide, by decide⟩
def tv0 (y : IncV) : ProV := startM (newM 0 y) ⟨2000, 0⟩
theorem tv0_b (y : IncV) : (tv0 y).b = tb := rfl
def tv1 (y y1 : IncV) (s : BalV) (g : Bool) : ProV := hearM (tv0 y) 1 s y1 g
def tv2 (y y1 y2 : IncV) (s t : BalV) (g h : Bool) : ProV := { hearM (tv1 y y1 s g) 2 t y2 h with value := chosenX (hearM (tv1 y y1 s g) 2 t y2 h), hasV := true }
theorem t_first (y y1 : IncV) (s : BalV) (g : Bool) : promM (tv0 y) 1 tb s y1 g = (tv1 y y1 s g, false) := by
  have hd : deaf (tv0 y) 1 tb = false := rfl
  have hc : cnt (setB (tv0 y).heard 1) < 2 := by show cnt (setB none3 1) < 2; decide +kernel
  unfold promM
  rw [if_neg (by rw [hd]; decide), if_pos hc]
  rfl
theorem t_second (y y1 y2 : IncV) (s t : BalV) (g h : Bool) : promM (tv1 y y1 s g) 2 tb t y2 h = (tv2 y y1 y2 s t g h, true) := by
  have hd : deaf (tv1 y y1 s g) 2 tb = false := rfl
  have hc : ¬ cnt (setB (tv1 y y1 s g).heard 2) < 2 := by show ¬ cnt (setB (setB none3 1) 2) < 2; decide +kernel
  unfold promM
  rw [if_neg (by rw [hd]; decide), if_neg hc]
  rfl
theorem t_third (y y1 y2 : IncV) (s t c : BalV) (x : IncV) (g h : Bool) : promM (tv2 y y1 y2 s t g h) 0 tb c x true = (tv2 y y1 y2 s t g h, false) := by
  have hd : deaf (tv2 y y1 y2 s t g h) 0 tb = true := rfl
  unfold promM
  rw [if_pos hd]
def tv3 (v : ProV) : ProV := { v with accd := setB v.accd 1 }
def tv4 (v : ProV) : ProV := { tv3 v with accd := setB (tv3 v).accd 0, told := true, dec := v.value, hasD := true }
theorem t_a1 (y y1 y2 : IncV) (s t : BalV) (g h : Bool) : accdM (tv2 y y1 y2 s t g h) 1 tb = (tv3 (tv2 y y1 y2 s t g h), false) := by
  have hd : deafA (tv2 y y1 y2 s t g h) 1 tb = false := rfl
  have hc : cnt (setB (tv2 y y1 y2 s t g h).accd 1) < 2 := by show cnt (setB none3 1) < 2; decide +kernel
  unfold accdM
  rw [if_neg (by rw [hd]; decide), if_pos (.inl hc)]
  rfl
theorem t_a0 (y y1 y2 : IncV) (s t : BalV) (g h : Bool) : accdM (tv3 (tv2 y y1 y2 s t g h)) 0 tb = (tv4 (tv2 y y1 y2 s t g h), true) := by
  have hd : deafA (tv3 (tv2 y y1 y2 s t g h)) 0 tb = false := rfl
  have hc : ¬ (cnt (setB (tv3 (tv2 y y1 y2 s t g h)).accd 0) < 2 ∨ (tv3 (tv2 y y1 y2 s t g h)).told = true) := by
    show ¬ (cnt (setB (setB none3 1) 0) < 2 ∨ false = true)
    decide +kernel
  unfold accdM
  rw [if_neg (by rw [hd]; decide), if_neg hc]
  rfl
theorem t_a2 (y y1 y2 : IncV) (s t : BalV) (g h : Bool) : ∃ u, accdM (tv4 (tv2 y y1 y2 s t g h)) 2 tb = (u, false) := by
  have hd : deafA (tv4 (tv2 y y1 y2 s t g h)) 2 tb = false := rfl
  refine ⟨{ tv4 (tv2 y y1 y2 s t g h) with accd := setB (tv4 (tv2 y y1 y2 s t g h)).accd 2 }, ?_⟩
  unfold accdM
  rw [if_neg (by rw [hd]; decide), if_pos (.inr rfl)]
theorem t_val (y y1 y2 : IncV) (n m : Nat) (g h : Bool) : (tv2 y y1 y2 ⟨n, 1⟩ ⟨m, 2⟩ g h).value = if (g && h) = true ∧ m < n then y1 else if h = true then y2 else if g = true then y1 else y := by
  show chosenX (hearM (tv1 y y1 ⟨n, 1⟩ g) 2 ⟨m, 2⟩ y2 h) = _
  cases g <;> cases h
  · rfl
  · rfl
  · rfl
  · have e : takes (tv1 y y1 ⟨n, 1⟩ true) ⟨m, 2⟩ true = lessB ⟨n, 1⟩ ⟨m, 2⟩ := by
      show (true && (!true || lessB _ _)) = _
      simp only [Bool.true_and, Bool.not_true, Bool.false_or]
      rfl
    have e2 : chosenX (hearM (tv1 y y1 ⟨n, 1⟩ true) 2 ⟨m, 2⟩ y2 true) = if lessB ⟨n, 1⟩ ⟨m, 2⟩ = true then y2 else y1 := by
      show (if takes (tv1 y y1 ⟨n, 1⟩ true) ⟨m, 2⟩ true = true then y2 else y1) = _
      rw [e]
    rw [e2]
    by_cases hl : m < n
    · rw [if_neg (by rw [lessB_is]; simp only; omega), if_pos ⟨rfl, hl⟩]
    · rw [if_pos (by rw [lessB_is]; simp only; omega), if_neg (fun q => hl q.2), if_pos rfl]

set_option maxHeartbeats 8000000 in
theorem takes_walk (x0 x1 x2 : IncV) (n m : Nat) (g h : Bool) (w : World) (h0 : IncOk x0) (h1 : IncOk x1) (h2 : IncOk x2) (hn : n < 4294967296) (hm : m < 4294967296) :
    Calls Try.prog 6 #[.agg (inc9 x0 x1 x2), .int .u32 (n : Int), .int .u32 (m : Int), .agg (two2 g h)] w fun e w' => e = .returned (.bool true) ∧ Below w.heap.size w w' := by
  obtain ⟨w1, hw1, hX, hH, hbw⟩ := two_vars w 44 60 (inc9 x0 x1 x2) (two2 g h)
  obtain ⟨o0, ho0⟩ : ∃ o, x0.osd % 5 = o := ⟨_, rfl⟩
  obtain ⟨o1, ho1⟩ : ∃ o, x1.osd % 5 = o := ⟨_, rfl⟩
  obtain ⟨o2, ho2⟩ : ∃ o, x2.osd % 5 = o := ⟨_, rfl⟩
  have hob0 : o0 < 5 := by omega
  have hob1 : o1 < 5 := by omega
  have hob2 : o2 < 5 := by omega
  have hx0 := h0.osd
  have hx1 := h1.osd
  have hx2 := h2.osd
  replace ho0 : Hid _ := ho0
  replace ho1 : Hid _ := ho1
  replace ho2 : Hid _ := ho2
  go_enter Try.func6, Try.ntmps6
  go_wp2_with fail
  refine (known_any _).mono ?_
  rintro e w2 ⟨rfl, hq⟩
  replace hX := hX.later hq
  replace hH := hH.later hq
  replace hbw := hbw.trans (hq.mono hbw.size)
  clear hq hw1
  have z0 := inc9_o0 hX
  have t0 : Hid (World.there w2 w.heap.size 0 (incC ⟨3, o0, 0⟩).size) := inc9_there hX 0 3 (by decide)
  have hX1 := hX.inc9_set0 ⟨3, o0, 0⟩
  have z1 := inc9_o1 hX1
  have t1 : Hid (World.there (w2.setCells w.heap.size 0 (incC ⟨3, o0, 0⟩).toList) w.heap.size 3 (incC ⟨3, o1, 1⟩).size) := inc9_there hX1 3 3 (by decide)
  have hX2 := hX1.inc9_set1 ⟨3, o1, 1⟩
  have z2 := inc9_o2 hX2
  have t2 : Hid (World.there ((w2.setCells w.heap.size 0 (incC ⟨3, o0, 0⟩).toList).setCells w.heap.size 3 (incC ⟨3, o1, 1⟩).toList) w.heap.size 6 (incC ⟨3, o2, 2⟩).size) := inc9_there hX2 6 3 (by decide)
  have hX3 := hX2.inc9_set2 ⟨3, o2, 2⟩
  have hH3 := ((hH.cells_other (k := w.heap.size) (by omega) (incC ⟨3, o0, 0⟩).toList 0).cells_other (k := w.heap.size) (by omega) (incC ⟨3, o1, 1⟩).toList 3).cells_other (k := w.heap.size) (by omega) (incC ⟨3, o2, 2⟩).toList 6
  have hb3 := below_setCells (below_setCells (below_setCells hbw (Nat.le_refl w.heap.size) (incC ⟨3, o0, 0⟩).toList 0) (Nat.le_refl w.heap.size) (incC ⟨3, o1, 1⟩).toList 3) (Nat.le_refl w.heap.size) (incC ⟨3, o2, 2⟩).toList 6
  go_wp2
  refine wp_loop_rounds 4 ?_
  rw [rounds_succ]
  go_wp2_with (first
    | (refine wpList_val (.int .u8 (o0 : Int)) (by rfl) (run_rem_u8 _ _ _ _ rfl x0.osd 5 o0 rfl rfl hx0 (by decide) ho0.out) ?_)
    | (refine wpList_build_33 (by rfl) 23 0 1 2 _ _ _ rfl _ _ _ rfl rfl rfl (incC ⟨3, o0, 0⟩) (inc_b3' 3 o0 0) ?_)
    | (refine wpList_store_mid' (by rfl) 23 _ _ rfl w.heap.size 0 (incC ⟨3, o0, 0⟩) rfl rfl ?hg (inc_size _) (inc_one _) ?_; (case hg => exact t0.out)))
  rw [rounds_succ]
  go_wp2_with (first
    | (refine wpList_val (.int .u8 (o1 : Int)) (by rfl) (run_rem_u8 _ _ _ _ rfl x1.osd 5 o1 rfl rfl hx1 (by decide) ho1.out) ?_)
    | (refine wpList_build_33 (by rfl) 23 0 1 2 _ _ _ rfl _ _ _ rfl rfl rfl (incC ⟨3, o1, 1⟩) (inc_b3' 3 o1 1) ?_)
    | (refine wpList_store_mid' (by rfl) 23 _ _ rfl w.heap.size 3 (incC ⟨3, o1, 1⟩) rfl rfl ?hg (inc_size _) (inc_one _) ?_; (case hg => exact t1.out)))
  rw [rounds_succ]
  go_wp2_with (first
    | (refine wpList_val (.int .u8 (o2 : Int)) (by rfl) (run_rem_u8 _ _ _ _ rfl x2.osd 5 o2 rfl rfl hx2 (by decide) ho2.out) ?_)
    | (refine wpList_build_33 (by rfl) 23 0 1 2 _ _ _ rfl _ _ _ rfl rfl rfl (incC ⟨3, o2, 2⟩) (inc_b3' 3 o2 2) ?_)
    | (refine wpList_store_mid' (by rfl) 23 _ _ rfl w.heap.size 6 (incC ⟨3, o2, 2⟩) rfl rfl ?hg (inc_size _) (inc_one _) ?_; (case hg => exact t2.out)))
  clear z0 z1 z2 t0 t1 t2 hX hX1 hX2 hH hbw ho0 ho1 ho2 hx0 hx1 hx2 h0 h1 h2
  generalize ((w2.setCells w.heap.size 0 (incC ⟨3, o0, 0⟩).toList).setCells w.heap.size 3 (incC ⟨3, o1, 1⟩).toList).setCells w.heap.size 6 (incC ⟨3, o2, 2⟩).toList = w3 at *
  have hY0 := w3_ok (n := 0) hob0 (by decide) (by decide)
  have hY1 := w3_ok (n := 1) hob1 (by decide) (by decide)
  have hY2 := w3_ok (n := 2) hob2 (by decide) (by decide)
  generalize (⟨3, o0, 0⟩ : IncV) = y0 at *
  generalize (⟨3, o1, 1⟩ : IncV) = y1 at *
  generalize (⟨3, o2, 2⟩ : IncV) = y2 at *
  clear hob0 hob1 hob2
  have r0 := inc9_0 hX3
  rw [rounds_succ]
  go_wp2_with (first
    | (refine wpList_load_mid' (by rfl) 23 _ rfl w.heap.size 0 rfl (incC y0).toList _ ?hg Try.underlying23 rfl (inc_size _) ?_; (case hg => exact r0)))
  refine (pnew_any 0 y0 _ (by decide) hY0).mono ?_
  rintro e w4 ⟨p, rfl, hp, hP, hq⟩
  have hlt := hH3.lt
  have hpw : w.heap.size ≤ p := Nat.le_trans hb3.size hp
  have hE := ((Env.start hb3).add hX3).add hH3
  have hA := ((Apart.nil p).add (show w.heap.size ≠ p by omega) 44 (inc9 y0 y1 y2)).add (show w.heap.size + 1 ≠ p by omega) 60 (two2 g h)
  replace hE := hE.later hq
  clear hq hX3 hH3 hb3 r0 hlt hp
  go_wp2_with (first
    | (refine wpList_build_one (by rfl) 31 0 _ rfl _ rfl (balC ⟨2000, 0⟩) (bal_k1 2000) ?_))
  have hk := pstart_any p _ ⟨2000, 0⟩ _ hP ⟨by decide, by decide⟩
  rw [show startM (newM 0 y0) ⟨2000, 0⟩ = tv0 y0 from rfl, tv0_b] at hk
  refine hk.mono ?_
  rintro e w5 ⟨rfl, hP5, hq⟩
  replace hE := hE.but hq hpw hA
  clear hq hk hP
  obtain ⟨w6, hw6, hB, hq⟩ := new_var w5 31 (balC bal0) (balC tb)
  have hBp : w5.heap.size ≠ p := by have := hP5.lt; omega
  replace hA := hA.add hBp 31 (balC tb)
  replace hE := (hE.later hq).add hB
  replace hP5 := hP5.later hq
  clear hq hB hBp
  obtain ⟨n1, hn1⟩ : ∃ q, n % 1000 = q := ⟨_, rfl⟩
  obtain ⟨m1, hm1⟩ : ∃ q, m % 1000 = q := ⟨_, rfl⟩
  obtain ⟨N, hN⟩ : ∃ q, n1 + 1 = q := ⟨_, rfl⟩
  obtain ⟨M, hM⟩ : ∃ q, m1 + 1 = q := ⟨_, rfl⟩
  have hNb : N < 4294967296 := by omega
  have hMb : M < 4294967296 := by omega
  replace hn1 : Hid _ := hn1
  replace hm1 : Hid _ := hm1
  replace hN : Hid _ := hN
  replace hM : Hid _ := hM
  have hso : BalOk ⟨N, 1⟩ := ⟨hNb, by show 1 < 256; decide⟩
  have hto : BalOk ⟨M, 2⟩ := ⟨hMb, by show 2 < 256; decide⟩
  obtain ⟨w7, hw7, hL, hM7, hq⟩ := two_vars w6 31 31 (balC bal0) (balC bal0)
  have hL8 := (hL.row (balC ⟨N, 1⟩)).row_other (k := w6.heap.size + 1) (by omega) (balC ⟨M, 2⟩)
  have hM8 := hM7.row_other (k := w6.heap.size) (by omega) (balC ⟨N, 1⟩)
  have hM9 := hM8.row (balC ⟨M, 2⟩)
  have hq8 := below_setRow (below_setRow hq (Nat.le_refl w6.heap.size) (balC ⟨N, 1⟩)) (show w6.heap.size ≤ w6.heap.size + 1 by omega) (balC ⟨M, 2⟩)
  obtain ⟨w8, hw8⟩ : ∃ W, (w7.setRow w6.heap.size (balC ⟨N, 1⟩)).setRow (w6.heap.size + 1) (balC ⟨M, 2⟩) = W := ⟨_, rfl⟩
  rw [hw8] at hL8 hM9 hq8
  have hlt6 := hP5.lt
  replace hA := (hA.add (show w6.heap.size ≠ p by omega) 31 (balC ⟨N, 1⟩)).add (show w6.heap.size + 1 ≠ p by omega) 31 (balC ⟨M, 2⟩)
  replace hE := ((hE.later hq8).add hL8).add hM9
  replace hP5 := hP5.later hq8
  clear hq hq8 hL8 hM9 hlt6
  have gB := hE.get 2 rfl
  have gS := hE.get 3 rfl
  have rY := inc9_1 (hE.get 0 rfl)
  have zh := ((hE.get 1 rfl).cell 0).trans (show _ = some (.bool g) from rfl)
  go_wp2_with (first
    | ((with_reducible refine at_all ?_); first
      | (refine alloc_bal (by rfl) rfl ?_; rw [alloc_sz, hw7]; (try simp only [Act.put, List.setIfInBounds_toArray, List.set_cons_zero, List.set_cons_succ]))
      | (refine alloc_bal (by rfl) rfl ?_; (try simp only [Act.put, List.setIfInBounds_toArray, List.set_cons_zero, List.set_cons_succ])))
    | ((with_reducible refine at_sto ?_); first
      | (refine store_bal tb bal0 (by rfl) _ _ rfl w5.heap.size rfl rfl ?hg ?_; (case hg => exact Has.new _ _ _); rw [hw6])
      | (refine store_bal ⟨N, 1⟩ bal0 (by rfl) _ _ rfl w6.heap.size rfl rfl ?hg ?_; (case hg => exact hL))
      | (refine store_bal ⟨M, 2⟩ bal0 (by rfl) _ _ rfl (w6.heap.size + 1) rfl rfl ?hg ?_; (case hg => exact hM8); rw [hw8]))
    | ((with_reducible refine at_bin ?_); first
      | (refine wpList_val (.int .u32 (n1 : Int)) (by rfl) (run_rem_n32 _ _ _ _ rfl n 1000 n1 rfl rfl hn (by decide) hn1.out) ?_)
      | (refine wpList_val (.int .u32 (N : Int)) (by rfl) (run_add_n32 _ _ _ _ rfl n1 1 N rfl rfl hN.out hNb) ?_; (try simp only [Act.put, List.setIfInBounds_toArray, List.set_cons_zero, List.set_cons_succ]))
      | (refine wpList_val (.int .u32 (m1 : Int)) (by rfl) (run_rem_n32 _ _ _ _ rfl m 1000 m1 rfl rfl hm (by decide) hm1.out) ?_)
      | (refine wpList_val (.int .u32 (M : Int)) (by rfl) (run_add_n32 _ _ _ _ rfl m1 1 M rfl rfl hM.out hMb) ?_; (try simp only [Act.put, List.setIfInBounds_toArray, List.set_cons_zero, List.set_cons_succ])))
    | ((with_reducible refine at_bld ?_); first
      | (refine build_bal2 N 1 (by rfl) _ _ rfl rfl rfl ?_; (try simp only [Act.put, List.setIfInBounds_toArray, List.set_cons_zero, List.set_cons_succ]))
      | (refine build_bal2 M 2 (by rfl) _ _ rfl rfl rfl ?_; (try simp only [Act.put, List.setIfInBounds_toArray, List.set_cons_zero, List.set_cons_succ])))
    | ((with_reducible refine at_loa ?_); first
      | (refine load_bal tb (by rfl) _ rfl w5.heap.size rfl ?hg ?_; (case hg => exact gB))
      | (refine load_bal ⟨N, 1⟩ (by rfl) _ rfl w6.heap.size rfl ?hg ?_; (case hg => exact gS))
      | (refine wpList_load_mid' (by rfl) 23 _ rfl w.heap.size 3 rfl (incC y1).toList _ ?hg Try.underlying23 rfl (inc_size _) ?_; (case hg => exact rY))))
  clear hw6 hw7 hw8 hL hM7 hM8 gB gS rY zh
  generalize w5.heap.size = gb at *
  generalize w6.heap.size = gs at *
  refine (ppromise_is p _ 1 tb ⟨N, 1⟩ y1 g _ (t_first y0 y1 ⟨N, 1⟩ g) hP5 (by decide) tb_ok hso hY1).mono ?_
  rintro e w9 ⟨rfl, hP9, hq⟩
  replace hE := hE.but hq hpw hA
  clear hq hP5
  have gB := hE.get 2 rfl
  have gT := hE.get 4 rfl
  have rY := inc9_2 (hE.get 0 rfl)
  have zh := ((hE.get 1 rfl).cell 1).trans (show _ = some (.bool h) from rfl)
  go_wp2_with ((with_reducible refine at_gr 8 false ?_); (with_reducible refine at_loa ?_); first
    | (refine load_bal tb (by rfl) _ rfl gb rfl ?hg ?_; (case hg => exact gB); (try simp only [Act.put, List.setIfInBounds_toArray, List.set_cons_zero, List.set_cons_succ]))
    | (refine load_bal ⟨M, 2⟩ (by rfl) _ rfl (gs + 1) rfl ?hg ?_; (case hg => exact gT); (try simp only [Act.put, List.setIfInBounds_toArray, List.set_cons_zero, List.set_cons_succ]))
    | (refine wpList_load_mid' (by rfl) 23 _ rfl w.heap.size 6 rfl (incC y2).toList _ ?hg Try.underlying23 rfl (inc_size _) ?_; (case hg => exact rY); (try simp only [Act.put, List.setIfInBounds_toArray, List.set_cons_zero, List.set_cons_succ])))
  clear gB gT rY zh
  refine (ppromise_is p _ 2 tb ⟨M, 2⟩ y2 h _ (t_second y0 y1 y2 ⟨N, 1⟩ ⟨M, 2⟩ g h) hP9 (by decide) tb_ok hto hY2).mono ?_
  rintro e w10 ⟨rfl, hP10, hq⟩
  replace hE := hE.but hq hpw hA
  clear hq hP9
  obtain ⟨v, hv⟩ : ∃ v, tv2 y0 y1 y2 ⟨N, 1⟩ ⟨M, 2⟩ g h = v := ⟨_, rfl⟩
  have hval := t_val y0 y1 y2 N M g h
  have f3 := t_third y0 y1 y2 ⟨N, 1⟩ ⟨M, 2⟩ ⟨3000, 0⟩ y1 g h
  have f4 := t_a1 y0 y1 y2 ⟨N, 1⟩ ⟨M, 2⟩ g h
  have f5 := t_a0 y0 y1 y2 ⟨N, 1⟩ ⟨M, 2⟩ g h
  obtain ⟨u, f6⟩ := t_a2 y0 y1 y2 ⟨N, 1⟩ ⟨M, 2⟩ g h
  have hhv : (tv2 y0 y1 y2 ⟨N, 1⟩ ⟨M, 2⟩ g h).hasV = true := rfl
  rw [hv] at hP10 hval f3 f4 f5 f6 hhv
  replace hval : Hid _ := hval
  replace f3 : Hid _ := f3
  replace f4 : Hid _ := f4
  replace f5 : Hid _ := f5
  replace f6 : Hid _ := f6
  replace hhv : Hid _ := hhv
  clear hv
  have r0 := inc9_0 (hE.get 0 rfl)
  obtain ⟨w11, hw11, hW, hq⟩ := new_var w10 23 (incC inc0) (incC y0)
  have hgw : w10.heap.size ≠ p := by have := hP10.lt; omega
  have hE11 := hE.later hq
  have r1 := inc9_1 (hE11.get 0 rfl)
  have r2 := inc9_2 (hE11.get 0 rfl)
  have zg := ((hE11.get 1 rfl).cell 0).trans (show _ = some (.bool g) from rfl)
  have zh := ((hE11.get 1 rfl).cell 1).trans (show _ = some (.bool h) from rfl)
  have zN := (bal_cells (hE11.get 3 rfl)).1
  have zM := (bal_cells (hE11.get 4 rfl)).1
  cases g with
  | true =>
    cases h with
    | true =>
      by_cases hMN : M < N
      · have hMI : (M : Int) < (N : Int) := by omega
        replace hval := hval.out.trans (if_pos ⟨rfl, hMN⟩)
        replace hval : Hid _ := hval
        have hW2 := hW.row (incC y1)
        have hq2 := below_setRow hq (Nat.le_refl w10.heap.size) (incC y1)
        obtain ⟨w12, hw12⟩ : ∃ W, w11.setRow w10.heap.size (incC y1) = W := ⟨_, rfl⟩
        rw [hw12] at hW2 hq2
        replace hE := (hE.later hq2).add hW2
        replace hA := hA.add hgw 23 (incC y1)
        replace hP10 := hP10.later hq2
        go_wp2_with (first
          | ((with_reducible refine at_all ?_); (refine alloc_inc0 (by rfl) rfl ?_; (try simp only [Act.put, List.setIfInBounds_toArray, List.set_cons_zero, List.set_cons_succ])))
          | ((with_reducible refine at_sto ?_); first
            | (refine store_inc y0 inc0 (by rfl) _ _ rfl w10.heap.size rfl rfl ?hg ?_; (case hg => exact Has.new _ _ _); rw [hw11]; (try simp only [Act.put, List.setIfInBounds_toArray, List.set_cons_zero, List.set_cons_succ]))
            | (refine store_inc y1 y0 (by rfl) _ _ rfl w10.heap.size rfl rfl ?hg ?_; (case hg => exact hW); rw [hw12]; (try simp only [Act.put, List.setIfInBounds_toArray, List.set_cons_zero, List.set_cons_succ])))
          | ((with_reducible refine at_g0 ?_); (with_reducible refine at_loa ?_); first
            | (refine wpList_load_mid' (by rfl) 23 _ rfl w.heap.size 0 rfl (incC y0).toList _ ?hg Try.underlying23 rfl (inc_size _) ?_; (case hg => exact r0); (try simp only [Act.put, List.setIfInBounds_toArray, List.set_cons_zero, List.set_cons_succ]))
            | (refine wpList_load_mid' (by rfl) 23 _ rfl w.heap.size 3 rfl (incC y1).toList _ ?hg Try.underlying23 rfl (inc_size _) ?_; (case hg => exact r1); (try simp only [Act.put, List.setIfInBounds_toArray, List.set_cons_zero, List.set_cons_succ]))))
        clear hw11 hw12 hW hW2 hq hq2 hE11 r0 r1 r2 zg zh zN zM
        generalize w10.heap.size = gw at *
        refine (pvalue_any p v _ hP10).mono ?_
        rintro e w13 ⟨y, rfl, _, hy, hq⟩
        obtain rfl : y1 = y := hval.out.symm.trans (hy hhv.out).symm
        rw [hhv.out]
        clear hy
        replace hE := hE.later hq
        replace hP10 := hP10.later hq
        clear hq
        obtain ⟨w14, hw14, hW, hq⟩ := new_var w13 23 (incC inc0) (incC y1)
        have hgv : w13.heap.size ≠ p := by have := hP10.lt; omega
        replace hE := (hE.later hq).add hW
        replace hA := hA.add hgv 23 (incC y1)
        replace hP10 := hP10.later hq
        clear hq
        have gB := hE.get 2 rfl
        have gw' := hE.get 5 rfl
        have gv' := hE.get 6 rfl
        have rY := inc9_1 (hE.get 0 rfl)
        go_wp2_with (first
          | ((with_reducible refine at_all ?_); (refine alloc_inc0 (by rfl) rfl ?_; (try simp only [Act.put, List.setIfInBounds_toArray, List.set_cons_zero, List.set_cons_succ])))
          | ((with_reducible refine at_sto ?_); (refine store_inc y1 inc0 (by rfl) _ _ rfl w13.heap.size rfl rfl ?hg ?_; (case hg => exact Has.new _ _ _); rw [hw14]; (try simp only [Act.put, List.setIfInBounds_toArray, List.set_cons_zero, List.set_cons_succ])))
          | ((with_reducible refine at_gr 1 true ?_); first
            | ((with_reducible refine at_loa ?_); first
              | (refine load_inc y1 (by rfl) _ rfl w13.heap.size rfl ?hg ?_; (case hg => exact gv'); (try simp only [Act.put, List.setIfInBounds_toArray, List.set_cons_zero, List.set_cons_succ]))
              | (refine load_inc y1 (by rfl) _ rfl gw rfl ?hg ?_; (case hg => exact gw'); (try simp only [Act.put, List.setIfInBounds_toArray, List.set_cons_zero, List.set_cons_succ])))
            | ((with_reducible refine at_bin ?_); (refine bin_inc_same y1 hY1 (by rfl) _ _ _ rfl rfl rfl ?_; (try simp only [Act.put, List.setIfInBounds_toArray, List.set_cons_zero, List.set_cons_succ]))))
          | ((with_reducible refine at_gr 6 true ?_); first
            | ((with_reducible refine at_bld ?_); (refine build_bal1 3000 (by rfl) _ rfl rfl ?_; (try simp only [Act.put, List.setIfInBounds_toArray, List.set_cons_zero, List.set_cons_succ])))
            | ((with_reducible refine at_loa ?_); first
              | (refine load_bal tb (by rfl) _ rfl gb rfl ?hg ?_; (case hg => exact gB); (try simp only [Act.put, List.setIfInBounds_toArray, List.set_cons_zero, List.set_cons_succ]))
              | (refine wpList_load_mid' (by rfl) 23 _ rfl w.heap.size 3 rfl (incC y1).toList _ ?hg Try.underlying23 rfl (inc_size _) ?_; (case hg => exact rY); (try simp only [Act.put, List.setIfInBounds_toArray, List.set_cons_zero, List.set_cons_succ])))))
        clear hw14 hW gB gw' gv' rY
        generalize w13.heap.size = gv at *
        refine (ppromise_is p _ 0 tb ⟨3000, 0⟩ y1 true _ f3.out hP10 (by decide) tb_ok ⟨by decide, by decide⟩ hY1).mono ?_
        rintro e w15 ⟨rfl, hP15, hq⟩
        replace hE := hE.but hq hpw hA
        clear hq hP10
        have gB := hE.get 2 rfl
        go_wp2_with ((with_reducible refine at_gr 15 true ?_); (with_reducible refine at_loa ?_); (refine load_bal tb (by rfl) _ rfl gb rfl ?hg ?_; (case hg => exact gB); (try simp only [Act.put, List.setIfInBounds_toArray, List.set_cons_zero, List.set_cons_succ])))
        clear gB
        refine (paccepted_is p _ 1 tb _ f4.out hP15 (by decide) tb_ok).mono ?_
        rintro e w16 ⟨rfl, hP16, hq⟩
        replace hE := hE.but hq hpw hA
        clear hq hP15
        have gB := hE.get 2 rfl
        go_wp2_with ((with_reducible refine at_gr 21 true ?_); (with_reducible refine at_loa ?_); (refine load_bal tb (by rfl) _ rfl gb rfl ?hg ?_; (case hg => exact gB); (try simp only [Act.put, List.setIfInBounds_toArray, List.set_cons_zero, List.set_cons_succ])))
        clear gB
        refine (paccepted_is p _ 0 tb _ f5.out hP16 (by decide) tb_ok).mono ?_
        rintro e w17 ⟨rfl, hP17, hq⟩
        replace hE := hE.but hq hpw hA
        clear hq hP16
        have gB := hE.get 2 rfl
        go_wp2_with ((with_reducible refine at_gr 26 true ?_); (with_reducible refine at_loa ?_); (refine load_bal tb (by rfl) _ rfl gb rfl ?hg ?_; (case hg => exact gB); (try simp only [Act.put, List.setIfInBounds_toArray, List.set_cons_zero, List.set_cons_succ])))
        clear gB
        refine (paccepted_is p _ 2 tb _ f6.out hP17 (by decide) tb_ok).mono ?_
        rintro e w18 ⟨rfl, hP18, hq⟩
        replace hE := hE.but hq hpw hA
        go_wp2
        go_ret
        exact ⟨rfl, hE.below⟩
      · have hMI : ¬ (M : Int) < (N : Int) := by omega
        have hMI2 : (N : Int) ≤ (M : Int) := by omega
        replace hval := hval.out.trans ((if_neg (fun q => hMN q.2)).trans (if_pos rfl))
        replace hval : Hid _ := hval
        have hW2 := hW.row (incC y2)
        have hq2 := below_setRow hq (Nat.le_refl w10.heap.size) (incC y2)
        obtain ⟨w12, hw12⟩ : ∃ W, w11.setRow w10.heap.size (incC y2) = W := ⟨_, rfl⟩
        rw [hw12] at hW2 hq2
        replace hE := (hE.later hq2).add hW2
        replace hA := hA.add hgw 23 (incC y2)
        replace hP10 := hP10.later hq2
        go_wp2_with (first
          | ((with_reducible refine at_all ?_); (refine alloc_inc0 (by rfl) rfl ?_; (try simp only [Act.put, List.setIfInBounds_toArray, List.set_cons_zero, List.set_cons_succ])))
          | ((with_reducible refine at_sto ?_); first
            | (refine store_inc y0 inc0 (by rfl) _ _ rfl w10.heap.size rfl rfl ?hg ?_; (case hg => exact Has.new _ _ _); rw [hw11]; (try simp only [Act.put, List.setIfInBounds_toArray, List.set_cons_zero, List.set_cons_succ]))
            | (refine store_inc y2 y0 (by rfl) _ _ rfl w10.heap.size rfl rfl ?hg ?_; (case hg => exact hW); rw [hw12]; (try simp only [Act.put, List.setIfInBounds_toArray, List.set_cons_zero, List.set_cons_succ])))
          | ((with_reducible refine at_g0 ?_); (with_reducible refine at_loa ?_); first
            | (refine wpList_load_mid' (by rfl) 23 _ rfl w.heap.size 0 rfl (incC y0).toList _ ?hg Try.underlying23 rfl (inc_size _) ?_; (case hg => exact r0); (try simp only [Act.put, List.setIfInBounds_toArray, List.set_cons_zero, List.set_cons_succ]))
            | (refine wpList_load_mid' (by rfl) 23 _ rfl w.heap.size 6 rfl (incC y2).toList _ ?hg Try.underlying23 rfl (inc_size _) ?_; (case hg => exact r2); (try simp only [Act.put, List.setIfInBounds_toArray, List.set_cons_zero, List.set_cons_succ]))))
        clear hw11 hw12 hW hW2 hq hq2 hE11 r0 r1 r2 zg zh zN zM
        generalize w10.heap.size = gw at *
        refine (pvalue_any p v _ hP10).mono ?_
        rintro e w13 ⟨y, rfl, _, hy, hq⟩
        obtain rfl : y2 = y := hval.out.symm.trans (hy hhv.out).symm
        rw [hhv.out]
        clear hy
        replace hE := hE.later hq
        replace hP10 := hP10.later hq
        clear hq
        obtain ⟨w14, hw14, hW, hq⟩ := new_var w13 23 (incC inc0) (incC y2)
        have hgv : w13.heap.size ≠ p := by have := hP10.lt; omega
        replace hE := (hE.later hq).add hW
        replace hA := hA.add hgv 23 (incC y2)
        replace hP10 := hP10.later hq
        clear hq
        have gB := hE.get 2 rfl
        have gw' := hE.get 5 rfl
        have gv' := hE.get 6 rfl
        have rY := inc9_1 (hE.get 0 rfl)
        go_wp2_with (first
          | ((with_reducible refine at_all ?_); (refine alloc_inc0 (by rfl) rfl ?_; (try simp only [Act.put, List.setIfInBounds_toArray, List.set_cons_zero, List.set_cons_succ])))
          | ((with_reducible refine at_sto ?_); (refine store_inc y2 inc0 (by rfl) _ _ rfl w13.heap.size rfl rfl ?hg ?_; (case hg => exact Has.new _ _ _); rw [hw14]; (try simp only [Act.put, List.setIfInBounds_toArray, List.set_cons_zero, List.set_cons_succ])))
          | ((with_reducible refine at_gr 1 true ?_); first
            | ((with_reducible refine at_loa ?_); first
              | (refine load_inc y2 (by rfl) _ rfl w13.heap.size rfl ?hg ?_; (case hg => exact gv'); (try simp only [Act.put, List.setIfInBounds_toArray, List.set_cons_zero, List.set_cons_succ]))
              | (refine load_inc y2 (by rfl) _ rfl gw rfl ?hg ?_; (case hg => exact gw'); (try simp only [Act.put, List.setIfInBounds_toArray, List.set_cons_zero, List.set_cons_succ])))
            | ((with_reducible refine at_bin ?_); (refine bin_inc_same y2 hY2 (by rfl) _ _ _ rfl rfl rfl ?_; (try simp only [Act.put, List.setIfInBounds_toArray, List.set_cons_zero, List.set_cons_succ]))))
          | ((with_reducible refine at_gr 6 true ?_); first
            | ((with_reducible refine at_bld ?_); (refine build_bal1 3000 (by rfl) _ rfl rfl ?_; (try simp only [Act.put, List.setIfInBounds_toArray, List.set_cons_zero, List.set_cons_succ])))
            | ((with_reducible refine at_loa ?_); first
              | (refine load_bal tb (by rfl) _ rfl gb rfl ?hg ?_; (case hg => exact gB); (try simp only [Act.put, List.setIfInBounds_toArray, List.set_cons_zero, List.set_cons_succ]))
              | (refine wpList_load_mid' (by rfl) 23 _ rfl w.heap.size 3 rfl (incC y1).toList _ ?hg Try.underlying23 rfl (inc_size _) ?_; (case hg => exact rY); (try simp only [Act.put, List.setIfInBounds_toArray, List.set_cons_zero, List.set_cons_succ])))))
        clear hw14 hW gB gw' gv' rY
        generalize w13.heap.size = gv at *
        refine (ppromise_is p _ 0 tb ⟨3000, 0⟩ y1 true _ f3.out hP10 (by decide) tb_ok ⟨by decide, by decide⟩ hY1).mono ?_
        rintro e w15 ⟨rfl, hP15, hq⟩
        replace hE := hE.but hq hpw hA
        clear hq hP10
        have gB := hE.get 2 rfl
        go_wp2_with ((with_reducible refine at_gr 15 true ?_); (with_reducible refine at_loa ?_); (refine load_bal tb (by rfl) _ rfl gb rfl ?hg ?_; (case hg => exact gB); (try simp only [Act.put, List.setIfInBounds_toArray, List.set_cons_zero, List.set_cons_succ])))
        clear gB
        refine (paccepted_is p _ 1 tb _ f4.out hP15 (by decide) tb_ok).mono ?_
        rintro e w16 ⟨rfl, hP16, hq⟩
        replace hE := hE.but hq hpw hA
        clear hq hP15
        have gB := hE.get 2 rfl
        go_wp2_with ((with_reducible refine at_gr 21 true ?_); (with_reducible refine at_loa ?_); (refine load_bal tb (by rfl) _ rfl gb rfl ?hg ?_; (case hg => exact gB); (try simp only [Act.put, List.setIfInBounds_toArray, List.set_cons_zero, List.set_cons_succ])))
        clear gB
        refine (paccepted_is p _ 0 tb _ f5.out hP16 (by decide) tb_ok).mono ?_
        rintro e w17 ⟨rfl, hP17, hq⟩
        replace hE := hE.but hq hpw hA
        clear hq hP16
        have gB := hE.get 2 rfl
        go_wp2_with ((with_reducible refine at_gr 26 true ?_); (with_reducible refine at_loa ?_); (refine load_bal tb (by rfl) _ rfl gb rfl ?hg ?_; (case hg => exact gB); (try simp only [Act.put, List.setIfInBounds_toArray, List.set_cons_zero, List.set_cons_succ])))
        clear gB
        refine (paccepted_is p _ 2 tb _ f6.out hP17 (by decide) tb_ok).mono ?_
        rintro e w18 ⟨rfl, hP18, hq⟩
        replace hE := hE.but hq hpw hA
        go_wp2
        go_ret
        exact ⟨rfl, hE.below⟩
    | false =>
      replace hval := hval.out.trans ((if_neg (fun q => by cases q.1)).trans ((if_neg (by decide)).trans (if_pos rfl)))
      replace hval : Hid _ := hval
      have hW2 := hW.row (incC y1)
      have hq2 := below_setRow hq (Nat.le_refl w10.heap.size) (incC y1)
      obtain ⟨w12, hw12⟩ : ∃ W, w11.setRow w10.heap.size (incC y1) = W := ⟨_, rfl⟩
      rw [hw12] at hW2 hq2
      replace hE := (hE.later hq2).add hW2
      replace hA := hA.add hgw 23 (incC y1)
      replace hP10 := hP10.later hq2
      go_wp2_with (first
        | ((with_reducible refine at_all ?_); (refine alloc_inc0 (by rfl) rfl ?_; (try simp only [Act.put, List.setIfInBounds_toArray, List.set_cons_zero, List.set_cons_succ])))
        | ((with_reducible refine at_sto ?_); first
          | (refine store_inc y0 inc0 (by rfl) _ _ rfl w10.heap.size rfl rfl ?hg ?_; (case hg => exact Has.new _ _ _); rw [hw11]; (try simp only [Act.put, List.setIfInBounds_toArray, List.set_cons_zero, List.set_cons_succ]))
          | (refine store_inc y1 y0 (by rfl) _ _ rfl w10.heap.size rfl rfl ?hg ?_; (case hg => exact hW); rw [hw12]; (try simp only [Act.put, List.setIfInBounds_toArray, List.set_cons_zero, List.set_cons_succ])))
        | ((with_reducible refine at_g0 ?_); (with_reducible refine at_loa ?_); first
          | (refine wpList_load_mid' (by rfl) 23 _ rfl w.heap.size 0 rfl (incC y0).toList _ ?hg Try.underlying23 rfl (inc_size _) ?_; (case hg => exact r0); (try simp only [Act.put, List.setIfInBounds_toArray, List.set_cons_zero, List.set_cons_succ]))
          | (refine wpList_load_mid' (by rfl) 23 _ rfl w.heap.size 3 rfl (incC y1).toList _ ?hg Try.underlying23 rfl (inc_size _) ?_; (case hg => exact r1); (try simp only [Act.put, List.setIfInBounds_toArray, List.set_cons_zero, List.set_cons_succ]))))
      clear hw11 hw12 hW hW2 hq hq2 hE11 r0 r1 r2 zg zh zN zM
      generalize w10.heap.size = gw at *
      refine (pvalue_any p v _ hP10).mono ?_
      rintro e w13 ⟨y, rfl, _, hy, hq⟩
      obtain rfl : y1 = y := hval.out.symm.trans (hy hhv.out).symm
      rw [hhv.out]
      clear hy
      replace hE := hE.later hq
      replace hP10 := hP10.later hq
      clear hq
      obtain ⟨w14, hw14, hW, hq⟩ := new_var w13 23 (incC inc0) (incC y1)
      have hgv : w13.heap.size ≠ p := by have := hP10.lt; omega
      replace hE := (hE.later hq).add hW
      replace hA := hA.add hgv 23 (incC y1)
      replace hP10 := hP10.later hq
      clear hq
      have gB := hE.get 2 rfl
      have gw' := hE.get 5 rfl
      have gv' := hE.get 6 rfl
      have rY := inc9_1 (hE.get 0 rfl)
      go_wp2_with (first
        | ((with_reducible refine at_all ?_); (refine alloc_inc0 (by rfl) rfl ?_; (try simp only [Act.put, List.setIfInBounds_toArray, List.set_cons_zero, List.set_cons_succ])))
        | ((with_reducible refine at_sto ?_); (refine store_inc y1 inc0 (by rfl) _ _ rfl w13.heap.size rfl rfl ?hg ?_; (case hg => exact Has.new _ _ _); rw [hw14]; (try simp only [Act.put, List.setIfInBounds_toArray, List.set_cons_zero, List.set_cons_succ])))
        | ((with_reducible refine at_gr 1 true ?_); first
          | ((with_reducible refine at_loa ?_); first
            | (refine load_inc y1 (by rfl) _ rfl w13.heap.size rfl ?hg ?_; (case hg => exact gv'); (try simp only [Act.put, List.setIfInBounds_toArray, List.set_cons_zero, List.set_cons_succ]))
            | (refine load_inc y1 (by rfl) _ rfl gw rfl ?hg ?_; (case hg => exact gw'); (try simp only [Act.put, List.setIfInBounds_toArray, List.set_cons_zero, List.set_cons_succ])))
          | ((with_reducible refine at_bin ?_); (refine bin_inc_same y1 hY1 (by rfl) _ _ _ rfl rfl rfl ?_; (try simp only [Act.put, List.setIfInBounds_toArray, List.set_cons_zero, List.set_cons_succ]))))
        | ((with_reducible refine at_gr 6 true ?_); first
          | ((with_reducible refine at_bld ?_); (refine build_bal1 3000 (by rfl) _ rfl rfl ?_; (try simp only [Act.put, List.setIfInBounds_toArray, List.set_cons_zero, List.set_cons_succ])))
          | ((with_reducible refine at_loa ?_); first
            | (refine load_bal tb (by rfl) _ rfl gb rfl ?hg ?_; (case hg => exact gB); (try simp only [Act.put, List.setIfInBounds_toArray, List.set_cons_zero, List.set_cons_succ]))
            | (refine wpList_load_mid' (by rfl) 23 _ rfl w.heap.size 3 rfl (incC y1).toList _ ?hg Try.underlying23 rfl (inc_size _) ?_; (case hg => exact rY); (try simp only [Act.put, List.setIfInBounds_toArray, List.set_cons_zero, List.set_cons_succ])))))
      clear hw14 hW gB gw' gv' rY
      generalize w13.heap.size = gv at *
      refine (ppromise_is p _ 0 tb ⟨3000, 0⟩ y1 true _ f3.out hP10 (by decide) tb_ok ⟨by decide, by decide⟩ hY1).mono ?_
      rintro e w15 ⟨rfl, hP15, hq⟩
      replace hE := hE.but hq hpw hA
      clear hq hP10
      have gB := hE.get 2 rfl
      go_wp2_with ((with_reducible refine at_gr 15 true ?_); (with_reducible refine at_loa ?_); (refine load_bal tb (by rfl) _ rfl gb rfl ?hg ?_; (case hg => exact gB); (try simp only [Act.put, List.setIfInBounds_toArray, List.set_cons_zero, List.set_cons_succ])))
      clear gB
      refine (paccepted_is p _ 1 tb _ f4.out hP15 (by decide) tb_ok).mono ?_
      rintro e w16 ⟨rfl, hP16, hq⟩
      replace hE := hE.but hq hpw hA
      clear hq hP15
      have gB := hE.get 2 rfl
      go_wp2_with ((with_reducible refine at_gr 21 true ?_); (with_reducible refine at_loa ?_); (refine load_bal tb (by rfl) _ rfl gb rfl ?hg ?_; (case hg => exact gB); (try simp only [Act.put, List.setIfInBounds_toArray, List.set_cons_zero, List.set_cons_succ])))
      clear gB
      refine (paccepted_is p _ 0 tb _ f5.out hP16 (by decide) tb_ok).mono ?_
      rintro e w17 ⟨rfl, hP17, hq⟩
      replace hE := hE.but hq hpw hA
      clear hq hP16
      have gB := hE.get 2 rfl
      go_wp2_with ((with_reducible refine at_gr 26 true ?_); (with_reducible refine at_loa ?_); (refine load_bal tb (by rfl) _ rfl gb rfl ?hg ?_; (case hg => exact gB); (try simp only [Act.put, List.setIfInBounds_toArray, List.set_cons_zero, List.set_cons_succ])))
      clear gB
      refine (paccepted_is p _ 2 tb _ f6.out hP17 (by decide) tb_ok).mono ?_
      rintro e w18 ⟨rfl, hP18, hq⟩
      replace hE := hE.but hq hpw hA
      go_wp2
      go_ret
      exact ⟨rfl, hE.below⟩
  | false =>
    cases h with
    | true =>
      replace hval := hval.out.trans ((if_neg (fun q => by cases q.1)).trans (if_pos rfl))
      replace hval : Hid _ := hval
      have hW2 := hW.row (incC y2)
      have hq2 := below_setRow hq (Nat.le_refl w10.heap.size) (incC y2)
      obtain ⟨w12, hw12⟩ : ∃ W, w11.setRow w10.heap.size (incC y2) = W := ⟨_, rfl⟩
      rw [hw12] at hW2 hq2
      replace hE := (hE.later hq2).add hW2
      replace hA := hA.add hgw 23 (incC y2)
      replace hP10 := hP10.later hq2
      go_wp2_with (first
        | ((with_reducible refine at_all ?_); (refine alloc_inc0 (by rfl) rfl ?_; (try simp only [Act.put, List.setIfInBounds_toArray, List.set_cons_zero, List.set_cons_succ])))
        | ((with_reducible refine at_sto ?_); first
          | (refine store_inc y0 inc0 (by rfl) _ _ rfl w10.heap.size rfl rfl ?hg ?_; (case hg => exact Has.new _ _ _); rw [hw11]; (try simp only [Act.put, List.setIfInBounds_toArray, List.set_cons_zero, List.set_cons_succ]))
          | (refine store_inc y2 y0 (by rfl) _ _ rfl w10.heap.size rfl rfl ?hg ?_; (case hg => exact hW); rw [hw12]; (try simp only [Act.put, List.setIfInBounds_toArray, List.set_cons_zero, List.set_cons_succ])))
        | ((with_reducible refine at_g0 ?_); (with_reducible refine at_loa ?_); first
          | (refine wpList_load_mid' (by rfl) 23 _ rfl w.heap.size 0 rfl (incC y0).toList _ ?hg Try.underlying23 rfl (inc_size _) ?_; (case hg => exact r0); (try simp only [Act.put, List.setIfInBounds_toArray, List.set_cons_zero, List.set_cons_succ]))
          | (refine wpList_load_mid' (by rfl) 23 _ rfl w.heap.size 6 rfl (incC y2).toList _ ?hg Try.underlying23 rfl (inc_size _) ?_; (case hg => exact r2); (try simp only [Act.put, List.setIfInBounds_toArray, List.set_cons_zero, List.set_cons_succ]))))
      clear hw11 hw12 hW hW2 hq hq2 hE11 r0 r1 r2 zg zh zN zM
      generalize w10.heap.size = gw at *
      refine (pvalue_any p v _ hP10).mono ?_
      rintro e w13 ⟨y, rfl, _, hy, hq⟩
      obtain rfl : y2 = y := hval.out.symm.trans (hy hhv.out).symm
      rw [hhv.out]
      clear hy
      replace hE := hE.later hq
      replace hP10 := hP10.later hq
      clear hq
      obtain ⟨w14, hw14, hW, hq⟩ := new_var w13 23 (incC inc0) (incC y2)
      have hgv : w13.heap.size ≠ p := by have := hP10.lt; omega
      replace hE := (hE.later hq).add hW
      replace hA := hA.add hgv 23 (incC y2)
      replace hP10 := hP10.later hq
      clear hq
      have gB := hE.get 2 rfl
      have gw' := hE.get 5 rfl
      have gv' := hE.get 6 rfl
      have rY := inc9_1 (hE.get 0 rfl)
      go_wp2_with (first
        | ((with_reducible refine at_all ?_); (refine alloc_inc0 (by rfl) rfl ?_; (try simp only [Act.put, List.setIfInBounds_toArray, List.set_cons_zero, List.set_cons_succ])))
        | ((with_reducible refine at_sto ?_); (refine store_inc y2 inc0 (by rfl) _ _ rfl w13.heap.size rfl rfl ?hg ?_; (case hg => exact Has.new _ _ _); rw [hw14]; (try simp only [Act.put, List.setIfInBounds_toArray, List.set_cons_zero, List.set_cons_succ])))
        | ((with_reducible refine at_gr 1 true ?_); first
          | ((with_reducible refine at_loa ?_); first
            | (refine load_inc y2 (by rfl) _ rfl w13.heap.size rfl ?hg ?_; (case hg => exact gv'); (try simp only [Act.put, List.setIfInBounds_toArray, List.set_cons_zero, List.set_cons_succ]))
            | (refine load_inc y2 (by rfl) _ rfl gw rfl ?hg ?_; (case hg => exact gw'); (try simp only [Act.put, List.setIfInBounds_toArray, List.set_cons_zero, List.set_cons_succ])))
          | ((with_reducible refine at_bin ?_); (refine bin_inc_same y2 hY2 (by rfl) _ _ _ rfl rfl rfl ?_; (try simp only [Act.put, List.setIfInBounds_toArray, List.set_cons_zero, List.set_cons_succ]))))
        | ((with_reducible refine at_gr 6 true ?_); first
          | ((with_reducible refine at_bld ?_); (refine build_bal1 3000 (by rfl) _ rfl rfl ?_; (try simp only [Act.put, List.setIfInBounds_toArray, List.set_cons_zero, List.set_cons_succ])))
          | ((with_reducible refine at_loa ?_); first
            | (refine load_bal tb (by rfl) _ rfl gb rfl ?hg ?_; (case hg => exact gB); (try simp only [Act.put, List.setIfInBounds_toArray, List.set_cons_zero, List.set_cons_succ]))
            | (refine wpList_load_mid' (by rfl) 23 _ rfl w.heap.size 3 rfl (incC y1).toList _ ?hg Try.underlying23 rfl (inc_size _) ?_; (case hg => exact rY); (try simp only [Act.put, List.setIfInBounds_toArray, List.set_cons_zero, List.set_cons_succ])))))
      clear hw14 hW gB gw' gv' rY
      generalize w13.heap.size = gv at *
      refine (ppromise_is p _ 0 tb ⟨3000, 0⟩ y1 true _ f3.out hP10 (by decide) tb_ok ⟨by decide, by decide⟩ hY1).mono ?_
      rintro e w15 ⟨rfl, hP15, hq⟩
      replace hE := hE.but hq hpw hA
      clear hq hP10
      have gB := hE.get 2 rfl
      go_wp2_with ((with_reducible refine at_gr 15 true ?_); (with_reducible refine at_loa ?_); (refine load_bal tb (by rfl) _ rfl gb rfl ?hg ?_; (case hg => exact gB); (try simp only [Act.put, List.setIfInBounds_toArray, List.set_cons_zero, List.set_cons_succ])))
      clear gB
      refine (paccepted_is p _ 1 tb _ f4.out hP15 (by decide) tb_ok).mono ?_
      rintro e w16 ⟨rfl, hP16, hq⟩
      replace hE := hE.but hq hpw hA
      clear hq hP15
      have gB := hE.get 2 rfl
      go_wp2_with ((with_reducible refine at_gr 21 true ?_); (with_reducible refine at_loa ?_); (refine load_bal tb (by rfl) _ rfl gb rfl ?hg ?_; (case hg => exact gB); (try simp only [Act.put, List.setIfInBounds_toArray, List.set_cons_zero, List.set_cons_succ])))
      clear gB
      refine (paccepted_is p _ 0 tb _ f5.out hP16 (by decide) tb_ok).mono ?_
      rintro e w17 ⟨rfl, hP17, hq⟩
      replace hE := hE.but hq hpw hA
      clear hq hP16
      have gB := hE.get 2 rfl
      go_wp2_with ((with_reducible refine at_gr 26 true ?_); (with_reducible refine at_loa ?_); (refine load_bal tb (by rfl) _ rfl gb rfl ?hg ?_; (case hg => exact gB); (try simp only [Act.put, List.setIfInBounds_toArray, List.set_cons_zero, List.set_cons_succ])))
      clear gB
      refine (paccepted_is p _ 2 tb _ f6.out hP17 (by decide) tb_ok).mono ?_
      rintro e w18 ⟨rfl, hP18, hq⟩
      replace hE := hE.but hq hpw hA
      go_wp2
      go_ret
      exact ⟨rfl, hE.below⟩
    | false =>
      replace hval := hval.out.trans ((if_neg (fun q => by cases q.1)).trans ((if_neg (by decide)).trans (if_neg (by decide))))
      replace hval : Hid _ := hval
      replace hE := (hE.later hq).add hW
      replace hA := hA.add hgw 23 (incC y0)
      replace hP10 := hP10.later hq
      go_wp2_with (first
        | ((with_reducible refine at_all ?_); (refine alloc_inc0 (by rfl) rfl ?_; (try simp only [Act.put, List.setIfInBounds_toArray, List.set_cons_zero, List.set_cons_succ])))
        | ((with_reducible refine at_sto ?_); first
          | (refine store_inc y0 inc0 (by rfl) _ _ rfl w10.heap.size rfl rfl ?hg ?_; (case hg => exact Has.new _ _ _); rw [hw11]; (try simp only [Act.put, List.setIfInBounds_toArray, List.set_cons_zero, List.set_cons_succ])))
        | ((with_reducible refine at_g0 ?_); (with_reducible refine at_loa ?_); first
          | (refine wpList_load_mid' (by rfl) 23 _ rfl w.heap.size 0 rfl (incC y0).toList _ ?hg Try.underlying23 rfl (inc_size _) ?_; (case hg => exact r0); (try simp only [Act.put, List.setIfInBounds_toArray, List.set_cons_zero, List.set_cons_succ]))))
      clear hw11 hW hq hE11 r0 r1 r2 zg zh zN zM
      generalize w10.heap.size = gw at *
      have w12 := w11
      refine (pvalue_any p v _ hP10).mono ?_
      rintro e w13 ⟨y, rfl, _, hy, hq⟩
      obtain rfl : y0 = y := hval.out.symm.trans (hy hhv.out).symm
      rw [hhv.out]
      clear hy
      replace hE := hE.later hq
      replace hP10 := hP10.later hq
      clear hq
      obtain ⟨w14, hw14, hW, hq⟩ := new_var w13 23 (incC inc0) (incC y0)
      have hgv : w13.heap.size ≠ p := by have := hP10.lt; omega
      replace hE := (hE.later hq).add hW
      replace hA := hA.add hgv 23 (incC y0)
      replace hP10 := hP10.later hq
      clear hq
      have gB := hE.get 2 rfl
      have gw' := hE.get 5 rfl
      have gv' := hE.get 6 rfl
      have rY := inc9_1 (hE.get 0 rfl)
      go_wp2_with (first
        | ((with_reducible refine at_all ?_); (refine alloc_inc0 (by rfl) rfl ?_; (try simp only [Act.put, List.setIfInBounds_toArray, List.set_cons_zero, List.set_cons_succ])))
        | ((with_reducible refine at_sto ?_); (refine store_inc y0 inc0 (by rfl) _ _ rfl w13.heap.size rfl rfl ?hg ?_; (case hg => exact Has.new _ _ _); rw [hw14]; (try simp only [Act.put, List.setIfInBounds_toArray, List.set_cons_zero, List.set_cons_succ])))
        | ((with_reducible refine at_gr 1 true ?_); first
          | ((with_reducible refine at_loa ?_); first
            | (refine load_inc y0 (by rfl) _ rfl w13.heap.size rfl ?hg ?_; (case hg => exact gv'); (try simp only [Act.put, List.setIfInBounds_toArray, List.set_cons_zero, List.set_cons_succ]))
            | (refine load_inc y0 (by rfl) _ rfl gw rfl ?hg ?_; (case hg => exact gw'); (try simp only [Act.put, List.setIfInBounds_toArray, List.set_cons_zero, List.set_cons_succ])))
          | ((with_reducible refine at_bin ?_); (refine bin_inc_same y0 hY0 (by rfl) _ _ _ rfl rfl rfl ?_; (try simp only [Act.put, List.setIfInBounds_toArray, List.set_cons_zero, List.set_cons_succ]))))
        | ((with_reducible refine at_gr 6 true ?_); first
          | ((with_reducible refine at_bld ?_); (refine build_bal1 3000 (by rfl) _ rfl rfl ?_; (try simp only [Act.put, List.setIfInBounds_toArray, List.set_cons_zero, List.set_cons_succ])))
          | ((with_reducible refine at_loa ?_); first
            | (refine load_bal tb (by rfl) _ rfl gb rfl ?hg ?_; (case hg => exact gB); (try simp only [Act.put, List.setIfInBounds_toArray, List.set_cons_zero, List.set_cons_succ]))
            | (refine wpList_load_mid' (by rfl) 23 _ rfl w.heap.size 3 rfl (incC y1).toList _ ?hg Try.underlying23 rfl (inc_size _) ?_; (case hg => exact rY); (try simp only [Act.put, List.setIfInBounds_toArray, List.set_cons_zero, List.set_cons_succ])))))
      clear hw14 hW gB gw' gv' rY
      generalize w13.heap.size = gv at *
      refine (ppromise_is p _ 0 tb ⟨3000, 0⟩ y1 true _ f3.out hP10 (by decide) tb_ok ⟨by decide, by decide⟩ hY1).mono ?_
      rintro e w15 ⟨rfl, hP15, hq⟩
      replace hE := hE.but hq hpw hA
      clear hq hP10
      have gB := hE.get 2 rfl
      go_wp2_with ((with_reducible refine at_gr 15 true ?_); (with_reducible refine at_loa ?_); (refine load_bal tb (by rfl) _ rfl gb rfl ?hg ?_; (case hg => exact gB); (try simp only [Act.put, List.setIfInBounds_toArray, List.set_cons_zero, List.set_cons_succ])))
      clear gB
      refine (paccepted_is p _ 1 tb _ f4.out hP15 (by decide) tb_ok).mono ?_
      rintro e w16 ⟨rfl, hP16, hq⟩
      replace hE := hE.but hq hpw hA
      clear hq hP15
      have gB := hE.get 2 rfl
      go_wp2_with ((with_reducible refine at_gr 21 true ?_); (with_reducible refine at_loa ?_); (refine load_bal tb (by rfl) _ rfl gb rfl ?hg ?_; (case hg => exact gB); (try simp only [Act.put, List.setIfInBounds_toArray, List.set_cons_zero, List.set_cons_succ])))
      clear gB
      refine (paccepted_is p _ 0 tb _ f5.out hP16 (by decide) tb_ok).mono ?_
      rintro e w17 ⟨rfl, hP17, hq⟩
      replace hE := hE.but hq hpw hA
      clear hq hP16
      have gB := hE.get 2 rfl
      go_wp2_with ((with_reducible refine at_gr 26 true ?_); (with_reducible refine at_loa ?_); (refine load_bal tb (by rfl) _ rfl gb rfl ?hg ?_; (case hg => exact gB); (try simp only [Act.put, List.setIfInBounds_toArray, List.set_cons_zero, List.set_cons_succ])))
      clear gB
      refine (paccepted_is p _ 2 tb _ f6.out hP17 (by decide) tb_ok).mono ?_
      rintro e w18 ⟨rfl, hP18, hq⟩
      replace hE := hE.but hq hpw hA
      go_wp2
      go_ret
      exact ⟨rfl, hE.below⟩
end Go.Proofs.Ythpmkhbkbpifkaa
