/- paddocklaw11.SynodHears returns true, for whatever bytes and ballot. -/
import Derived.Test.YthpmkhbkbpifkaaSynUse
import Derived.Test.YthpmkhbkbpifkaaBalOpen
import Derived.Test.YthpmkhbkbpifkaaPackTools
namespace Go.Proofs.Ythpmkhbkbpifkaa
set_option linter.unusedSimpArgs false
set_option linter.unusedVariables false
set_option maxRecDepth 100000
open Go.RowKit

def hv0 : ProV := startM (newM 1 ⟨4, 0, 0⟩) bal0
def hb1 : BalV := ⟨1, 1⟩
def hv1 (f : Nat) : ProV := hearM hv0 f bal0 inc0 false
theorem hv_b : hv0.b = hb1 := rfl
theorem hb1_ok : BalOk hb1 := ⟨by decide, by decide⟩
theorem h_first {f : Nat} (hf : f < 3) : promM hv0 f hb1 bal0 inc0 false = (hv1 f, false) := by
  have hd : deaf hv0 f hb1 = false := by
    match f, hf with
    | 0, _ => decide +kernel
    | 1, _ => decide +kernel
    | 2, _ => decide +kernel
  have hc : cnt (setB hv0.heard f) < 2 := by
    match f, hf with
    | 0, _ => decide +kernel
    | 1, _ => decide +kernel
    | 2, _ => decide +kernel
  unfold promM
  rw [if_neg (by rw [hd]; decide), if_pos hc]
  rfl
theorem h_deaf {v : ProV} {j : Nat} {b acc : BalV} {x : IncV} {g : Bool} (h : deaf v j b = true) : promM v j b acc x g = (v, false) := by
  unfold promM
  rw [if_pos h]
theorem h_more {f : Nat} : promM (hv1 f) f hb1 bal0 inc0 false = (hv1 f, false) := by
  refine h_deaf ?_
  unfold deaf
  have : (hv1 f).heard f = true := setB_at _ _
  rw [this]
  simp
theorem h_other {v : ProV} {g : Nat} {o : BalV} (hv : v.b = hb1) (ho : sameBal o hb1 = false) : promM v g o bal0 inc0 false = (v, false) := by
  refine h_deaf ?_
  unfold deaf
  rw [hv, ho]
  simp
theorem h_far {v : ProV} {g : Nat} (hg : 3 ≤ g) : promM v g hb1 bal0 inc0 false = (v, false) := by
  refine h_deaf ?_
  unfold deaf
  rw [decide_eq_true hg]
  simp
theorem h_acc {f g : Nat} : accdM (hv1 f) g hb1 = (hv1 f, false) := by
  have hd : deafA (hv1 f) g hb1 = true := by
    unfold deafA
    have : (hv1 f).hasV = false := rfl
    rw [this]
    simp
  unfold accdM
  rw [if_pos hd]
theorem h_last {f g : Nat} (hf : f < 3) (hg : (f + 1) % 3 = g) : (promM (hv1 f) g hb1 bal0 inc0 false).2 = true := by
  subst hg
  match f, hf with
  | 0, _ => decide +kernel
  | 1, _ => decide +kernel
  | 2, _ => decide +kernel

theorem bin_bal_neR {ops : Array Oper} {rest : List Oper} {o : Oper} {a : Act} {w : World} {Q : Exit → Act → World → Prop} (b c : BalV) (r : Bool) (hr : (!sameBal b c) = r) (hb : BalOk b) (hc : BalOk c) (hw : Region.wanted o (yielded ops a.tmps) = true) (x y : Operand) (ty' : TypeId) (ho : o.op = .binOp .neq 31 x y ty') (hx : a.eval x = .agg (balC b)) (hy : a.eval y = .agg (balC c))
    (h : wpList Try.prog ops Q rest (a.put o.dst (.bool r)) w) : wpList Try.prog ops Q (o :: rest) a w := by
  subst hr
  exact bin_bal_ne b c hb hc hw x y ty' ho hx hy h

/-- Behind n rounds. -/
def hvN (f n : Nat) : ProV := if n = 0 then hv0 else hv1 f
theorem hvN_b (f n : Nat) : (hvN f n).b = hb1 := by
  unfold hvN
  split <;> rfl
theorem hvN_step {f : Nat} (hf : f < 3) (n : Nat) : promM (hvN f n) f hb1 bal0 inc0 false = (hvN f (n + 1), false) := by
  have e : hvN f (n + 1) = hv1 f := if_neg (by omega)
  rw [e]
  unfold hvN
  split
  · exact h_first hf
  · exact h_more

set_option maxHeartbeats 8000000 in
theorem hears_walk (t k : Nat) (o : BalV) (w : World) (ht : t < 256) (hk : k < 256) (ho : BalOk o) :
    Calls Try.prog 7 #[.int .u8 (t : Int), .int .u8 (k : Int), .agg (balC o)] w fun e w' => e = .returned (.bool true) ∧ Below w.heap.size w w' := by
  obtain ⟨w1, hw1, hO, hbw⟩ := one_var w 31 (balC o)
  obtain ⟨f, hf⟩ : ∃ f, k % 3 = f := ⟨_, rfl⟩
  have hf3 : f < 3 := by omega
  obtain ⟨T, hT⟩ : ∃ T, t % 10 = T := ⟨_, rfl⟩
  have hT10 : T < 10 := by omega
  obtain ⟨f1, hf1⟩ : ∃ q, f + 1 = q := ⟨_, rfl⟩
  obtain ⟨g, hg⟩ : ∃ q, f1 % 3 = q := ⟨_, rfl⟩
  obtain ⟨f3, hf3'⟩ : ∃ q, 3 + f = q := ⟨_, rfl⟩
  have hf1b : f1 < 256 := by omega
  have hgb : g < 256 := by omega
  have hf3b : f3 < 256 := by omega
  have hfb : f < 256 := by omega
  have hT256 : T < 256 := by omega
  have hlast : (promM (hv1 f) g hb1 bal0 inc0 false).2 = true := h_last hf3 (by rw [hf1]; exact hg)
  have hfar : ∀ v, promM v f3 hb1 bal0 inc0 false = (v, false) := fun v => h_far (by omega)
  have hgI : Hid (((f : Int) + 1) % 3 = ((g : Nat) : Int)) := by show _ = _; omega
  have hf3I : Hid ((3 : Int) + (f : Int) = ((f3 : Nat) : Int)) := by show _ = _; omega
  replace hf : Hid _ := hf
  replace hT : Hid _ := hT
  replace hf1 : Hid _ := hf1
  replace hg : Hid _ := hg
  replace hf3' : Hid _ := hf3'
  replace hlast : Hid _ := hlast
  replace hfar : Hid _ := hfar
  go_enter Try.func7, Try.ntmps7
  go_wp2_with fail
  refine (known_any _).mono ?_
  rintro e w2 ⟨rfl, hq⟩
  replace hO := hO.later hq
  replace hbw := hbw.trans (hq.mono hbw.size)
  clear hq hw1
  go_wp2_with (first
    | (refine wpList_build_one (by rfl) 23 0 _ rfl _ rfl (incC ⟨4, 0, 0⟩) (inc_k1 4) ?_))
  refine (pnew_any 1 ⟨4, 0, 0⟩ _ (by decide) i400_ok).mono ?_
  rintro e w3 ⟨p, rfl, hp, hP, hq⟩
  have hOp : w.heap.size ≠ p := by have := hO.lt; omega
  replace hO := hO.later hq
  replace hp : w.heap.size ≤ p := Nat.le_trans hbw.size hp
  replace hbw := hbw.trans (hq.mono hbw.size)
  clear hq
  go_wp2_with (first
    | (refine build_bal0 (by rfl) rfl ?_))
  refine (pstart_any p _ bal0 _ hP bal0_ok).mono ?_
  rw [show startM (newM 1 ⟨4, 0, 0⟩) bal0 = hv0 from rfl, hv_b]
  rintro e w4 ⟨rfl, hP4, hq⟩
  replace hO := hq.has hO hOp
  replace hbw := hbw.trans (hq.below hp hbw.size)
  clear hq hP
  obtain ⟨w5, hw5, hB, hq⟩ := new_var w4 31 (balC bal0) (balC hb1)
  have hBp : w4.heap.size ≠ p := by have := hP4.lt; omega
  replace hO := hO.later hq
  replace hP4 := hP4.later hq
  replace hbw := hbw.trans (hq.mono hbw.size)
  clear hq
  go_wp2_with (first
    | (refine alloc_bal (by rfl) rfl ?_)
    | (refine store_bal hb1 bal0 (by rfl) _ _ rfl w4.heap.size rfl rfl ?hg ?_; (case hg => exact Has.new _ _ _); rw [hw5])
    | (refine wpList_val (.int .u8 (f : Int)) (by rfl) (run_rem_u8 _ _ _ _ rfl k 3 f rfl rfl hk (by decide) hf.out) ?_))
  clear hw5
  generalize w4.heap.size = gb at *
  go_loopw [10] (fun i wr => ∃ n : Nat, n ≤ T + 1 ∧ i = .int .i64 n ∧ Pro wr p (hvN f n) ∧ Has wr gb 31 (balC hb1) ∧ Has wr w.heap.size 31 (balC o) ∧ Below w.heap.size w wr) (fun i _ => T + 1 - (intOf i).toNat)
  case atStart => exact ⟨0, by omega, rfl, hP4, hB, hO, hbw⟩
  case round =>
    clear hP4 hB hO hbw
    obtain ⟨n, hn, rfl, hP, hB, hO, hbw⟩ := hrel
    by_cases hlt : n ≤ T
    · have hltI : (n : Int) ≤ (T : Int) := by omega
      have hst := hvN_step hf3 n
      have hnb := hvN_b f (n + 1)
      go_wp2_with (first
        | (refine wpList_val (.int .u8 (T : Int)) (by rfl) (run_rem_u8 _ _ _ _ rfl t 10 T rfl rfl ht (by decide) hT.out) ?_)
        | (refine load_bal hb1 (by rfl) _ rfl gb rfl ?hg ?_; (case hg => exact hB))
        | (refine build_bal0 (by rfl) rfl ?_)
        | (refine build_inc0 (by rfl) rfl ?_))
      refine (ppromise_is p _ f hb1 bal0 inc0 false _ hst hP hfb hb1_ok bal0_ok inc0_ok).mono ?_
      rintro e w6 ⟨rfl, hP6, hq⟩
      replace hB := hq.has hB hBp
      replace hO := hq.has hO hOp
      replace hbw := hbw.trans (hq.below hp hbw.size)
      clear hq hP hst
      cases hsm : sameBal o hb1 with
      | true =>
        have hsn : Hid ((!sameBal o hb1) = false) := by show _ = _; rw [hsm]; rfl
        clear hsm
        go_wp2_with (first
          | ((with_reducible refine at_gr 6 false ?_); first | (refine load_bal o (by rfl) _ rfl w.heap.size rfl ?hg ?_; (case hg => exact hO)) | (refine load_bal hb1 (by rfl) _ rfl gb rfl ?hg ?_; (case hg => exact hB)) | (refine bin_bal_neR o hb1 false ?hr ho hb1_ok (by rfl) _ _ _ rfl rfl rfl ?_; (case hr => exact hsn.out)))
          | ((with_reducible refine at_gr 21 false ?_); first | (refine load_bal hb1 (by rfl) _ rfl gb rfl ?hg ?_; (case hg => exact hB))))
        rw [hf3I.out]
        refine (ppromise_is p _ f3 hb1 bal0 inc0 false _ (hfar.out _) hP6 hf3b hb1_ok bal0_ok inc0_ok).mono ?_
        rintro e w8 ⟨rfl, hP8, hq⟩
        replace hB := hq.has hB hBp
        replace hO := hq.has hO hOp
        replace hbw := hbw.trans (hq.below hp hbw.size)
        clear hq hP6
        go_wp2
        go_roundw
        case rel => exact ⟨n + 1, by omega, by go_num, hP8, hB, hO, hbw⟩
        case measure => simp [intOf]; omega
      | false =>
        have ho2 := fun (v : ProV) (hv : v.b = hb1) => h_other (g := g) hv hsm
        replace ho2 : Hid _ := ho2
        have hsn : Hid ((!sameBal o hb1) = true) := by show _ = _; rw [hsm]; rfl
        clear hsm
        go_wp2_with (first
          | ((with_reducible refine at_gr 6 false ?_); first | (refine load_bal o (by rfl) _ rfl w.heap.size rfl ?hg ?_; (case hg => exact hO)) | (refine load_bal hb1 (by rfl) _ rfl gb rfl ?hg ?_; (case hg => exact hB)) | (refine bin_bal_neR o hb1 true ?hr ho hb1_ok (by rfl) _ _ _ rfl rfl rfl ?_; (case hr => exact hsn.out)))
          | ((with_reducible refine at_gr 10 true ?_); first | (refine load_bal o (by rfl) _ rfl w.heap.size rfl ?hg ?_; (case hg => exact hO))))
        rw [hgI.out]
        refine (ppromise_is p _ g o bal0 inc0 false _ (ho2.out _ hnb) hP6 hgb ho bal0_ok inc0_ok).mono ?_
        rintro e w7 ⟨rfl, hP7, hq⟩
        replace hB := hq.has hB hBp
        replace hO := hq.has hO hOp
        replace hbw := hbw.trans (hq.below hp hbw.size)
        replace hP6 := hP7
        clear hq hP7 ho2
        go_wp2_with (first
          | ((with_reducible refine at_gr 21 false ?_); first | (refine load_bal hb1 (by rfl) _ rfl gb rfl ?hg ?_; (case hg => exact hB))))
        rw [hf3I.out]
        refine (ppromise_is p _ f3 hb1 bal0 inc0 false _ (hfar.out _) hP6 hf3b hb1_ok bal0_ok inc0_ok).mono ?_
        rintro e w8 ⟨rfl, hP8, hq⟩
        replace hB := hq.has hB hBp
        replace hO := hq.has hO hOp
        replace hbw := hbw.trans (hq.below hp hbw.size)
        clear hq hP6
        go_wp2
        go_roundw
        case rel => exact ⟨n + 1, by omega, by go_num, hP8, hB, hO, hbw⟩
        case measure => simp [intOf]; omega
    · have hltI : ¬ (n : Int) ≤ (T : Int) := by omega
      have hltI2 : (T : Int) < (n : Int) := by omega
      have hv : hvN f n = hv1 f := if_neg (by omega)
      rw [hv] at hP
      clear hv
      go_wp2_with (first
        | (refine wpList_val (.int .u8 (T : Int)) (by rfl) (run_rem_u8 _ _ _ _ rfl t 10 T rfl rfl ht (by decide) hT.out) ?_))
      refine (pvalue_any p _ _ hP).mono ?_
      rintro e w6 ⟨y, rfl, _, _, hq⟩
      rw [show (hv1 f).hasV = false from rfl]
      replace hP := hP.later hq
      replace hB := hB.later hq
      replace hbw := hbw.trans (hq.mono hbw.size)
      clear hq
      obtain ⟨w7, hw7, hY, hq⟩ := new_var w6 23 (incC inc0) (incC y)
      replace hP := hP.later hq
      replace hB := hB.later hq
      replace hbw := hbw.trans (hq.mono hbw.size)
      clear hq
      go_wp2_with (first
        | (refine alloc_inc0 (by rfl) rfl ?_)
        | (refine store_inc y inc0 (by rfl) _ _ rfl w6.heap.size rfl rfl ?hg ?_; (case hg => exact Has.new _ _ _); rw [hw7]))
      clear hw7 hY
      refine (pdecided_any p _ _ hP).mono ?_
      rintro e w8 ⟨z, rfl, _, _, hq⟩
      rw [show (hv1 f).hasD = false from rfl]
      replace hP := hP.later hq
      replace hB := hB.later hq
      replace hbw := hbw.trans (hq.mono hbw.size)
      clear hq
      obtain ⟨w9, hw9, hY, hq⟩ := new_var w8 23 (incC inc0) (incC z)
      replace hP := hP.later hq
      replace hB := hB.later hq
      replace hbw := hbw.trans (hq.mono hbw.size)
      clear hq
      go_wp2_with (first
        | ((with_reducible refine at_g0 ?_); first | (refine alloc_inc0 (by rfl) rfl ?_) | (refine store_inc z inc0 (by rfl) _ _ rfl w8.heap.size rfl rfl ?hg ?_; (case hg => exact Has.new _ _ _); rw [hw9]))
        | ((with_reducible refine at_gr 6 true ?_); first | (refine load_bal hb1 (by rfl) _ rfl gb rfl ?hg ?_; (case hg => exact hB))))
      clear hw9 hY
      refine (paccepted_is p _ f hb1 _ h_acc hP hfb hb1_ok).mono ?_
      rintro e w10 ⟨rfl, hP10, hq⟩
      replace hB := hq.has hB hBp
      replace hbw := hbw.trans (hq.below hp hbw.size)
      clear hq hP
      go_wp2_with (first
        | ((with_reducible refine at_gr 13 true ?_); first | (refine load_bal hb1 (by rfl) _ rfl gb rfl ?hg ?_; (case hg => exact hB))))
      rw [hgI.out]
      refine (ppromise_any p _ g hb1 bal0 inc0 false _ hP10 hgb hb1_ok bal0_ok inc0_ok).mono ?_
      rw [hlast.out]
      rintro e w11 ⟨rfl, hP11, hq⟩
      replace hbw := hbw.trans (hq.below hp hbw.size)
      clear hq
      go_wp2
      go_ret
      exact ⟨rfl, hbw⟩
end Go.Proofs.Ythpmkhbkbpifkaa
