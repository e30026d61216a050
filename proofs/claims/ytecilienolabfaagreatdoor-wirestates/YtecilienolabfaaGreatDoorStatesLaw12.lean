/- A state's bytes are the document's, and are read back: WireStates. -/
import Derived.Test.YtecilienolabfaaGreatDoorWireKnown
import Derived.Test.YtecilienolabfaaGreatDoorWireGets
import Derived.Test.YtecilienolabfaaGreatDoorRefAll
import Derived.Test.YtecilienolabfaaGreatDoorRefSame
import Derived.Test.YtecilienolabfaaGreatDoorOpenBytes
import Derived.Test.YtecilienolabfaaGreatDoorWireFew
import Derived.Test.YtecilienolabfaaGreatDoorBytesOwn
import Derived.Test.YtecilienolabfaaGreatDoorRef2
namespace Go.Proofs.YtecilienolabfaaGreatDoor
set_option linter.unusedSimpArgs false
set_option linter.unusedVariables false
set_option maxRecDepth 100000
open Go.RowKit

theorem getSt_back {x : StV} (ho : StOk x) (h : isSt x = true) (r : List UInt8) : getStM (statB x ++ r) = (x, r, 0) := by
  refine getSt_ok ?_
  unfold readStM
  rw [stat_get st0 (isSt_G h ho) r]
  show (if isSt x = true then _ else _) = _
  rw [if_pos h]
theorem st_data0 {w : World} {g : Nat} {s : StV} {ao : Option Addr} {c : Nat} (h : Has w g 44 (stC s ao c)) : w.cell? ⟨g, 2, none⟩ = some (.string (mkS (s.base.obj 0).data)) := by
  rw [h.cell 2]
  unfold stC
  rw [List.getElem?_toArray]
  exact st_data_at s ao c 0
theorem Has.under {a b : World} {B g : Nat} {t : TypeId} {c : Array Value} (h : Has a g t c) (k : Below B a b) (hg : g < B) : Has b g t c := by
  unfold Has at *
  rw [k.block g hg]
  exact h
theorem By.under {a b : World} {B : Nat} {ao : Option Addr} {c : Nat} {xs : List UInt8} (h : By a ao c xs) (k : Below B a b) (hg : ∀ ad, ao = some ad → ad.block < B) : By b ao c xs := by
  refine ⟨h.le, h.cap, h.nil, fun ad had j u hu => ?_⟩
  have e : (ad.add j).block = ad.block := by unfold Addr.add; split <;> rfl
  rw [World.cell?_of_block (w := a) (by rw [e]; exact k.block _ (hg ad had))]
  exact h.at' ad had j u hu
theorem wpList_appBO (w : World) {ops : Array Oper} {rest : List Oper} {o : Oper} {a : Act} {Q : Exit → Act → World → Prop} (hgd : o.guard = none) (s x : Operand)
    (ho : o.op = Op.call { callee := Callee.builtin Builtin.append, args := #[s, x], argTypes := #[51, 51] })
    (base : Nat) (v : Value) (n : Nat) (xs : List UInt8) (hs : a.eval s = v) (ao : Option Addr) (k c : Nat) (ys : List UInt8) (hx : a.eval x = .slice ao k c) (hv : w.ownsRow base 5 1 v n (Bs xs)) (h : By w ao c ys) (hk : k = ys.length) (hl : n + k ≤ 1000000000) (hbase : base ≤ w.heap.size)
    (hK : ∀ ao' c' w', w'.ownsRow base 5 1 (.slice ao' (n + k) c') (n + k) (Bs (xs ++ ys)) → By w' ao' c' (xs ++ ys) → Below base w w' → wpList Tryz.prog ops Q rest (a.put o.dst (.slice ao' (n + k) c')) w') :
    wpList Tryz.prog ops Q (o :: rest) a w := by
  cases ao with
  | some ad => exact wpList_appB w hgd s x ho base v n xs hs ad k c ys hx hv h hk hl hbase hK
  | none =>
    have hc := h.nil rfl
    have hle := h.le
    have hy : ys = [] := List.eq_nil_of_length_eq_zero (by omega)
    subst hy hc
    have hk0 : k = 0 := hk
    subst hk0
    obtain ⟨i0, hi, hz0, hz1, hz2⟩ := info_parts Tryz.infoByte
    obtain ⟨_, ao', c', rfl, hB⟩ := own_by hv
    have hr := run_append_owned_none (P := Tryz.prog) (w := w) base 51 o.type 5 i0 1 Tryz.underlying51 hi _ n (Bs xs) hv
    refine wpList_plain hgd fun K hK' => ?_
    have hfin := hK ao' c' w (by rw [List.append_nil]; exact hv) (by rw [List.append_nil]; exact hB) (Below.refl _ _)
    unfold Oper.wp
    simp [execOp, ho, resolve, invoke, builtin, hs, hx, hr, Result.andThen]
    exact hK' _ _ hfin
theorem st0_ok12 : StOk st0 := ⟨by show 0 < _; decide, base0_ok.in', ⟨by show 0 < _; decide, by show 0 < _; decide, op0_ok⟩, (fun e he => by cases he), by show 0 ≤ _; decide⟩
theorem readSt_ok {b : List UInt8} {z : StV × List UInt8} (h : readStM b = .ok z) : StOk z.1 := by
  unfold readStM at h
  cases hs : statM GetC st0 b with
  | error n => rw [hs] at h; cases h
  | ok y =>
    obtain ⟨y1, y2⟩ := y
    rw [hs] at h
    replace h : (if isSt y1 = true then Except.ok (y1, y2) else Except.error 10) = Except.ok z := h
    split at h
    · injection h with h
      rw [← h]
      exact (stat_was hs).1.ok
    · cases h
theorem one_own7 (w : World) : (w.alloc (.cells #[.int .u8 7] 5)).ownsRow w.heap.size 5 1 (.slice (some ⟨w.heap.size, 0, none⟩) 1 1) ([UInt8.ofNat 7] : List UInt8).length (Bs [UInt8.ofNat 7]) := by
  refine ⟨rfl, .inr ⟨w.heap.size, 1, #[.int .u8 7], rfl, Nat.le_refl _, Has.new w 5 #[.int .u8 7], ?_⟩⟩
  refine ⟨by decide, by decide, rfl, ?_⟩
  rfl
set_option maxHeartbeats 40000000 in
theorem states_walk (s : StV) (a1 a2 a3 : Option Addr) (c1 c2 c3 : Nat) (mo ra : List UInt8) (w : World) (hs0 : StIn s) (s1 : Sl w a1 c1 8 (entR s.log)) (b2 : By w a2 c2 mo) (b3 : By w a3 c3 ra) (t3 : ∀ ad, a3 = some ad → ad.block < w.heap.size) (hL : Laid w) :
    Calls Tryz.prog 6 #[.agg (stC s a1 c1), .slice a2 mo.length c2, .slice a3 ra.length c3] w fun e w' => e = .returned (.bool true) ∧ Below w.heap.size w w' := by
  obtain ⟨w1, hw1, hX, hb1⟩ := one_var w 44 (stC s a1 c1)
  have hk := wknown_any w1 (hL.next hb1)
  replace hk : Hid _ := hk
  have hle2 := b2.le
  have hcap2 := b2.cap
  have hle3 := b3.le
  have hcap3 := b3.cap
  obtain ⟨lm, hlm⟩ : ∃ n, mo.length = n := ⟨_, rfl⟩
  obtain ⟨lr, hlr⟩ : ∃ n, ra.length = n := ⟨_, rfl⟩
  rw [hlm] at hle2 ⊢
  rw [hlr] at hle3 ⊢
  replace hlm : Hid _ := hlm
  replace hlr : Hid _ := hlr
  go_enter Tryz.func6, Tryz.ntmps6
  go_wp2_with fail
  refine Calls.mono hk.out ?_
  rintro e w2 ⟨rfl, hq⟩
  clear hk hw1
  replace hX := hX.later hq
  have hb2 := hb1.trans (hq.mono hb1.size)
  clear hq hb1
  have hlog := hX.st_log
  have hdat := st_data0 hX
  have hds := mkS_size (s.base.obj 0).data
  obtain ⟨ll, hll⟩ : ∃ n, s.log.length = n := ⟨_, rfl⟩
  rw [hll] at hlog
  replace hll : Hid _ := hll
  obtain ⟨ds, hds'⟩ : ∃ n, (mkS (s.base.obj 0).data).size = n := ⟨_, rfl⟩
  clear hds
  by_cases k1 : 12 < ll
  · have k1I : (12 : Int) < (ll : Int) := by omega
    clear hX
    go_wp2
    go_ret
    exact ⟨rfl, hb2⟩
  have n1 : ¬ (12 : Int) < (ll : Int) := by omega
  by_cases k2 : 200 < lm
  · have k2I : (200 : Int) < (lm : Int) := by omega
    clear hX
    go_wp2
    go_ret
    exact ⟨rfl, hb2⟩
  have n2 : ¬ (200 : Int) < (lm : Int) := by omega
  by_cases k3 : 1500 < lr
  · have k3I : (1500 : Int) < (lr : Int) := by omega
    clear hX
    go_wp2
    go_ret
    exact ⟨rfl, hb2⟩
  have n3 : ¬ (1500 : Int) < (lr : Int) := by omega
  by_cases k4 : 300 < ds
  · have k4I : (300 : Int) < (((mkS (s.base.obj 0).data).size : Nat) : Int) := by rw [hds']; omega
    clear hX
    go_wp2
    go_ret
    exact ⟨rfl, hb2⟩
  have n4 : ¬ (300 : Int) < (((mkS (s.base.obj 0).data).size : Nat) : Int) := by rw [hds']; omega
  have hs : StOk s := hs0.ok (by rw [hll.out]; omega)
  have hBb := byteB w2 7 (by decide)
  have hq : Below w2.heap.size w2 (w2.alloc (.cells #[.int .u8 7] 5)) := (Below.refl _ _).alloc (Nat.le_refl _) _
  obtain ⟨w3, hw3⟩ : ∃ W, w2.alloc (.cells #[.int .u8 ((7 : Nat) : Int)] 5) = W := ⟨_, rfl⟩
  have hw3' : w2.alloc (.cells #[.int .u8 7] 5) = w3 := hw3
  rw [hw3] at hBb
  rw [hw3'] at hq
  replace hX := hX.later hq
  have hb3 := hb2.trans (hq.mono hb2.size)
  have hput := wputst_any (some ⟨w2.heap.size, 0, none⟩) 1 [UInt8.ofNat 7] s a1 c1 w3 hBb (by decide) (s1.later hb3) hs
  replace hput : Hid _ := hput
  clear hw3 hq hBb hb2
  go_wp2_with (first
    | (refine wpList_load_has (by rfl) 44 _ rfl w.heap.size rfl 44 (stC s a1 c1) _ Tryz.underlying44 rfl (st_size _ _ _) ?hg ?_; (case hg => exact hX))
    | fail)
  clear hw3' hlog hdat
  refine Calls.mono hput.out ?_
  rintro e w4 ⟨v4, rfl, hO4, hq⟩
  clear hput
  replace hX := hX.later hq
  have hb4 := hb3.trans (hq.mono hb3.size)
  clear hq hb3
  obtain ⟨A4, C4, rfl, hB4⟩ := hO4.slice
  have hf4 := own_far hO4.1 rfl
  clear hO4
  obtain ⟨P, hP⟩ : ∃ l, putStM [UInt8.ofNat 7] s = l := ⟨_, rfl⟩
  rw [hP] at hB4
  rw [hP]
  have hP' : Hid _ := hP
  have hBb := byteB w4 7 (by decide)
  have hq : Below w4.heap.size w4 (w4.alloc (.cells #[.int .u8 7] 5)) := (Below.refl _ _).alloc (Nat.le_refl _) _
  have ho5 := one_own7 w4
  obtain ⟨w5, hw5⟩ : ∃ W, w4.alloc (.cells #[.int .u8 7] 5) = W := ⟨_, rfl⟩
  rw [hw5] at hq ho5
  replace hX := hX.later hq
  replace hB4 := hB4.later hq
  have hb5 := hb4.trans (hq.mono hb4.size)
  have hs5 : w.heap.size ≤ w4.heap.size := hb4.size
  have hput := rputst_any w4.heap.size (.slice (some ⟨w4.heap.size, 0, none⟩) 1 1) [UInt8.ofNat 7] s a1 c1 w5 ⟨ho5, hq.size, by decide⟩ (fun W hW => s1.later (hb5.trans (hW.below.mono hs5))) hs (by decide)
  have hPp : [UInt8.ofNat 7] ++ (if isSt s = true then statB s else []) = P := by
    rw [← hP]
    unfold putStM
    split
    · rfl
    · rfl
  replace hput : Hid _ := hput
  replace hf4 : ∀ ad, A4 = some ad → ad.block < w4.heap.size := fun ad had => (hf4 ad had).2
  clear hBb hq hb4 ho5 hP
  go_wp2_with (first
    | (refine wpList_load_has (by rfl) 44 _ rfl w.heap.size rfl 44 (stC s a1 c1) _ Tryz.underlying44 rfl (st_size _ _ _) ?hg ?_; (case hg => exact hX))
    | fail)
  clear hw5
  refine Calls.mono hput.out ?_
  rintro e w6 ⟨v6, rfl, hO6, hq⟩
  clear hput
  rw [hPp] at hO6
  clear hPp
  have hb6 : Below w.heap.size w w6 := hb5.trans (hq.below.mono hs5)
  replace hX := hq.keep _ _ _ hX (by decide)
  replace hB4 := hB4.under hq.below hf4
  obtain ⟨A6, C6, rfl, hB6⟩ := hO6.slice
  clear hq hb5 hf4 hO6 hs5
  obtain ⟨lp, hlp⟩ : ∃ n, P.length = n := ⟨_, rfl⟩
  have hle4 := hB4.le
  have hcap4 := hB4.cap
  have hle6 := hB6.le
  have hcap6 := hB6.cap
  rw [hlp] at hle4 hle6
  rw [hlp]
  replace hlp : Hid _ := hlp
  have hBr := b3.later hb6
  go_wp2_with (first
    | (refine wpList_copy _ rfl _ _ rfl w6.heap.size a3 lr c3 ra rfl rfl hBr hlr.out.symm (by omega) (Nat.le_refl _) ?_)
    | fail)
  intro A7 C7 w7 ho7 hB7 hq
  have hfar7 := own_far ho7 rfl
  replace hX := hX.later hq
  replace hB4 := hB4.later hq
  replace hB6 := hB6.later hq
  have hb7 := hb6.trans (hq.mono hb6.size)
  clear hq hb6 hBr ho7
  have hget := wgetst_any A7 C7 ra w7 hB7 (fun ad had => (hfar7 ad had).2) (by have := hlr.out; omega) (hL.next hb7)
  rw [hlr.out] at hget
  replace hget : Hid _ := hget
  clear hB7 hfar7
  go_wp2_with fail
  refine Calls.mono hget.out ?_
  rintro e w8 ⟨hq, go, gc, v8, rfl, hS8, hO8⟩
  clear hget
  replace hX := hX.later hq
  replace hB4 := hB4.later hq
  replace hB6 := hB6.later hq
  have hb8 := hb7.trans (hq.mono hb7.size)
  clear hq hb7
  obtain ⟨A8, C8, rfl, hB8⟩ := hO8.slice
  clear hO8
  obtain ⟨x, hx⟩ : ∃ x, (getStM ra).1 = x := ⟨_, rfl⟩
  obtain ⟨rr, hrr⟩ : ∃ x, (getStM ra).2.1 = x := ⟨_, rfl⟩
  obtain ⟨ke, hke⟩ : ∃ x, (getStM ra).2.2 = x := ⟨_, rfl⟩
  rw [hx] at hS8
  rw [hrr] at hB8
  rw [hx, hrr, hke]
  obtain ⟨l8, hl8⟩ : ∃ n, rr.length = n := ⟨_, rfl⟩
  have hle8 := hB8.le
  have hcap8 := hB8.cap
  rw [hl8] at hle8
  rw [hl8]
  obtain ⟨w9, hw9, hV, hq⟩ := new_var w8 44 (stC st0 none 0) (stC x go gc)
  replace hX := hX.later hq
  replace hB4 := hB4.later hq
  replace hB6 := hB6.later hq
  replace hB8 := hB8.later hq
  replace hS8 : Sl w9 go gc 8 (entR x.log) := hS8.later hq
  have hb9 := hb8.trans (hq.mono hb8.size)
  clear hq hb8
  have hrg := rgetst_any a3 c3 ra w9 (b3.later hb9) (fun ad had => Nat.lt_of_lt_of_le (t3 ad had) hb9.size) (by have := hlr.out; omega)
  rw [hlr.out] at hrg
  replace hrg : Hid _ := hrg
  go_wp2_with (first
    | (refine wpList_alloc_has (by rfl) 44 rfl (stC st0 none 0) st_zero ?_)
    | (refine wpList_store_to (by rfl) 44 _ _ rfl w8.heap.size rfl (stC x go gc) rfl 44 (stC st0 none 0) (st_size _ _ _) rfl (st_one _ _ _) ?hg w9 ?hW ?_; (case hg => exact Has.new _ _ _); (case hW => exact hw9); clear hw9)
    | fail)
  refine Calls.mono hrg.out ?_
  intro e w10 hR
  clear hrg
  obtain ⟨hq, hR⟩ := hR
  replace hX := hX.later hq
  replace hV := hV.later hq
  replace hB4 := hB4.later hq
  replace hB6 := hB6.later hq
  replace hB8 := hB8.later hq
  replace hS8 : Sl w10 go gc 8 (entR x.log) := hS8.later hq
  have hb10 := hb9.trans (hq.mono hb9.size)
  clear hq hb9
  have hokx : StOk x := by
    rw [← hx]
    unfold getStM
    cases hrd : readStM ra with
    | error k => exact st0_ok12
    | ok z => exact readSt_ok hrd
  obtain ⟨d10, u10, A10, C10, ok10, rfl, hB10, hS10, hke10⟩ : ∃ (d10 : Option Addr) (u10 : Nat) (A10 : Option Addr) (C10 : Nat) (ok : Bool), e = .returned (.tuple #[.agg (stC x d10 u10), .slice A10 l8 C10, .bool ok]) ∧ By w10 A10 C10 rr ∧ Sl w10 d10 u10 8 (entR x.log) ∧ (ke = 0 ↔ ok = true) := by
    rcases hR with ⟨z, r, go', gc', A', C', hM, rfl, hS', hB'⟩ | ⟨k, hM, rfl⟩
    · have hD := getSt_ok hM
      rw [hD] at hx hrr hke
      subst hx hrr
      refine ⟨go', gc', A', C', true, by rw [hl8], hB', hS', by constructor <;> intro _ <;> first | rfl | exact hke.symm⟩
    · have hD := getSt_err hM
      rw [hD] at hx hrr hke
      subst hx hrr
      have hk0 := readSt_nz hM
      refine ⟨none, 0, a3, c3, false, by rw [← hl8, hlr.out], b3.later hb10, Sl.nothing _ _, ?_⟩
      replace hke : k = ke := hke
      constructor
      · intro h; omega
      · intro h; cases h
  clear hR
  replace hl8 : Hid _ := hl8
  have hle10 := hB10.le
  have hcap10 := hB10.cap
  rw [hl8.out] at hle10
  obtain ⟨w11, hw11, hU, hq⟩ := new_var w10 44 (stC st0 none 0) (stC x d10 u10)
  replace hX := hX.later hq
  replace hV := hV.later hq
  replace hB4 := hB4.later hq
  replace hB6 := hB6.later hq
  replace hB8 := hB8.later hq
  replace hB10 := hB10.later hq
  replace hS8 : Sl w11 go gc 8 (entR x.log) := hS8.later hq
  replace hS10 : Sl w11 d10 u10 8 (entR x.log) := hS10.later hq
  have hb11 := hb10.trans (hq.mono hb10.size)
  clear hq hb10 hx hrr hke
  have t4 := str_of1 hB4 hlp.out.symm
  have t6 := str_of1 hB6 hlp.out.symm
  have hsm := refsame_any x x go d10 gc u10 w11 hokx hokx hS8 hS10
  rw [same_self] at hsm
  replace hsm : Hid _ := hsm
  have hbe : ((ke : Int) == 0) = ok10 := by
    cases ok10 with
    | true => rw [hke10.2 rfl]; rfl
    | false =>
      have : ke ≠ 0 := fun h => by have := hke10.1 h; cases this
      simp
      omega
  have hcase : (ke = 0 ∧ ok10 = true) ∨ (ke ≠ 0 ∧ ok10 = false) := by
    cases ok10 with
    | true => exact .inl ⟨hke10.2 rfl, rfl⟩
    | false =>
      refine .inr ⟨fun h => ?_, rfl⟩
      have := hke10.1 h
      cases this
  clear hbe hke10
  have hS8 : Hid _ := hS8
  have hS10 : Hid _ := hS10
  have hB8' : Hid (By w11 A8 C8 rr) := hB8
  have hB10' : Hid (By w11 A10 C10 rr) := hB10
  clear hB8 hB10 hB6 hS8 hS10
  have hfin := fun (W : World) (hbW : Below w.heap.size w W) (hXW : Has W w.heap.size 44 (stC s a1 c1)) (hBW : By W A4 C4 P) => (⟨hbW, hXW, hBW⟩ : Below w.heap.size w W ∧ Has W w.heap.size 44 (stC s a1 c1) ∧ By W A4 C4 P)
  clear hfin
  rcases hcase with ⟨rfl, rfl⟩ | ⟨n5, rfl⟩
  · go_wp2_with (first
      | (refine wpList_alloc_has (by rfl) 44 rfl (stC st0 none 0) st_zero ?_)
      | (refine wpList_store_to (by rfl) 44 _ _ rfl w10.heap.size rfl (stC x d10 u10) rfl 44 (stC st0 none 0) (st_size _ _ _) rfl (st_one _ _ _) ?hg w11 ?hW ?_; (case hg => exact Has.new _ _ _); (case hW => exact hw11); clear hw11)
      | ((with_reducible refine at_loa ?_); first
        | (refine wpList_load_has (by rfl) 44 _ rfl w8.heap.size rfl 44 (stC x go gc) _ Tryz.underlying44 rfl (st_size _ _ _) ?hg ?_; (case hg => exact hV))
        | (refine wpList_load_has (by rfl) 44 _ rfl w10.heap.size rfl 44 (stC x d10 u10) _ Tryz.underlying44 rfl (st_size _ _ _) ?hg ?_; (case hg => exact hU)))
      | fail)
    refine Calls.mono hsm.out ?_
    rintro e w12 ⟨rfl, hq⟩
    clear hsm t4 t6
    replace hX := hX.later hq
    replace hB4 := hB4.later hq
    have t8 := str_of1 (hB8'.out.later hq) hl8.out.symm
    have t10 := str_of1 (hB10'.out.later hq) hl8.out.symm
    have hb12 := hb11.trans (hq.mono hb11.size)
    clear hq hb11 hV hU hB8' hB10'
    have his := refis_any7 s a1 c1 w12 hs (s1.later hb12)
    replace his : Hid _ := his
    go_wp2_with (first
      | ((with_reducible refine at_loa ?_); refine wpList_load_has (by rfl) 44 _ rfl w.heap.size rfl 44 (stC s a1 c1) _ Tryz.underlying44 rfl (st_size _ _ _) ?hg ?_; (case hg => exact hX))
      | fail)
    refine Calls.mono his.out ?_
    rintro e w13 ⟨rfl, hq⟩
    clear his t8 t10
    replace hX := hX.later hq
    have hXl13 : w.heap.size < w13.heap.size := hX.lt
    replace hB4 := hB4.later hq
    have hb13 := hb12.trans (hq.mono hb12.size)
    clear hq hb12
    cases hi : isSt s with
    | false =>
      have hl1 : lp = 1 := by
        rw [← hlp.out, ← hP'.out]
        unfold putStM
        rw [hi]
        rfl
      clear hX hB4 hi
      subst hl1
      go_wp2
      go_ret
      exact ⟨rfl, hb13⟩
    | true =>
      have hPl : P = [UInt8.ofNat 7] ++ statB s := by
        rw [← hP'.out]
        unfold putStM
        rw [hi]
        rfl
      have hl1 : 1 ≤ lp := by rw [← hlp.out, hPl, List.length_append]; simp
      have hl2 : lp ≤ 5000 := by
        have := statB_length (isSt_G hi hs)
        rw [← hlp.out, hPl, List.length_append]
        simp
        omega
      have hBt := hB4.rest (k := 1) (by rw [hlp.out]; exact hl1)
      have hdr : P.drop 1 = statB s := by rw [hPl]; rfl
      rw [hdr] at hBt
      have hsl := slice_from A4 lp C4 1 1 rfl hl1 hle4
      obtain ⟨At, hAt⟩ : ∃ A, restAddr A4 C4 1 = A := ⟨_, rfl⟩
      rw [hAt] at hBt hsl
      obtain ⟨lt, hlt⟩ : ∃ n, lp - 1 = n := ⟨_, rfl⟩
      rw [hlt] at hsl
      have hltS : (statB s).length = lt := by rw [← hlt, ← hlp.out, hPl, List.length_append]; simp
      have hbk : getStM (statB s ++ mo) = (s, mo, 0) := getSt_back hs hi mo
      replace hlt : Hid _ := hlt
      replace hi : Hid _ := hi
      replace hbk : Hid _ := hbk
      replace hltS : Hid _ := hltS
      replace hPl : Hid _ := hPl
      have hltb : lt ≤ 5000 := by rw [← hlt.out]; omega
      clear hAt hdr hB4
      go_wp2_with (first
        | (refine wpList_copy _ rfl _ _ rfl w13.heap.size At lt (C4 - 1) (statB s) rfl rfl hBt hltS.out.symm (by omega) (Nat.le_refl _) ?_)
        | fail)
      intro A14 C14 w14 ho14 hB14 hq
      replace hX := hX.later hq
      have hb14 := hb13.trans (hq.mono hb13.size)
      have hs14 := hb13.size
      have hXs : w.heap.size < w13.heap.size := hXl13
      have hl14 : w13.heap.size ≤ w14.heap.size := hq.size
      have hBm := b2.later hb14
      clear hq hb13 hBt hB14
      go_wp2_with (first
        | (refine wpList_appBO _ rfl _ _ rfl w13.heap.size _ lt (statB s) rfl a2 lm c2 mo rfl ?ho ?hB hlm.out.symm (by omega) ?hl ?_; (case ho => exact ho14); (case hB => exact hBm); (case hl => exact hl14))
        | fail)
      intro A15 C15 w15 ho15 hB15 hq
      replace hX := hX.under hq hXs
      have hb15 := hb14.trans (hq.mono hs14)
      have hfar := own_far ho15 rfl
      clear hq hb14 ho14 ho15 hBm
      have hget := wgetst_any A15 C15 (statB s ++ mo) w15 hB15 (fun ad had => (hfar ad had).2) (by rw [List.length_append, hltS.out, hlm.out]; omega) (hL.next hb15)
      rw [List.length_append, hltS.out, hlm.out] at hget
      unfold GstR at hget
      rw [hbk.out] at hget
      replace hget : Hid _ := hget
      clear hB15 hfar
      go_wp2_with fail
      refine Calls.mono hget.out ?_
      rintro e w16 ⟨hq, gz, cz, v16, he, hSz, hOz⟩
      subst he
      clear hget
      replace hX := hX.later hq
      have hb16 := hb15.trans (hq.mono hb15.size)
      clear hq hb15
      obtain ⟨Az, Cz, rfl, hBz⟩ := hOz.slice
      clear hOz
      have hlez := hBz.le
      have hcapz := hBz.cap
      replace hSz : Sl w16 gz cz 8 (entR s.log) := hSz
      replace hBz : By w16 Az Cz mo := hBz
      replace hlez : mo.length ≤ Cz := hlez
      obtain ⟨w17, hw17, hZ, hq⟩ := new_var w16 44 (stC st0 none 0) (stC s gz cz)
      replace hX := hX.later hq
      replace hSz := hSz.later hq
      replace hBz := hBz.later hq
      have hb17 := hb16.trans (hq.mono hb16.size)
      clear hq hb16
      have hsm := refsame_any s s gz a1 cz c1 w17 hs hs hSz (s1.later hb17)
      rw [same_self] at hsm
      replace hsm : Hid _ := hsm
      have hmo : mo.length = lm := hlm.out
      rw [hmo] at hlez
      rw [hmo]
      go_wp2_with (first
        | (refine wpList_alloc_has (by rfl) 44 rfl (stC st0 none 0) st_zero ?_)
        | (refine wpList_store_to (by rfl) 44 _ _ rfl w16.heap.size rfl (stC s gz cz) rfl 44 (stC st0 none 0) (st_size _ _ _) rfl (st_one _ _ _) ?hg w17 ?hW ?_; (case hg => exact Has.new _ _ _); (case hW => exact hw17); clear hw17)
        | ((with_reducible refine at_loa ?_); first
          | (refine wpList_load_has (by rfl) 44 _ rfl w16.heap.size rfl 44 (stC s gz cz) _ Tryz.underlying44 rfl (st_size _ _ _) ?hg ?_; (case hg => exact hZ))
          | (refine wpList_load_has (by rfl) 44 _ rfl w.heap.size rfl 44 (stC s a1 c1) _ Tryz.underlying44 rfl (st_size _ _ _) ?hg ?_; (case hg => exact hX)))
        | fail)
      refine Calls.mono hsm.out ?_
      rintro e w18 ⟨rfl, hq⟩
      clear hsm
      have tz := str_of1 (hBz.later hq) rfl
      have hb18 := hb17.trans (hq.mono hb17.size)
      have tm := str_of1 (b2.later hb18) hlm.out.symm
      rw [hmo] at tz
      clear hq hb17
      go_wp2
      go_ret
      exact ⟨rfl, hb18⟩
  · have n51 : ¬ (ke : Int) = 0 := by omega
    have n52 : ((ke : Int) == 0) = false := by simp; omega
    clear n5
    go_wp2_with (first
      | (refine wpList_alloc_has (by rfl) 44 rfl (stC st0 none 0) st_zero ?_)
      | (refine wpList_store_to (by rfl) 44 _ _ rfl w10.heap.size rfl (stC x d10 u10) rfl 44 (stC st0 none 0) (st_size _ _ _) rfl (st_one _ _ _) ?hg w11 ?hW ?_; (case hg => exact Has.new _ _ _); (case hW => exact hw11); clear hw11)
      | ((with_reducible refine at_loa ?_); first
        | (refine wpList_load_has (by rfl) 44 _ rfl w8.heap.size rfl 44 (stC x go gc) _ Tryz.underlying44 rfl (st_size _ _ _) ?hg ?_; (case hg => exact hV))
        | (refine wpList_load_has (by rfl) 44 _ rfl w10.heap.size rfl 44 (stC x d10 u10) _ Tryz.underlying44 rfl (st_size _ _ _) ?hg ?_; (case hg => exact hU)))
      | fail)
    refine Calls.mono hsm.out ?_
    rintro e w12 ⟨rfl, hq⟩
    clear hsm t4 t6
    replace hX := hX.later hq
    replace hB4 := hB4.later hq
    have t8 := str_of1 (hB8'.out.later hq) hl8.out.symm
    have t10 := str_of1 (hB10'.out.later hq) hl8.out.symm
    have hb12 := hb11.trans (hq.mono hb11.size)
    clear hq hb11 hV hU hB8' hB10'
    have his := refis_any7 s a1 c1 w12 hs (s1.later hb12)
    replace his : Hid _ := his
    go_wp2_with (first
      | ((with_reducible refine at_loa ?_); refine wpList_load_has (by rfl) 44 _ rfl w.heap.size rfl 44 (stC s a1 c1) _ Tryz.underlying44 rfl (st_size _ _ _) ?hg ?_; (case hg => exact hX))
      | fail)
    refine Calls.mono his.out ?_
    rintro e w13 ⟨rfl, hq⟩
    clear his t8 t10
    replace hX := hX.later hq
    have hXl13 : w.heap.size < w13.heap.size := hX.lt
    replace hB4 := hB4.later hq
    have hb13 := hb12.trans (hq.mono hb12.size)
    clear hq hb12
    cases hi : isSt s with
    | false =>
      have hl1 : lp = 1 := by
        rw [← hlp.out, ← hP'.out]
        unfold putStM
        rw [hi]
        rfl
      clear hX hB4 hi
      subst hl1
      go_wp2
      go_ret
      exact ⟨rfl, hb13⟩
    | true =>
      have hPl : P = [UInt8.ofNat 7] ++ statB s := by
        rw [← hP'.out]
        unfold putStM
        rw [hi]
        rfl
      have hl1 : 1 ≤ lp := by rw [← hlp.out, hPl, List.length_append]; simp
      have hl2 : lp ≤ 5000 := by
        have := statB_length (isSt_G hi hs)
        rw [← hlp.out, hPl, List.length_append]
        simp
        omega
      have hBt := hB4.rest (k := 1) (by rw [hlp.out]; exact hl1)
      have hdr : P.drop 1 = statB s := by rw [hPl]; rfl
      rw [hdr] at hBt
      have hsl := slice_from A4 lp C4 1 1 rfl hl1 hle4
      obtain ⟨At, hAt⟩ : ∃ A, restAddr A4 C4 1 = A := ⟨_, rfl⟩
      rw [hAt] at hBt hsl
      obtain ⟨lt, hlt⟩ : ∃ n, lp - 1 = n := ⟨_, rfl⟩
      rw [hlt] at hsl
      have hltS : (statB s).length = lt := by rw [← hlt, ← hlp.out, hPl, List.length_append]; simp
      have hbk : getStM (statB s ++ mo) = (s, mo, 0) := getSt_back hs hi mo
      replace hlt : Hid _ := hlt
      replace hi : Hid _ := hi
      replace hbk : Hid _ := hbk
      replace hltS : Hid _ := hltS
      replace hPl : Hid _ := hPl
      have hltb : lt ≤ 5000 := by rw [← hlt.out]; omega
      clear hAt hdr hB4
      go_wp2_with (first
        | (refine wpList_copy _ rfl _ _ rfl w13.heap.size At lt (C4 - 1) (statB s) rfl rfl hBt hltS.out.symm (by omega) (Nat.le_refl _) ?_)
        | fail)
      intro A14 C14 w14 ho14 hB14 hq
      replace hX := hX.later hq
      have hb14 := hb13.trans (hq.mono hb13.size)
      have hs14 := hb13.size
      have hXs : w.heap.size < w13.heap.size := hXl13
      have hl14 : w13.heap.size ≤ w14.heap.size := hq.size
      have hBm := b2.later hb14
      clear hq hb13 hBt hB14
      go_wp2_with (first
        | (refine wpList_appBO _ rfl _ _ rfl w13.heap.size _ lt (statB s) rfl a2 lm c2 mo rfl ?ho ?hB hlm.out.symm (by omega) ?hl ?_; (case ho => exact ho14); (case hB => exact hBm); (case hl => exact hl14))
        | fail)
      intro A15 C15 w15 ho15 hB15 hq
      replace hX := hX.under hq hXs
      have hb15 := hb14.trans (hq.mono hs14)
      have hfar := own_far ho15 rfl
      clear hq hb14 ho14 ho15 hBm
      have hget := wgetst_any A15 C15 (statB s ++ mo) w15 hB15 (fun ad had => (hfar ad had).2) (by rw [List.length_append, hltS.out, hlm.out]; omega) (hL.next hb15)
      rw [List.length_append, hltS.out, hlm.out] at hget
      unfold GstR at hget
      rw [hbk.out] at hget
      replace hget : Hid _ := hget
      clear hB15 hfar
      go_wp2_with fail
      refine Calls.mono hget.out ?_
      rintro e w16 ⟨hq, gz, cz, v16, he, hSz, hOz⟩
      subst he
      clear hget
      replace hX := hX.later hq
      have hb16 := hb15.trans (hq.mono hb15.size)
      clear hq hb15
      obtain ⟨Az, Cz, rfl, hBz⟩ := hOz.slice
      clear hOz
      have hlez := hBz.le
      have hcapz := hBz.cap
      replace hSz : Sl w16 gz cz 8 (entR s.log) := hSz
      replace hBz : By w16 Az Cz mo := hBz
      replace hlez : mo.length ≤ Cz := hlez
      obtain ⟨w17, hw17, hZ, hq⟩ := new_var w16 44 (stC st0 none 0) (stC s gz cz)
      replace hX := hX.later hq
      replace hSz := hSz.later hq
      replace hBz := hBz.later hq
      have hb17 := hb16.trans (hq.mono hb16.size)
      clear hq hb16
      have hsm := refsame_any s s gz a1 cz c1 w17 hs hs hSz (s1.later hb17)
      rw [same_self] at hsm
      replace hsm : Hid _ := hsm
      have hmo : mo.length = lm := hlm.out
      rw [hmo] at hlez
      rw [hmo]
      go_wp2_with (first
        | (refine wpList_alloc_has (by rfl) 44 rfl (stC st0 none 0) st_zero ?_)
        | (refine wpList_store_to (by rfl) 44 _ _ rfl w16.heap.size rfl (stC s gz cz) rfl 44 (stC st0 none 0) (st_size _ _ _) rfl (st_one _ _ _) ?hg w17 ?hW ?_; (case hg => exact Has.new _ _ _); (case hW => exact hw17); clear hw17)
        | ((with_reducible refine at_loa ?_); first
          | (refine wpList_load_has (by rfl) 44 _ rfl w16.heap.size rfl 44 (stC s gz cz) _ Tryz.underlying44 rfl (st_size _ _ _) ?hg ?_; (case hg => exact hZ))
          | (refine wpList_load_has (by rfl) 44 _ rfl w.heap.size rfl 44 (stC s a1 c1) _ Tryz.underlying44 rfl (st_size _ _ _) ?hg ?_; (case hg => exact hX)))
        | fail)
      refine Calls.mono hsm.out ?_
      rintro e w18 ⟨rfl, hq⟩
      clear hsm
      have tz := str_of1 (hBz.later hq) rfl
      have hb18 := hb17.trans (hq.mono hb17.size)
      have tm := str_of1 (b2.later hb18) hlm.out.symm
      rw [hmo] at tz
      clear hq hb17
      go_wp2
      go_ret
      exact ⟨rfl, hb18⟩
end Go.Proofs.YtecilienolabfaaGreatDoor
