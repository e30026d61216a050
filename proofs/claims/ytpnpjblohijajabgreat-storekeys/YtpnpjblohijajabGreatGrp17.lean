/- JnlRead, JnlNew, JnlWith, joined. -/
import Derived.Test.YtpnpjblohijajabGreatGrp13
import Derived.Test.YtpnpjblohijajabGreatGrp15
import Derived.Test.YtpnpjblohijajabGreatGrp16
namespace Go.Proofs.YtpnpjblohijajabGreat
section
set_option linter.unusedSimpArgs false
set_option linter.unusedVariables false
set_option maxRecDepth 100000
open Go.RowKit Go.MapKept

theorem number_any (p k n c : Nat) (ao : Option Addr) (xs : List UInt8) (w : World) (hp : Has w p 60 #[.slice ao n c]) (h : By w ao c xs) (hn : n = xs.length) (hl : n ≤ 1000000) (h1 : 0 < k) (h8 : k ≤ 8) (hk : k < n) :
    Calls Tryz.prog 86 #[.pointer (some ⟨p, 0, none⟩), .int .i64 (k : Nat)] w fun e w' => e = .returned (.int .u64 (getN (xs.take k) : Nat)) ∧ ∃ g c', Has w' p 60 #[.slice (some ⟨g, 0, none⟩) (n - k) c'] ∧ By w' (some ⟨g, 0, none⟩) c' (xs.drop k) ∧ But p w w' := by
  have hh : heldI (k : Int) = k := by unfold heldI; split <;> (try split) <;> omega
  have hg := get_ok ao n c xs (k : Int) w h hn (by omega) (by omega)
  rw [hh, Int.toNat_natCast] at hg
  have hc0 : w.cell? ⟨p, 0, none⟩ = some (.slice ao n c) := hp.cell 0
  have hdl : 0 < (xs.drop k).length := by rw [List.length_drop]; omega
  obtain ⟨v, hv⟩ : ∃ v, getN (xs.take k) = v := ⟨_, rfl⟩
  rw [hv] at hg ⊢
  obtain ⟨ys, hys⟩ : ∃ v, xs.drop k = v := ⟨_, rfl⟩
  rw [hys] at hg hdl ⊢
  obtain ⟨m, hm⟩ : ∃ v, n - k = v := ⟨_, rfl⟩
  rw [hm] at hg ⊢
  replace hg : Hid _ := hg
  clear h hn hl hk hh hv hys hm
  go_enter Tryz.func86, Tryz.ntmps86
  go_wp2_with fail
  refine Calls.mono hg.out ?_
  rintro e w1 ⟨g, c', rfl, hB, hq⟩
  clear hg
  replace hp := hp.later hq
  have hz := hp.free 0
  have hc1 : w1.cell? ⟨p, 0, none⟩ = some (.slice ao n c) := hp.cell 0
  have hgp : g ≠ p := by
    rintro rfl
    have := hB.cell 0 hdl
    rw [Addr.add_mid, Nat.zero_add] at this
    rw [hc1] at this
    cases this
  have hp2 := hp.set 0 (.slice (some ⟨g, 0, none⟩) m c')
  have hb2 : But p w (w1.setCell ⟨p, 0, none⟩ (.slice (some ⟨g, 0, none⟩) m c')) := by
    have k1 : But p w w1 := ⟨hq.os, hq.tape, hq.output, hq.size, fun x hx _ => hq.block x hx⟩
    exact k1.trans (but_cell _ _ _)
  have hB2 : By (w1.setCell ⟨p, 0, none⟩ (.slice (some ⟨g, 0, none⟩) m c')) (some ⟨g, 0, none⟩) c' ys := hB.same fun ad had => by
    cases had
    exact (but_cell w1 0 _).block _ (by
      have := hB.cell 0 hdl
      exact World.block_lt_of_cell? w1 _ this) hgp
  have hfin : Hid (Has (w1.setCell ⟨p, 0, none⟩ (.slice (some ⟨g, 0, none⟩) m c')) p 60 #[.slice (some ⟨g, 0, none⟩) m c'] ∧ By (w1.setCell ⟨p, 0, none⟩ (.slice (some ⟨g, 0, none⟩) m c')) (some ⟨g, 0, none⟩) c' ys ∧ But p w (w1.setCell ⟨p, 0, none⟩ (.slice (some ⟨g, 0, none⟩) m c'))) := ⟨hp2, hB2, hb2⟩
  clear hp2 hB2 hb2 hB hp hc0 hq hgp
  go_wp2_with (first
    | (go_at_call 33; refine (must_yes 10 _).mono ?_; rintro e w2 ⟨rfl, rfl⟩)
    | fail)
  go_ret
  exact ⟨rfl, g, c', hfin.out⟩
theorem getN_bdJ (l : List UInt8) (k : Nat) (hl : l.length = k) (hk : k ≤ 8) : getN l < 256 ^ k := by
  have g := get_put k (getN l) (by omega)
  rw [putB_getN k hk l hl] at g
  rw [g]
  exact Nat.mod_lt _ (Nat.pow_pos (by decide))
theorem By.ofPart {w : World} {g o : Nat} {t : TypeId} {s : List UInt8} (h : Has w g t (Bs s).toArray) (ho : o ≤ s.length) (hl : s.length ≤ 1000000000) : By w (some ⟨g, o, none⟩) (s.length - o) (s.drop o) where
  le := by rw [List.length_drop]; exact Nat.le_refl _
  cap := by omega
  nil := fun h => by cases h
  at' := fun ad had j v hv => by
    cases had
    rw [Addr.add_mid, h.cell, List.getElem?_toArray]
    rw [Bs_drop, List.getElem?_drop] at hv
    exact hv
theorem bequal_any (ao bo : Option Addr) (n m c e : Nat) (xs ys : List UInt8) (w : World) (h : By w ao c xs) (k : By w bo e ys) (hn : n = xs.length) (hm : m = ys.length) :
    Calls Tryz.prog 116 #[.slice ao n c, .slice bo m e] w fun en w' => en = .returned (.bool (xs == ys)) ∧ w' = w := by
  have t1 := str_of h hn
  have t2 := str_of k hm
  have hle := h.le
  have hcap := h.cap
  have kle := k.le
  have kcap := k.cap
  clear hn hm
  go_enter Tryz.func116, Tryz.ntmps116
  go_wp2
  go_ret
  exact ⟨rfl, rfl⟩
theorem hasPrefix_any (g : Nat) (bo : Option Addr) (m e : Nat) (xs ys : List UInt8) (w : World) (h : Has w g 5 (Bs xs).toArray) (hx : xs.length = 64) (k : By w bo e ys) (hm : m = ys.length) (h44 : m = 44) :
    Calls Tryz.prog 87 #[.slice (some ⟨g, 0, none⟩) 64 64, .slice bo m e] w fun en w' => en = .returned (.bool (xs.take 44 == ys)) ∧ w' = w := by
  subst h44
  have hB : By w (some ⟨g, 0, none⟩) 64 (xs.take 44) := by
    have hb := By.ofBlock (t := 5) h (by omega)
    refine ⟨by rw [List.length_take]; omega, by decide, fun h => by (cases h), fun ad had j v hv => hb.at' ad had j v ?_⟩
    rw [Bs_take, List.getElem?_take] at hv
    split at hv
    · exact hv
    · cases hv
  have hc := bequal_any (some ⟨g, 0, none⟩) bo 44 44 64 e (xs.take 44) ys w hB k (by rw [List.length_take]; omega) hm
  replace hc : Hid _ := hc
  clear hB k hm h
  go_enter Tryz.func87, Tryz.ntmps87
  go_wp2_with fail
  refine Calls.mono hc.out ?_
  rintro en w1 ⟨rfl, rfl⟩
  go_wp2
  go_ret
  exact ⟨rfl, rfl⟩
theorem hd_built_c (a b l s : Nat) : Tryz.prog.built 73 [(0, .int .u64 (a : Int)), (1, .int .i64 (b : Int)), (2, .int .i64 (l : Int)), (3, .int .u64 (s : Int))] = some (hdC ⟨a, b, l, s⟩) := by kernel_rfl
theorem rdHd_ok (xs : List UInt8) (hx : xs.length = 64) : HdOk (rdHd xs) := by
  refine ⟨getN_lt _, ?_, ?_, getN_lt _⟩
  · have := getN_bdJ ((xs.drop 23).take 1) 1 (by rw [List.length_take, List.length_drop]; omega) (by decide)
    exact this
  · have := getN_bdJ ((xs.drop 24).take 4) 4 (by rw [List.length_take, List.length_drop]; omega) (by decide)
    exact this
set_option maxHeartbeats 4000000 in
theorem headerOf_any (g : Nat) (xs : List UInt8) (w : World) (h : Has w g 5 (Bs xs).toArray) (hx : xs.length = 64) :
    Calls Tryz.prog 55 #[.slice (some ⟨g, 0, none⟩) 64 64] w fun e w' => e = .returned (.tuple #[.agg (hdC (rdHd xs)), .bool (isHd xs)]) ∧ Below w.heap.size w w' := by
  obtain ⟨w1, hw1, hR, hb1⟩ := one_var w 73 (hdC hd0)
  have s1 : w1.heap.size = w.heap.size + 1 := by rw [← hw1]; simp
  obtain ⟨w2, hw2, hP, hq2⟩ := one_var w1 60 #[.slice (some ⟨g, 15, none⟩) 49 49]
  rw [s1] at hP
  have hB2 : By w2 (some ⟨g, 15, none⟩) 49 (xs.drop 15) := by
    have := By.ofPart (o := 15) ((h.later hb1).later hq2) (by omega) (by omega)
    rw [hx] at this
    exact this
  have hb2 : Below w.heap.size w w2 := hb1.trans (hq2.mono hb1.size)
  have hg := h.lt
  have hG2 := h.later hb2
  have hR2 := hR.later hq2
  have hok := rdHd_ok xs hx
  have hM : Hid (rdHd xs = ⟨getN ((xs.drop 15).take 8), getN ((xs.drop 23).take 1), getN ((xs.drop 24).take 4), getN ((xs.drop 28).take 8)⟩) := rfl
  obtain ⟨a, ha⟩ : ∃ a, getN ((xs.drop 15).take 8) = a := ⟨_, rfl⟩
  obtain ⟨b, hb⟩ : ∃ a, getN ((xs.drop 23).take 1) = a := ⟨_, rfl⟩
  obtain ⟨l, hl⟩ : ∃ a, getN ((xs.drop 24).take 4) = a := ⟨_, rfl⟩
  obtain ⟨s, hs⟩ : ∃ a, getN ((xs.drop 28).take 8) = a := ⟨_, rfl⟩
  rw [ha, hb, hl, hs] at hM
  rw [hM.out] at hok ⊢
  have hbb := hok.half
  have hlb := hok.len
  replace hbb : b < 256 := hbb
  replace hlb : l < 4294967296 := hlb
  have d1 : (xs.drop 15).length = 49 := by rw [List.length_drop]; omega
  have d2 : (xs.drop 23).length = 41 := by rw [List.length_drop]; omega
  have d3 : (xs.drop 24).length = 40 := by rw [List.length_drop]; omega
  have d4 : (xs.drop 28).length = 36 := by rw [List.length_drop]; omega
  have hp1 := number_any (w.heap.size + 1) 8 49 49 (some ⟨g, 15, none⟩) (xs.drop 15) w2 hP hB2 d1.symm (by decide) (by decide) (by decide) (by decide)
  rw [ha, List.drop_drop] at hp1
  replace hp1 : Hid _ := hp1
  replace d2 : Hid _ := d2
  replace d3 : Hid _ := d3
  replace d4 : Hid _ := d4
  replace ha : Hid _ := ha
  replace hb : Hid _ := hb
  replace hl : Hid _ := hl
  replace hs : Hid _ := hs
  replace hok : Hid _ := hok
  replace hM : Hid _ := hM
  clear h hP hB2 hR hq2 d1
  go_enter Tryz.func55, Tryz.ntmps55
  go_wp2_with (first
    | (refine wpList_alloc_has (by rfl) 73 rfl (hdC hd0) hd_zero ?_; rw [hw1]; clear hw1)
    | fail)
  refine Calls.mono hp1.out ?_
  rintro e v0 ⟨rfl, g0, k0, hP0, hB0, hbt0⟩
  clear hp1
  have hRv0 := hbt0.has hR2 (by omega)
  have hGv0 := hbt0.has hG2 (by omega)
  have hbv0 : Below w.heap.size w v0 := ⟨hbt0.os.trans hb2.os, hbt0.tape.trans hb2.tape, hbt0.output.trans hb2.output, Nat.le_trans hb2.size hbt0.size, fun x hx1 => (hbt0.block x (Nat.lt_of_lt_of_le hx1 hb2.size) (by omega)).trans (hb2.block x hx1)⟩
  have hp1 := number_any (w.heap.size + 1) 1 41 k0 (some ⟨g0, 0, none⟩) (xs.drop 23) v0 hP0 hB0 d2.out.symm (by decide) (by decide) (by decide) (by decide)
  rw [hb.out, List.drop_drop] at hp1
  replace hp1 : Hid _ := hp1
  clear hP0 hB0 hbt0
  go_wp2_with fail
  refine Calls.mono hp1.out ?_
  rintro e v1 ⟨rfl, g1, k1, hP1, hB1, hbt1⟩
  clear hp1
  have hRv1 := hbt1.has hRv0 (by omega)
  have hGv1 := hbt1.has hGv0 (by omega)
  have hbv1 : Below w.heap.size w v1 := ⟨hbt1.os.trans hbv0.os, hbt1.tape.trans hbv0.tape, hbt1.output.trans hbv0.output, Nat.le_trans hbv0.size hbt1.size, fun x hx1 => (hbt1.block x (Nat.lt_of_lt_of_le hx1 hbv0.size) (by omega)).trans (hbv0.block x hx1)⟩
  have hp1 := number_any (w.heap.size + 1) 4 40 k1 (some ⟨g1, 0, none⟩) (xs.drop 24) v1 hP1 hB1 d3.out.symm (by decide) (by decide) (by decide) (by decide)
  rw [hl.out, List.drop_drop] at hp1
  replace hp1 : Hid _ := hp1
  clear hP1 hB1 hbt1
  go_wp2_with fail
  refine Calls.mono hp1.out ?_
  rintro e v2 ⟨rfl, g2, k2, hP2, hB2, hbt2⟩
  clear hp1
  have hRv2 := hbt2.has hRv1 (by omega)
  have hGv2 := hbt2.has hGv1 (by omega)
  have hbv2 : Below w.heap.size w v2 := ⟨hbt2.os.trans hbv1.os, hbt2.tape.trans hbv1.tape, hbt2.output.trans hbv1.output, Nat.le_trans hbv1.size hbt2.size, fun x hx1 => (hbt2.block x (Nat.lt_of_lt_of_le hx1 hbv1.size) (by omega)).trans (hbv1.block x hx1)⟩
  have hp1 := number_any (w.heap.size + 1) 8 36 k2 (some ⟨g2, 0, none⟩) (xs.drop 28) v2 hP2 hB2 d4.out.symm (by decide) (by decide) (by decide) (by decide)
  rw [hs.out, List.drop_drop] at hp1
  replace hp1 : Hid _ := hp1
  clear hP2 hB2 hbt2
  go_wp2_with fail
  refine Calls.mono hp1.out ?_
  rintro e v3 ⟨rfl, g3, k3, hP3, hB3, hbt3⟩
  clear hp1
  have hRv3 := hbt3.has hRv2 (by omega)
  have hGv3 := hbt3.has hGv2 (by omega)
  have hbv3 : Below w.heap.size w v3 := ⟨hbt3.os.trans hbv2.os, hbt3.tape.trans hbv2.tape, hbt3.output.trans hbv2.output, Nat.le_trans hbv2.size hbt3.size, fun x hx1 => (hbt3.block x (Nat.lt_of_lt_of_le hx1 hbv2.size) (by omega)).trans (hbv2.block x hx1)⟩
  have hsh := sheet_any ⟨a, b, l, s⟩
  obtain ⟨w3, hw3, hX, hq3⟩ := new_var v3 73 (hdC hd0) (hdC ⟨a, b, l, s⟩)
  have hvsz : w.heap.size < v3.heap.size := hRv3.lt
  have hR3 := hRv3.later hq3
  have hG3 := hGv3.later hq3
  have hb3 := hbv3.trans (hq3.mono hbv3.size)
  have w1' : IntKind.i64.wrap (b : Int) = (b : Int) := by rw [IntKind.wrap_i64]; omega
  have w2' : IntKind.i64.wrap (l : Int) = (l : Int) := by rw [IntKind.wrap_i64]; omega
  clear hRv0 hRv1 hRv2 hRv3 hGv0 hGv1 hGv2 hGv3 hR2 hG2 hbv0 hbv1 hbv2 hbv3 hb2 hb1 hq3
  go_wp2_with (first
    | (refine wpList_alloc_has (by rfl) 73 rfl (hdC hd0) hd_zero ?_)
    | (refine wpList_store_to (by rfl) 73 _ _ rfl v3.heap.size rfl (hdC ⟨a, b, l, s⟩) rfl 73 (hdC hd0) (hd_size _) rfl (hd_one _) ?hg w3 ?hW ?_; (case hg => exact Has.new _ _ _); (case hW => exact hw3); clear hw3)
    | fail)
  have hX4 := hX.drew
  have hG4 := hG3.drew
  have hR4 := hR3.drew
  have hb4 : Below w.heap.size w w3.drew := hb3.trans ((Below.refl _ _).drew.mono hb3.size)
  have hsz3 : w.heap.size < w3.heap.size := hR3.lt
  have hv3 : v3.heap.size < w3.heap.size := hX.lt
  have hvg : w.heap.size < v3.heap.size := hvsz
  clear hX hG3 hR3 hb3
  refine wp_region_plan (fun W => Has W v3.heap.size 73 (hdC ⟨a, b, l, s⟩) ∧ Has W g 5 (Bs xs).toArray) (Plan.of [(0, true), (1, true), (2, true), (3, false), (4, false), (5, false), (6, true)] .done) (by kernel_rfl) (by kernel_rfl) (by kernel_rfl) (by kernel_rfl) ⟨hX4, hG4⟩ ?_
  generalize w3.drew = w4 at *
  refine plan_take _ _ rfl (yields_load_has (by rfl) 73 _ rfl v3.heap.size rfl 73 (hdC ⟨a, b, l, s⟩) _ Tryz.underlying73 rfl (hd_size _) (fun W hW => hW.1)) ?_
  try simp only [Act.put, List.setIfInBounds_toArray, List.set_cons_zero, List.set_cons_succ]
  iterate 1
    first
      | (refine plan_pass _ rfl (by rfl) ?_)
      | (refine plan_take _ _ rfl (.inl ⟨by rfl, fun W hS => by clear hS; go_simp; try with_reducible rfl⟩) ?_)
    try simp only [Act.put, List.setIfInBounds_toArray, List.set_cons_zero, List.set_cons_succ]
  refine plan_take _ _ rfl (yields_load_has (by rfl) 73 _ rfl v3.heap.size rfl 73 (hdC ⟨a, b, l, s⟩) _ Tryz.underlying73 rfl (hd_size _) (fun W hW => hW.1)) ?_
  try simp only [Act.put, List.setIfInBounds_toArray, List.set_cons_zero, List.set_cons_succ]
  refine plan_run _ rfl (fun K hK => ?_)
  go_simp
  refine (hsh w4 hok.out).mono ?_
  rintro en w5 ⟨gs, cs, rfl, hBs, -, -, hq5⟩
  have hX5 := hX4.later hq5
  have hG5 := hG4.later hq5
  have hR5 := hR4.later hq5
  have hb5 := hb4.trans (hq5.mono hb4.size)
  refine hK.out _ _ ⟨hX5, hG5⟩ ?_
  clear hK K
  try simp only [Act.put, List.setIfInBounds_toArray, List.set_cons_zero, List.set_cons_succ]
  refine plan_run _ rfl (fun K hK => ?_)
  go_simp
  refine (hasPrefix_any g (some ⟨gs, 0, none⟩) 44 cs xs (hdB ⟨a, b, l, s⟩) w5 hG5 hx hBs (hdB_length _).symm rfl).mono ?_
  rintro en w6 ⟨rfl, rfl⟩
  refine hK.out _ _ ⟨hX5, hG5⟩ ?_
  clear hK K
  try simp only [Act.put, List.setIfInBounds_toArray, List.set_cons_zero, List.set_cons_succ]
  have hRf := hR5.row (hdC ⟨a, b, l, s⟩)
  have hbt : But w.heap.size w6 (w6.setRow w.heap.size (hdC ⟨a, b, l, s⟩)) := but_row _ _
  have hE : Hid (Below w.heap.size w (w6.setRow w.heap.size (hdC ⟨a, b, l, s⟩))) := below_setRow hb5 (Nat.le_refl _) _
  have hI : isHd xs = (xs.take 44 == hdB ⟨a, b, l, s⟩) := by unfold isHd; rw [hM.out]
  obtain ⟨q, hq⟩ : ∃ q, (xs.take 44 == hdB ⟨a, b, l, s⟩) = q := ⟨_, rfl⟩
  rw [hq] at hI ⊢
  replace hI : Hid _ := hI
  refine plan_store_has _ rfl (by rfl) 73 _ _ rfl w.heap.size rfl (hdC ⟨a, b, l, s⟩) rfl 73 (hdC hd0) (hd_size _) rfl (hd_one _) hR5 ⟨hbt.has hX5 (by omega), hbt.has hG5 (by omega)⟩ ?_
  try simp only [Act.put, List.setIfInBounds_toArray, List.set_cons_zero, List.set_cons_succ]
  iterate 1
    first
      | (refine plan_pass _ rfl (by rfl) ?_)
      | (refine plan_take _ _ rfl (.inl ⟨by rfl, fun W hS => by clear hS; go_simp; try with_reducible rfl⟩) ?_)
    try simp only [Act.put, List.setIfInBounds_toArray, List.set_cons_zero, List.set_cons_succ]
  refine plan_done ?_
  clear hX4 hX5 hG4 hG5 hR4 hR5 hb4 hb5 hBs hbt
  go_wp2
  exact ret_has_tmp rfl w.heap.size rfl 73 (hdC ⟨a, b, l, s⟩) _ Tryz.underlying73 rfl (hd_size _) hRf rfl ⟨by rw [hI.out]; rfl, hE.out⟩
end

section
set_option linter.unusedSimpArgs false
set_option linter.unusedVariables false
set_option maxRecDepth 100000
open Go.RowKit Go.MapKept

def takesM (x : List UInt8) (k : Nat) (r : HdV × Bool) : Bool := isHd x && (decide ((rdHd x).num % 2 = k) && (!r.2 || decide (r.1.num < (rdHd x).num)))
def newestTo (x : Nat → List UInt8) : Nat → HdV × Bool
  | 0 => (hd0, false)
  | k + 1 => if takesM (x k) k (newestTo x k) = true then (rdHd (x k), true) else newestTo x k
theorem newest_step (x : Nat → List UInt8) (k : Nat) : newestTo x (k + 1) = if takesM (x k) k (newestTo x k) = true then (rdHd (x k), true) else newestTo x k := rfl
theorem newest_num (x : Nat → List UInt8) (hN : ∀ k, k < 2 → isHd (x k) = true → (rdHd (x k)).num < 256) : ∀ k, k ≤ 2 → (newestTo x k).1.num < 256
  | 0, _ => by show 0 < 256; decide
  | k + 1, h => by
    rw [newest_step]
    split
    · rename_i ht
      unfold takesM at ht
      rw [Bool.and_eq_true] at ht
      exact hN k (by omega) ht.1
    · exact newest_num x hN k (by omega)
theorem hd_built0 : Tryz.prog.built 73 [] = some (hdC hd0) := by kernel_rfl
set_option maxHeartbeats 8000000 in
theorem newest_any (p kb mb n : Nat) (d : DskV) (w : World) (h : DiskAt w p kb mb n d) (ho : d.off = false) (hn : 2 ≤ n) (hN : ∀ k, k < 2 → isHd (writtenM d k) = true → (rdHd (writtenM d k)).num < 256) :
    Calls Tryz.prog 34 #[.pointer (some ⟨p, 0, none⟩)] w fun e w' => e = .returned (.tuple #[.agg (hdC (newestTo (writtenM d) 2).1), .bool (newestTo (writtenM d) 2).2]) ∧ Below w.heap.size w w' := by
  obtain ⟨w1, hw1, hR, hb1⟩ := one_var w 73 (hdC hd0)
  have s1 : Hid (w1.heap.size = w.heap.size + 1) := by show _ = _; rw [← hw1]; simp
  obtain ⟨w2, hw2, hX, hq2⟩ := new_var w1 73 (hdC hd0) (hdC hd0)
  have hR2 := hR.later hq2
  have hb2 := hb1.trans (hq2.mono hb1.size)
  have hD2 := (h.later hb1).later hq2
  have hxs2 : w1.heap.size < w2.heap.size := hX.lt
  have hNm := newest_num (writtenM d) hN
  have hwl := fun k (hk : k < 2) => written_len h (show k < n by omega)
  replace hN : Hid _ := hN
  replace hNm : Hid _ := hNm
  replace hwl : Hid _ := hwl
  clear h hR hb1 hq2
  go_enter Tryz.func34, Tryz.ntmps34
  go_wp2_with (first
    | (refine wpList_alloc_has (by rfl) 73 rfl (hdC hd0) hd_zero ?_; first | (rw [hw1]; clear hw1) | skip)
    | (refine wpList_build_has (by rfl) 73 #[] rfl (hdC hd0) (by simpa using hd_built0) ?_)
    | (refine wpList_store_to (by rfl) 73 _ _ rfl w1.heap.size rfl (hdC hd0) rfl 73 (hdC hd0) (hd_size _) rfl (hd_one _) ?hg w2 ?hW ?_; (case hg => exact Has.new _ _ _); (case hW => exact hw2); clear hw2)
    | fail)
  go_loopw [5, 10] (fun fv iv wr => ∃ k r, k ≤ 2 ∧ iv = .int .i64 (k : Nat) ∧ newestTo (writtenM d) k = r ∧ fv = .bool r.2 ∧ Has wr w1.heap.size 73 (hdC r.1) ∧ Has wr w.heap.size 73 (hdC hd0) ∧ DiskAt wr p kb mb n d ∧ Below w.heap.size w wr) (fun _ iv _ => 2 - (intOf iv).toNat)
  case atStart => exact ⟨0, (hd0, false), by decide, rfl, rfl, rfl, hX, hR2, hD2, hb2⟩
  case round =>
    clear hX hR2 hD2 hb2
    obtain ⟨k, r, hk, rfl, hr, rfl, hX, hR, hD, hb⟩ := hrel
    obtain ⟨best, found⟩ := r
    by_cases hlt : k < 2
    · have hltI : (k : Int) < 2 := by omega
      have hrd := jread_on p kb mb n k d wr hD ho (by omega)
      have hxl := hwl.out k hlt
      have hxn := hN.out k hlt
      have hbn := hNm.out k hk
      rw [hr] at hbn
      have hst := newest_step (writtenM d) k
      rw [hr] at hst
      obtain ⟨xs, hxs⟩ : ∃ x, writtenM d k = x := ⟨_, rfl⟩
      rw [hxs] at hrd hxl hxn hst
      replace hrd : Hid _ := hrd
      replace hst : Hid _ := hst
      replace hxl : Hid _ := hxl
      have hRl := hR.lt
      have hXl := hX.lt
      clear hr hxs
      go_wp2_with fail
      refine Calls.mono hrd.out ?_
      rintro e w3 ⟨g, hg, rfl, hG, hq⟩
      clear hrd
      have hX3 := hX.later hq
      have hR3 := hR.later hq
      have hD3 := hD.later hq
      have hb3 := hb.trans (hq.mono hb.size)
      have hho := headerOf_any g xs w3 hG hxl.out
      obtain ⟨hv, hhv⟩ : ∃ x, rdHd xs = x := ⟨_, rfl⟩
      obtain ⟨is, his⟩ : ∃ x, isHd xs = x := ⟨_, rfl⟩
      have hok := rdHd_ok xs hxl.out
      rw [hhv] at hok hxn hho
      rw [his] at hxn hho
      have htk : Hid (takesM xs k (best, found) = (is && (decide (hv.num % 2 = k) && (!found || decide (best.num < hv.num))))) := by
        show _ = _
        unfold takesM
        rw [hhv, his]
      rw [hhv] at hst
      replace hho : Hid _ := hho
      clear hX hR hD hb hq hG hhv his
      go_wp2_with fail
      refine Calls.mono hho.out ?_
      rintro e w4 ⟨rfl, hq⟩
      clear hho
      have hX4 := hX3.later hq
      have hR4 := hR3.later hq
      have hD4 := hD3.later hq
      have hb4 := hb3.trans (hq.mono hb3.size)
      obtain ⟨w5, hw5, hH, hq5⟩ := new_var w4 73 (hdC hd0) (hdC hv)
      have hX5 := hX4.later hq5
      have hR5 := hR4.later hq5
      have hD5 := hD4.later hq5
      have hb5 := hb4.trans (hq5.mono hb4.size)
      have hw45 : w1.heap.size < w4.heap.size := hX4.lt
      clear hX3 hX4 hR3 hR4 hD3 hD4 hb3 hb4 hq hq5
      cases is with
      | false =>
        have hfin : Hid (newestTo (writtenM d) (k + 1) = (best, found)) := by
          show _ = _
          rw [hst.out, htk.out]
          exact if_neg (by simp)
        clear hst htk
        go_wp2_with (first
          | (refine wpList_alloc_has (by rfl) 73 rfl (hdC hd0) hd_zero ?_)
          | (refine wpList_store_to (by rfl) 73 _ _ rfl w4.heap.size rfl (hdC hv) rfl 73 (hdC hd0) (hd_size _) rfl (hd_one _) ?hg w5 ?hW ?_; (case hg => exact Has.new _ _ _); (case hW => exact hw5); clear hw5)
          | fail)
        go_roundw
        case rel => exact ⟨k + 1, (best, found), by omega, by go_num, hfin.out, rfl, hX5, hR5, hD5, hb5⟩
        case measure => simp [intOf]; omega
      | true =>
        have hsl := slot_any hv w5 hok.num
        obtain ⟨sv, hsv⟩ : ∃ x, hv.num % 2 = x := ⟨_, rfl⟩
        rw [hsv] at hsl htk
        have hsb : sv < 2 := by omega
        replace hsl : Hid _ := hsl
        go_wp2_with (first
          | (refine wpList_alloc_has (by rfl) 73 rfl (hdC hd0) hd_zero ?_)
          | (refine wpList_store_to (by rfl) 73 _ _ rfl w4.heap.size rfl (hdC hv) rfl 73 (hdC hd0) (hd_size _) rfl (hd_one _) ?hg w5 ?hW ?_; (case hg => exact Has.new _ _ _); (case hW => exact hw5); clear hw5)
          | (refine wpList_load_has (by rfl) 73 _ rfl w4.heap.size rfl 73 (hdC hv) _ Tryz.underlying73 rfl (hd_size _) ?hg ?_; (case hg => exact hH))
          | fail)
        refine Calls.mono hsl.out ?_
        rintro e w6 ⟨rfl, hq⟩
        clear hsl
        have hX6 := hX5.later hq
        have hR6 := hR5.later hq
        have hD6 := hD5.later hq
        have hH6 := hH.later hq
        have hb6 := hb5.trans (hq.mono hb5.size)
        clear hX5 hR5 hD5 hH hb5 hq
        by_cases hs : sv = k
        · subst hs
          cases found with
          | false =>
            have hfin : Hid (newestTo (writtenM d) (sv + 1) = (hv, true)) := by
              show _ = _
              rw [hst.out, htk.out]
              exact if_pos (by simp)
            clear hst htk
            have hbt : But w1.heap.size w6 (w6.setRow w1.heap.size (hdC hv)) := but_row _ _
            have hX7 := hX6.row (hdC hv)
            have hR7 := hbt.has hR6 (by have := s1.out; omega)
            have hD7 : DiskAt (w6.setRow w1.heap.size (hdC hv)) p kb mb n d := by
              obtain ⟨st, hXd⟩ := hD6.disk
              have g1 : p ≠ w1.heap.size := has_apart hXd hX6 (by decide)
              have g2 : kb ≠ w1.heap.size := has_apart hD6.dat hX6 (by decide)
              have g3 : w1.heap.size ≠ mb := hX6.not_map hD6.pend
              exact hD6.offs (OffF.but hbt) g1 g2 (fun z => g3 z.symm)
            have hb7 := below_setRow hb6 (show w.heap.size ≤ w1.heap.size by have := s1.out; omega) (hdC hv)
            obtain ⟨w7, hw7⟩ : ∃ W, w6.setRow w1.heap.size (hdC hv) = W := ⟨_, rfl⟩
            rw [hw7] at hX7 hR7 hD7 hb7
            clear hR6 hD6 hb6 hbt
            go_wp2_with (first
              | (refine wpList_load_has (by rfl) 73 _ rfl w4.heap.size rfl 73 (hdC hv) _ Tryz.underlying73 rfl (hd_size _) ?hg ?_; (case hg => exact hH6))
              | (refine wpList_store_to (by rfl) 73 _ _ rfl w1.heap.size rfl (hdC hv) rfl 73 (hdC best) (hd_size _) rfl (hd_one _) ?hg w7 ?hW ?_; (case hg => exact hX6); (case hW => exact hw7); clear hw7)
              | fail)
            clear hX6 hH6
            go_roundw
            case rel => exact ⟨sv + 1, (hv, true), by omega, by go_num, hfin.out, rfl, hX7, hR7, hD7, hb7⟩
            case measure => simp [intOf]; omega
          | true =>
            have hfo := follows_any hv best w6 (hxn trivial) hbn
            obtain ⟨fo, hfo'⟩ : ∃ x, decide (best.num < hv.num) = x := ⟨_, rfl⟩
            rw [hfo'] at hfo htk
            replace hfo : Hid _ := hfo
            clear hfo'
            go_wp2_with (first
              | (refine wpList_load_has (by rfl) 73 _ rfl w4.heap.size rfl 73 (hdC hv) _ Tryz.underlying73 rfl (hd_size _) ?hg ?_; (case hg => exact hH6))
              | (refine wpList_load_has (by rfl) 73 _ rfl w1.heap.size rfl 73 (hdC best) _ Tryz.underlying73 rfl (hd_size _) ?hg ?_; (case hg => exact hX6))
              | fail)
            refine Calls.mono hfo.out ?_
            rintro e w7 ⟨rfl, hq⟩
            clear hfo
            have hX7 := hX6.later hq
            have hR7 := hR6.later hq
            have hD7 := hD6.later hq
            have hH7 := hH6.later hq
            have hb7 := hb6.trans (hq.mono hb6.size)
            clear hX6 hR6 hD6 hH6 hb6 hq
            cases fo with
            | true =>
              have hfin : Hid (newestTo (writtenM d) (sv + 1) = (hv, true)) := by
                show _ = _
                rw [hst.out, htk.out]
                exact if_pos (by simp)
              clear hst htk
              have hbt : But w1.heap.size w7 (w7.setRow w1.heap.size (hdC hv)) := but_row _ _
              have hX8 := hX7.row (hdC hv)
              have hR8 := hbt.has hR7 (by have := s1.out; omega)
              have hD8 : DiskAt (w7.setRow w1.heap.size (hdC hv)) p kb mb n d := by
                obtain ⟨st, hXd⟩ := hD7.disk
                have g1 : p ≠ w1.heap.size := has_apart hXd hX7 (by decide)
                have g2 : kb ≠ w1.heap.size := has_apart hD7.dat hX7 (by decide)
                have g3 : w1.heap.size ≠ mb := hX7.not_map hD7.pend
                exact hD7.offs (OffF.but hbt) g1 g2 (fun z => g3 z.symm)
              have hb8 := below_setRow hb7 (show w.heap.size ≤ w1.heap.size by have := s1.out; omega) (hdC hv)
              obtain ⟨w8, hw8⟩ : ∃ W, w7.setRow w1.heap.size (hdC hv) = W := ⟨_, rfl⟩
              rw [hw8] at hX8 hR8 hD8 hb8
              clear hR7 hD7 hb7 hbt
              go_wp2_with (first
                | (refine wpList_load_has (by rfl) 73 _ rfl w4.heap.size rfl 73 (hdC hv) _ Tryz.underlying73 rfl (hd_size _) ?hg ?_; (case hg => exact hH7))
                | (refine wpList_store_to (by rfl) 73 _ _ rfl w1.heap.size rfl (hdC hv) rfl 73 (hdC best) (hd_size _) rfl (hd_one _) ?hg w8 ?hW ?_; (case hg => exact hX7); (case hW => exact hw8); clear hw8)
                | fail)
              clear hX7 hH7
              go_roundw
              case rel => exact ⟨sv + 1, (hv, true), by omega, by go_num, hfin.out, rfl, hX8, hR8, hD8, hb8⟩
              case measure => simp [intOf]; omega
            | false =>
              have hfin : Hid (newestTo (writtenM d) (sv + 1) = (best, true)) := by
                show _ = _
                rw [hst.out, htk.out]
                exact if_neg (by simp)
              clear hst htk hH7
              go_wp2
              go_roundw
              case rel => exact ⟨sv + 1, (best, true), by omega, by go_num, hfin.out, rfl, hX7, hR7, hD7, hb7⟩
              case measure => simp [intOf]; omega
        · have hsI : ¬ (sv : Int) = (k : Int) := by omega
          have hsB : ((sv : Int) == (k : Int)) = false := by rw [beq_eq_false_iff_ne]; exact hsI
          have hfin : Hid (newestTo (writtenM d) (k + 1) = (best, found)) := by
            show _ = _
            rw [hst.out, htk.out]
            exact if_neg (by simp [hs])
          clear hst htk hH6 hs
          go_wp2
          go_roundw
          case rel => exact ⟨k + 1, (best, found), by omega, by go_num, hfin.out, rfl, hX6, hR6, hD6, hb6⟩
          case measure => simp [intOf]; omega
    · have hk2 : k = 2 := by omega
      subst hk2
      have hfin : Hid (newestTo (writtenM d) 2 = (best, found)) := hr
      have hRf := hR.row (hdC best)
      have hE : Hid (Below w.heap.size w (wr.setRow w.heap.size (hdC best))) := below_setRow hb (Nat.le_refl _) _
      clear hr hD hb
      go_wp2_with (first
        | (refine wpList_load_has (by rfl) 73 _ rfl w1.heap.size rfl 73 (hdC best) _ Tryz.underlying73 rfl (hd_size _) ?hg ?_; (case hg => exact hX))
        | (refine wpList_store_to (by rfl) 73 _ _ rfl w.heap.size rfl (hdC best) rfl 73 (hdC hd0) (hd_size _) rfl (hd_one _) ?hg _ rfl ?_; (case hg => exact hR))
        | fail)
      exact ret_has_tmp rfl w.heap.size rfl 73 (hdC best) _ Tryz.underlying73 rfl (hd_size _) hRf rfl ⟨by rw [hfin.out]; rfl, hE.out⟩
end

section
set_option linter.unusedSimpArgs false
set_option linter.unusedVariables false
set_option maxRecDepth 100000
open Go.RowKit Go.MapKept

theorem txt_rec (s : List UInt8) : txtB (mkS s) = recB s := by
  unfold txtB recB
  rw [mkS_size]
  congr 1
theorem hset_len (h : HdV) (x : Nat) : (hdC h).setIfInBounds 2 (.int .i64 (x : Int)) = hdC ⟨h.num, h.half, x, h.sum⟩ := rfl
theorem hset_sum (h : HdV) (x : Nat) : (hdC h).setIfInBounds 3 (.int .u64 (x : Int)) = hdC ⟨h.num, h.half, h.len, x⟩ := rfl
theorem hset_num (h : HdV) (x : Nat) : (hdC h).setIfInBounds 0 (.int .u64 (x : Int)) = hdC ⟨x, h.half, h.len, h.sum⟩ := rfl
set_option maxHeartbeats 2000000 in
theorem with_any (h : HdV) (s : List UInt8) (w : World) (hl : h.len ≤ 1000000000) (hs : s.length ≤ 65535) (hu : h.sum < 18446744073709551616) :
    Calls Tryz.prog 59 #[.agg (hdC h), strV s] w fun e w' => e = .returned (.agg (hdC (withM h s))) ∧ Below w.heap.size w w' := by
  obtain ⟨w1, hw1, hX, hR, hb1⟩ := two_vars w 73 73 (hdC h) (hdC hd0)
  have hz := mkS_size s
  have c2 := hX.hd_len
  have f2 := hX.free 2
  have hX2 := hX.set 2 (.int .i64 ((h.len + (s.length + 2) : Nat) : Int))
  rw [hset_len] at hX2
  have hR2 := hR.set_other (a := ⟨w.heap.size, 2, none⟩) (show w.heap.size + 1 ≠ w.heap.size by omega) (.int .i64 ((h.len + (s.length + 2) : Nat) : Int))
  have hb2 := hb1.setCell (p := ⟨w.heap.size, 2, none⟩) (Nat.le_refl _) (.int .i64 ((h.len + (s.length + 2) : Nat) : Int))
  obtain ⟨w2, hw2⟩ : ∃ W, w1.setCell ⟨w.heap.size, 2, none⟩ (.int .i64 ((h.len + (s.length + 2) : Nat) : Int)) = W := ⟨_, rfl⟩
  rw [hw2] at hX2 hR2 hb2
  have c3 : w2.cell? ⟨w.heap.size, 3, none⟩ = some (.int .u64 (h.sum : Int)) := hX2.hd_sum
  have hp := putJ none 0 0 [] h.sum 8 w2 (By.nothing _) rfl (by decide) hu (by decide) (by decide)
  obtain ⟨sl, hsl⟩ : ∃ n, (mkS s).size = n := ⟨_, rfl⟩
  have hsls : sl = s.length := hsl.symm.trans hz
  obtain ⟨hlv, hlv'⟩ : ∃ n, h.len = n := ⟨_, rfl⟩
  rw [hlv'] at hl c2
  have hw2' : w1.setCell ⟨w.heap.size, 2, none⟩ (.int .i64 ((hlv : Int) + (2 + (sl : Int)))) = w2 := by
    rw [← hw2, hlv', hsls]
    congr 2
    omega
  have e1 : IntKind.i64.wrap (2 + (sl : Int)) = 2 + (sl : Int) := by rw [IntKind.wrap_i64]; omega
  have e2 : IntKind.i64.wrap ((hlv : Int) + (2 + (sl : Int))) = (hlv : Int) + (2 + (sl : Int)) := by rw [IntKind.wrap_i64]; omega
  replace hp : Hid _ := hp
  have hsls' : Hid (sl = s.length) := hsls
  have hlv2 : Hid (h.len = hlv) := hlv'
  clear hz hw2 hX hR hb1 hlv' hsls hl
  unfold strV
  go_enter Tryz.func59, Tryz.ntmps59
  go_wp2_with (first
    | (refine Go.Great.wpList_boxTo rfl 73 _ rfl _ rfl w.heap.size rfl (hdC h) rfl ?_)
    | (refine wpList_alloc_has (by rfl) 73 rfl (hdC hd0) hd_zero ?_; rw [hw1]; clear hw1)
    | fail)
  refine Calls.mono hp.out ?_
  rintro e w3 ⟨rfl, hB3, -, hq3⟩
  clear hp
  replace hB3 : By w3 (some ⟨w2.heap.size, 0, none⟩) 8 (putB h.sum 8) := hB3
  have ht := text_any (some ⟨w2.heap.size, 0, none⟩) 8 8 (putB h.sum 8) (mkS s) w3 hB3 (putB_length _ _).symm (by decide) (by rw [mkS_size]; exact hs)
  rw [hsl, txt_rec] at ht
  replace ht : Hid _ := ht
  have hX3 := hX2.later hq3
  have hR3 := hR2.later hq3
  have hb3 := hb2.trans (hq3.mono hb2.size)
  clear hB3 hX2 hR2 hb2 hq3 c3
  go_wp2_with fail
  refine Calls.mono ht.out ?_
  rintro e w4 ⟨g, c4, rfl, hB4, hq4⟩
  clear ht
  have hX4 := hX3.later hq4
  have hR4 := hR3.later hq4
  have hb4 := hb3.trans (hq4.mono hb3.size)
  have hsm := sum_any (some ⟨g, 0, none⟩) (8 + (sl + 2)) c4 (putB h.sum 8 ++ recB s) w4 hB4 (by rw [List.length_append, putB_length, recB_length, hsls'.out])
  have hst : sumN (putB h.sum 8 ++ recB s) = sumStepM h.sum s := rfl
  rw [hst] at hsm
  obtain ⟨u, hu2⟩ : ∃ u, sumStepM h.sum s = u := ⟨_, rfl⟩
  rw [hu2] at hsm
  replace hsm : Hid _ := hsm
  have hW : Hid (withM h s = ⟨h.num, h.half, h.len + (s.length + 2), u⟩) := by
    show _ = _
    unfold withM
    rw [hu2]
  clear hB4 hX3 hR3 hb3 hq4 hst hu2
  go_wp2_with fail
  refine Calls.mono hsm.out ?_
  rintro e w5 ⟨rfl, rfl⟩
  clear hsm
  have c5 : ∃ v, w5.cell? ⟨w.heap.size, 3, none⟩ = some v := ⟨_, hX4.hd_sum⟩
  obtain ⟨v5, c5⟩ := c5
  have f5 := hX4.free 3
  have hX5 := hX4.set 3 (.int .u64 (u : Int))
  rw [hset_sum] at hX5
  have hR5 := hR4.set_other (a := ⟨w.heap.size, 3, none⟩) (show w.heap.size + 1 ≠ w.heap.size by omega) (.int .u64 (u : Int))
  have hb5 := hb4.setCell (p := ⟨w.heap.size, 3, none⟩) (Nat.le_refl _) (.int .u64 (u : Int))
  obtain ⟨w6, hw6⟩ : ∃ W, w5.setCell ⟨w.heap.size, 3, none⟩ (.int .u64 (u : Int)) = W := ⟨_, rfl⟩
  rw [hw6] at hX5 hR5 hb5
  replace hX5 : Has w6 w.heap.size 73 (hdC (withM h s)) := by rw [hW.out]; exact hX5
  have hRf := hR5.row (hdC (withM h s))
  have hE : Hid (Below w.heap.size w (w6.setRow (w.heap.size + 1) (hdC (withM h s)))) := below_setRow hb5 (Nat.le_succ _) _
  clear hX4 hR4 hb4 hb5
  go_wp2_with (first
    | (refine wpList_load_has (by rfl) 73 _ rfl w.heap.size rfl 73 (hdC (withM h s)) _ Tryz.underlying73 rfl (hd_size _) ?hg ?_; (case hg => exact hX5))
    | (refine wpList_store_to (by rfl) 73 _ _ rfl (w.heap.size + 1) rfl (hdC (withM h s)) rfl 73 (hdC hd0) (hd_size _) rfl (hd_one _) ?hg _ rfl ?_; (case hg => exact hR5))
    | fail)
  exact ret_has rfl (w.heap.size + 1) rfl 73 (hdC (withM h s)) _ Tryz.underlying73 rfl (hd_size _) hRf rfl ⟨rfl, hE.out⟩
/-! Rows of records. -/
structure Strs (w : World) (ao : Option Addr) (c : Nat) (l : List (List UInt8)) : Prop where
  le : l.length ≤ c
  cap : c ≤ 9223372036854775807
  nil : ao = none → c = 0
  cell : ∀ ad, ao = some ad → ∀ i (h : i < l.length), w.cell? (ad.add i) = some (strV l[i])
theorem Strs.nothing (w : World) : Strs w none 0 [] := ⟨Nat.le_refl _, by decide, fun _ => rfl, fun _ h => by cases h⟩
theorem Strs.same {a b : World} {ao : Option Addr} {c : Nat} {l : List (List UInt8)} (h : Strs a ao c l) (k : ∀ ad, ao = some ad → b.heap[ad.block]? = a.heap[ad.block]?) : Strs b ao c l := by
  refine ⟨h.le, h.cap, h.nil, fun ad had i hi => ?_⟩
  have e : (ad.add i).block = ad.block := by unfold Addr.add; split <;> rfl
  rw [World.cell?_of_block (w := a) (by rw [e]; exact k ad had)]
  exact h.cell ad had i hi
theorem Strs.later {a b : World} {ao : Option Addr} {c : Nat} {l : List (List UInt8)} (h : Strs a ao c l) (hb : Below a.heap.size a b) : Strs b ao c l := by
  refine ⟨h.le, h.cap, h.nil, fun ad had i hi => ?_⟩
  have hc := h.cell ad had i hi
  rw [hb.cell (World.block_lt_of_cell? a _ hc)]
  exact hc
theorem taken_any (ao : Option Addr) (c : Nat) (l : List (List UInt8)) (w : World) (h : Strs w ao c l) (hl : takenM l ≤ 1000000000) :
    Calls Tryz.prog 68 #[.slice ao l.length c] w fun e w' => e = .returned (.int .i64 (takenM l : Nat)) ∧ w' = w := by
  have hle := h.le
  have hcap := h.cap
  have h16 : ∀ k, k ≤ l.length → 16 * l.length + ((l.take k).map List.length).sum + ((l.drop k).map List.length).sum = takenM l := by
    intro k hk
    have e1 : ∀ m : List (List UInt8), takenM m = 16 * m.length + (m.map List.length).sum := by
      intro m
      induction m with
      | nil => rfl
      | cons a m ih =>
        unfold takenM at *
        rw [List.map_cons, List.sum_cons, ih, List.length_cons, List.map_cons, List.sum_cons]
        omega
    rw [e1 l]
    have : (l.map List.length).sum = ((l.take k).map List.length).sum + ((l.drop k).map List.length).sum := by
      rw [← List.sum_append, ← List.map_append, List.take_append_drop]
    omega
  obtain ⟨L, hL⟩ : ∃ L, l.length = L := ⟨_, rfl⟩
  rw [hL] at hle h16 ⊢
  have h16' : Hid _ := h16
  have hb16 := h16 0 (Nat.zero_le _)
  have hLb : L ≤ 1000000000 := by omega
  replace hL : Hid _ := hL
  have e16 : IntKind.i64.wrap (16 * (L : Int)) = ((16 * L : Nat) : Int) := by rw [IntKind.wrap_i64]; omega
  clear h16 hb16
  go_enter Tryz.func68, Tryz.ntmps68
  go_wp2
  go_loopw [3, 11] (fun nv iv wr => ∃ k, k ≤ L ∧ iv = .int .i64 (k : Nat) ∧ nv = .int .i64 (16 * L + ((l.take k).map List.length).sum : Nat) ∧ wr = w) (fun _ iv _ => L - (intOf iv).toNat)
  case atStart => exact ⟨0, Nat.zero_le _, rfl, by simp, rfl⟩
  case round =>
    obtain ⟨k, hk, rfl, rfl, rfl⟩ := hrel
    by_cases hlt : k < L
    · have hkl : k < l.length := by rw [hL.out]; exact hlt
      cases ao with
      | none => have := h.nil rfl; omega
      | some ad =>
        have hc := h.cell ad rfl k hkl
        have hz := mkS_size l[k]
        have hsum : Hid (16 * L + ((l.take k).map List.length).sum + l[k].length = 16 * L + ((l.take (k + 1)).map List.length).sum) := by
          show _ = _
          rw [List.take_succ_eq_append_getElem hkl, List.map_append, List.sum_append]
          simp
          omega
        have hbd := h16'.out (k + 1) (by omega)
        have hbd2 : 16 * L + ((l.take k).map List.length).sum + l[k].length ≤ 1000000000 := by rw [hsum.out]; omega
        obtain ⟨A, hA⟩ : ∃ A, 16 * L + ((l.take k).map List.length).sum = A := ⟨_, rfl⟩
        obtain ⟨B, hB⟩ : ∃ B, l[k].length = B := ⟨_, rfl⟩
        obtain ⟨s, hs⟩ : ∃ s, l[k] = s := ⟨_, rfl⟩
        rw [hA, hB] at hsum hbd2
        rw [hB, hs] at hz
        rw [hs] at hc
        rw [hA]
        unfold strV at hc
        have hltI : (k : Int) < (L : Int) := by omega
        clear hbd hs hB hA hkl
        go_wp2
        go_roundw
        case rel => exact ⟨k + 1, by omega, by go_num, by rw [← hsum.out]; go_num, trivial⟩
        case measure => simp [intOf]; omega
    · have hkL : k = L := by omega
      subst hkL
      have hfin : Hid (16 * k + ((l.take k).map List.length).sum = takenM l) := by
        have := h16'.out k (Nat.le_refl _)
        rw [List.drop_of_length_le (by rw [hL.out]; exact Nat.le_refl _)] at this
        show _ = _
        simpa using this
      go_wp2
      go_ret
      exact ⟨by rw [← hfin.out]; rfl, rfl⟩
end
end Go.Proofs.YtpnpjblohijajabGreat
