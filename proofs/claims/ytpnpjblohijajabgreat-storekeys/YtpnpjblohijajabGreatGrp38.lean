/- StoSmall, joined. -/
import Derived.Test.YtpnpjblohijajabGreatGrp10
import Derived.Test.YtpnpjblohijajabGreatGrp37
namespace Go.Proofs.YtpnpjblohijajabGreat
section
set_option linter.unusedSimpArgs false
set_option linter.unusedVariables false
set_option maxRecDepth 100000
open Go.RowKit Go.MapKept

theorem Has.wr_key {w : World} {g : Nat} {t : TypeId} {x : WrV} (k : Has w g t (wrC x)) : w.cell? ⟨g, 0, none⟩ = some (strV x.key) := (k.cell 0).trans rfl
theorem Has.wr_bs {w : World} {g : Nat} {t : TypeId} {x : WrV} (k : Has w g t (wrC x)) : w.cell? ⟨g, 1, none⟩ = some (strV x.bs) := (k.cell 1).trans rfl
theorem Has.wr_drop {w : World} {g : Nat} {t : TypeId} {x : WrV} (k : Has w g t (wrC x)) : w.cell? ⟨g, 2, none⟩ = some (.bool x.drop) := (k.cell 2).trans rfl
def markN (d : Bool) : Nat := if d then 1 else 0
theorem mkS_eqS (s t : List UInt8) : ((mkS s).toList == (mkS t).toList) = decide (s = t) := by
  have e : ∀ l, (mkS l).toList = l := fun l => by rw [ByteArray.toList_eq]; unfold mkS; simp
  rw [e, e]
  by_cases h : s = t
  · rw [decide_eq_true h, h]; simp
  · rw [decide_eq_false h, beq_eq_false_iff_ne]; exact h
theorem markOf_any (x : WrV) (w : World) : Calls Tryz.prog 72 #[.agg (wrC x)] w fun e w' => e = .returned (.int .u64 (markN x.drop : Nat)) ∧ Below w.heap.size w w' := by
  obtain ⟨w1, hw1, hX, hb⟩ := one_var w 32 (wrC x)
  have c2 := hX.wr_drop
  obtain ⟨k, b, d⟩ := x
  replace c2 : w1.cell? ⟨w.heap.size, 2, none⟩ = some (.bool d) := c2
  clear hX
  cases d <;>
  · go_enter Tryz.func72, Tryz.ntmps72
    go_wp2_with (first
      | (refine Go.Great.wpList_boxTo rfl 32 _ rfl _ rfl w.heap.size rfl (wrC ⟨k, b, _⟩) rfl ?_; rw [hw1]; clear hw1)
      | fail)
    go_ret
    exact ⟨rfl, hb⟩
open Classical in
set_option maxHeartbeats 2000000 in
theorem isWrite_any (x : WrV) (w : World) (hk : x.key.length ≤ 140737488355328) (hb : x.bs.length ≤ 140737488355328) : Calls Tryz.prog 36 #[.agg (wrC x)] w fun e w' => e = .returned (.bool (decide (IsWr x))) ∧ Below w.heap.size w w' := by
  obtain ⟨w1, hw1, hX, hq⟩ := one_var w 32 (wrC x)
  have c0 := hX.wr_key
  have c1 := hX.wr_bs
  have c2 := hX.wr_drop
  obtain ⟨R, hR⟩ : ∃ R, decide (IsWr x) = R := ⟨_, rfl⟩
  rw [hR]
  replace hR : Hid _ := hR
  obtain ⟨k, b, d⟩ := x
  replace c0 : w1.cell? ⟨w.heap.size, 0, none⟩ = some (.string (mkS k)) := c0
  replace c1 : w1.cell? ⟨w.heap.size, 1, none⟩ = some (.string (mkS b)) := c1
  replace c2 : w1.cell? ⟨w.heap.size, 2, none⟩ = some (.bool d) := c2
  have zk := mkS_size k
  have zb := mkS_size b
  obtain ⟨n, hn⟩ : ∃ n, (mkS k).size = n := ⟨_, rfl⟩
  obtain ⟨m, hm⟩ : ∃ n, (mkS b).size = n := ⟨_, rfl⟩
  have hnk : Hid (n = k.length) := hn.symm.trans zk
  have hmb : Hid (m = b.length) := hm.symm.trans zb
  replace hk : n ≤ 140737488355328 := by rw [hnk.out]; exact hk
  replace hb : m ≤ 140737488355328 := by rw [hmb.out]; exact hb
  have he : ((mkS b).toList == (mkS []).toList) = decide (b = []) := mkS_eqS b []
  clear zk zb hX
  by_cases h1 : n < 1
  · obtain rfl : R = false := hR.out.symm.trans (decide_eq_false fun h => by have := h.k1; have := hnk.out; simp at *; omega)
    have h1' : (n : Int) < 1 := by omega
    clear he
    go_enter Tryz.func36, Tryz.ntmps36
    go_wp2_with (first
      | (refine Go.Great.wpList_boxTo rfl 32 _ rfl _ rfl w.heap.size rfl (wrC ⟨k, b, d⟩) rfl ?_; rw [hw1]; clear hw1)
      | fail)
    go_ret
    exact ⟨rfl, hq⟩
  · have h1' : ¬ (n : Int) < 1 := by omega
    by_cases h2 : 20 < n
    · obtain rfl : R = false := hR.out.symm.trans (decide_eq_false fun h => by have := h.k2; have := hnk.out; simp at *; omega)
      have h2' : (20 : Int) < (n : Int) := by omega
      clear he
      go_enter Tryz.func36, Tryz.ntmps36
      go_wp2_with (first
        | (refine Go.Great.wpList_boxTo rfl 32 _ rfl _ rfl w.heap.size rfl (wrC ⟨k, b, d⟩) rfl ?_; rw [hw1]; clear hw1)
        | fail)
      go_ret
      exact ⟨rfl, hq⟩
    · have h2' : ¬ (20 : Int) < (n : Int) := by omega
      cases d with
      | true =>
        have hfin : Hid (decide (b = []) = R) := by
          show _ = _
          rw [← hR.out]
          by_cases hb0 : b = []
          · rw [decide_eq_true hb0, decide_eq_true ⟨by have := hnk.out; show 1 ≤ k.length; omega, by have := hnk.out; show k.length ≤ 20; omega, by rw [hb0]; exact Nat.zero_le _, fun _ => hb0⟩]
          · rw [decide_eq_false hb0, decide_eq_false fun h => hb0 (h.d rfl)]
        have hE : Hid ((mkS b).toList.isEmpty = R) := by
          show _ = _
          rw [← hfin.out, ← he]
          have e : ∀ l, (mkS l).toList = l := fun l => by rw [ByteArray.toList_eq]; unfold mkS; simp
          rw [e, e]
          cases b <;> rfl
        clear he
        go_enter Tryz.func36, Tryz.ntmps36
        go_wp2_with (first
          | (refine Go.Great.wpList_boxTo rfl 32 _ rfl _ rfl w.heap.size rfl (wrC ⟨k, b, true⟩) rfl ?_; rw [hw1]; clear hw1)
          | fail)
        go_ret
        exact ⟨by show Ending.returned (.bool (mkS b).toList.isEmpty) = _; rw [hE.out], hq⟩
      | false =>
        clear he
        by_cases h3 : m ≤ 6000
        · obtain rfl : R = true := hR.out.symm.trans (decide_eq_true ⟨by have := hnk.out; show 1 ≤ k.length; omega, by have := hnk.out; show k.length ≤ 20; omega, by have := hmb.out; show b.length ≤ 6000; omega, fun h => by cases h⟩)
          have h3' : (m : Int) ≤ 6000 := by omega
          go_enter Tryz.func36, Tryz.ntmps36
          go_wp2_with (first
            | (refine Go.Great.wpList_boxTo rfl 32 _ rfl _ rfl w.heap.size rfl (wrC ⟨k, b, false⟩) rfl ?_; rw [hw1]; clear hw1)
            | fail)
          go_ret
          exact ⟨rfl, hq⟩
        · obtain rfl : R = false := hR.out.symm.trans (decide_eq_false fun h => h3 (by rw [hmb.out]; exact h.b))
          have h3' : ¬ (m : Int) ≤ 6000 := by omega
          go_enter Tryz.func36, Tryz.ntmps36
          go_wp2_with (first
            | (refine Go.Great.wpList_boxTo rfl 32 _ rfl _ rfl w.heap.size rfl (wrC ⟨k, b, false⟩) rfl ?_; rw [hw1]; clear hw1)
            | fail)
          go_ret
          exact ⟨rfl, hq⟩
open Classical in
set_option maxHeartbeats 4000000 in
theorem isTx_any (ao : Option Addr) (c : Nat) (t : List WrV) (w : World) (h : Wrs w ao c t) (he : ∀ x ∈ t, x.key.length ≤ 140737488355328 ∧ x.bs.length ≤ 140737488355328) :
    Calls Tryz.prog 17 #[.slice ao t.length c] w fun e w' => e = .returned (.bool (decide (IsTx t))) ∧ Below w.heap.size w w' := by
  have hle := wrs_le h
  have hcap := h.cap
  obtain ⟨R, hR⟩ : ∃ R, decide (IsTx t) = R := ⟨_, rfl⟩
  rw [hR]
  replace hR : Hid _ := hR
  replace he : Hid _ := he
  obtain ⟨L, hL⟩ : ∃ L, t.length = L := ⟨_, rfl⟩
  rw [hL] at hle ⊢
  replace hL : Hid _ := hL
  by_cases h1 : L < 1
  · obtain rfl : R = false := hR.out.symm.trans (decide_eq_false fun h => by have := h.n1; have := hL.out; omega)
    have h1' : (L : Int) < 1 := by omega
    go_enter Tryz.func17, Tryz.ntmps17
    go_wp2
    go_ret
    exact ⟨rfl, Below.refl _ _⟩
  · have h1' : ¬ (L : Int) < 1 := by omega
    by_cases h2 : 20 < L
    · obtain rfl : R = false := hR.out.symm.trans (decide_eq_false fun h => by have := h.n2; have := hL.out; omega)
      have h2' : (20 : Int) < (L : Int) := by omega
      go_enter Tryz.func17, Tryz.ntmps17
      go_wp2
      go_ret
      exact ⟨rfl, Below.refl _ _⟩
    · have h2' : ¬ (20 : Int) < (L : Int) := by omega
      go_enter Tryz.func17, Tryz.ntmps17
      go_wp2
      go_loopw [15] (fun iv wr => ∃ k, k ≤ L ∧ iv = .int .i64 (k : Nat) ∧ Hid (∀ x ∈ t.take k, IsWr x) ∧ Below w.heap.size w wr) (fun iv _ => L - (intOf iv).toNat)
      case atStart => exact ⟨0, Nat.zero_le _, rfl, by show ∀ x ∈ t.take 0, IsWr x; rw [List.take_zero]; exact fun x hx => absurd hx List.not_mem_nil, Below.refl _ _⟩
      case round =>
        obtain ⟨k, hk, rfl, hall, hb⟩ := hrel
        by_cases hlt : k < L
        · have hkl : k < t.length := by rw [hL.out]; exact hlt
          have hltI : (k : Int) < (L : Int) := by omega
          cases ao with
          | none => have := h.nil rfl; omega
          | some ad =>
            have hc := wr_at (h.later hb) k hkl
            have hwr := isWrite_any t[k]
            have hlen := he.out t[k] (List.getElem_mem hkl)
            have hyes : Hid (IsWr t[k] → ∀ x ∈ t.take (k + 1), IsWr x) := fun hi x hx => by
              rw [List.take_succ_eq_append_getElem hkl] at hx
              rcases List.mem_append.1 hx with hx | hx
              · exact hall.out x hx
              · rw [List.mem_singleton.1 hx]; exact hi
            have hno : Hid (¬ IsWr t[k] → ¬ IsTx t) := fun hi h => hi (h.each _ (List.getElem_mem hkl))
            obtain ⟨x, hx⟩ : ∃ x, t[k] = x := ⟨_, rfl⟩
            rw [hx] at hc hwr hlen hyes hno
            obtain ⟨w2, hw2, hX, hb2⟩ := new_var wr 32 (wrC wr0) (wrC x)
            have hsz := hb.size
            have hb3 := hb.trans (hb2.mono hsz)
            obtain ⟨q, hq⟩ : ∃ q, decide (IsWr x) = q := ⟨_, rfl⟩
            replace hwr := hwr w2 hlen.1 hlen.2
            rw [hq] at hwr
            have hq' : Hid (decide (IsWr x) = q) := hq
            replace hwr : Hid _ := hwr
            have hsz3 := hb3.size
            clear hx hkl hlen hall hq
            go_wp2_with (first
              | (refine load_wr_at x (by rfl) _ rfl (ad.add (k * 3)) rfl hc ?_)
              | (refine alloc_wr (by rfl) rfl ?_)
              | (refine store_wr x wr0 (by rfl) _ _ rfl wr.heap.size rfl rfl (Has.new _ _ _) ?_; rw [hw2]; clear hw2)
              | (refine load_wr x (by rfl) _ rfl wr.heap.size rfl hX ?_)
              | fail)
            refine Calls.mono hwr.out ?_
            rintro e w3 ⟨rfl, hq3⟩
            have hb4 := hb3.trans (hq3.mono hsz3)
            clear hwr hc hX hb2 hq3 hb3 hb
            cases q with
            | true =>
              have hall2 : Hid (∀ x ∈ t.take (k + 1), IsWr x) := hyes.out (of_decide_eq_true hq'.out)
              clear hyes hno hq'
              go_wp2
              go_roundw
              case rel => exact ⟨k + 1, by omega, by go_num, hall2, hb4⟩
              case measure => simp [intOf]; omega
            | false =>
              obtain rfl : R = false := hR.out.symm.trans (decide_eq_false (hno.out (of_decide_eq_false hq'.out)))
              clear hyes hno hq'
              go_wp2
              go_ret
              exact ⟨rfl, hb4⟩
        · have hkL : k = L := by omega
          have hall2 := hall.out
          rw [hkL, ← hL.out, List.take_length] at hall2
          obtain rfl : R = true := hR.out.symm.trans (decide_eq_true ⟨by have := hL.out; omega, by have := hL.out; omega, hall2⟩)
          subst hkL
          clear hall hall2
          go_wp2
          go_ret
          exact ⟨rfl, hb⟩
end
end Go.Proofs.YtpnpjblohijajabGreat
