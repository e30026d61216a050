/- Whether a state is looked at: the laws' few. -/
import Derived.Test.YtphlfepgaghhhaaMergeMem
namespace Go.Proofs.Ytphlfepgaghhhaa
set_option linter.unusedSimpArgs false
set_option linter.unusedVariables false
set_option maxRecDepth 100000
open Go.RowKit

def fewObj (b : BaseV) (n : Nat) : Bool := decide (∀ i : Fin 6, i.val < n → (b.obj i).data.length ≤ 100)
def fewM (s : StV) (m : Nat) : Bool := fewObj s.base 6 && decide (s.log.length ≤ m)
theorem fewObj_step {b : BaseV} {n : Nat} (h : n < 6) : fewObj b (n + 1) = (fewObj b n && decide ((b.obj ⟨n, h⟩).data.length ≤ 100)) := by
  unfold fewObj
  rw [Bool.eq_iff_iff, Bool.and_eq_true, decide_eq_true_iff, decide_eq_true_iff, decide_eq_true_iff]
  constructor
  · intro hx
    exact ⟨fun i hi => hx i (by omega), hx ⟨n, h⟩ (by show n < n + 1; omega)⟩
  · rintro ⟨h1, h2⟩ i hi
    by_cases hin : i.val < n
    · exact h1 i hin
    · have e : i = ⟨n, h⟩ := Fin.ext (by show i.val = n; omega)
      rw [e]
      exact h2
theorem fewObj_no {b : BaseV} {n : Nat} (hn : n ≤ 6) (h : fewObj b n = false) : fewObj b 6 = false := by
  cases hq : fewObj b 6 with
  | false => rfl
  | true =>
    unfold fewObj at h hq
    rw [decide_eq_true_iff] at hq
    rw [decide_eq_false_iff_not] at h
    exact absurd (fun i hi => hq i (by omega)) h
theorem objs_data (f : Fin 6 → ObjV) (i : Fin 6) : (objsL f)[i.val * 5 + 1]? = some (strV (f i).data) := by
  match i with
  | 0 => rfl
  | 1 => rfl
  | 2 => rfl
  | 3 => rfl
  | 4 => rfl
  | 5 => rfl
theorem Has.st_data {w : World} {g : Nat} {s : StV} {ao : Option Addr} {c : Nat} (h : Has w g 40 (stC s ao c)) (i : Fin 6) : w.cell? ⟨g, 1 + i.val * 5 + 1, none⟩ = some (.string (mkS (s.base.obj i).data)) := by
  have hb := h.st_base (i.val * 5 + 1) (strV (s.base.obj i).data) (by
    unfold baseL
    have := i.isLt
    rw [List.getElem?_append_left (show i.val * 5 + 1 < (objsL s.base.obj).length from by show _ < 30; omega)]
    exact objs_data _ i)
  rw [show 1 + (i.val * 5 + 1) = 1 + i.val * 5 + 1 by omega] at hb
  exact hb

set_option maxHeartbeats 4000000 in
theorem few7_any (s : StV) (ao : Option Addr) (c : Nat) (w : World) (hb0 : BaseIn s.base) (h : Sl w ao c 8 (entR s.log)) :
    Calls Try.prog 10 #[.agg (stC s ao c)] w fun en w' => en = .returned (.bool (fewM s 20)) ∧ Below w.heap.size w w' := by
  obtain ⟨w1, hw1, hX, hb⟩ := one_var w 40 (stC s ao c)
  have hle := h.ent_le
  have hcap := h.cap
  have hl := hX.st_log
  have hM : Hid (fewM s 20 = (fewObj s.base 6 && decide (s.log.length ≤ 20))) := rfl
  go_enter Try.func10, Try.ntmps10
  go_wp2
  go_loopw [3] (fun i wr => ∃ n : Nat, n ≤ 6 ∧ i = .int .i64 n ∧ wr = w1 ∧ fewObj s.base n = true) (fun i _ => 6 - (intOf i).toNat)
  case atStart => exact ⟨0, by decide, rfl, rfl, by unfold fewObj; rw [decide_eq_true_iff]; intro i hi; omega⟩
  case round =>
    obtain ⟨n, hn, rfl, hwr, hk⟩ := hrel
    subst hwr
    by_cases hlt : n < 6
    · have hltI : (n : Int) < 6 := by omega
      have hc := hX.st_data ⟨n, hlt⟩
      have hcl := hb0.data ⟨n, hlt⟩
      have hnx : Hid _ := fewObj_step (b := s.base) hlt
      rw [hk, Bool.true_and] at hnx
      have hno : Hid _ := fun hq => fewObj_no (b := s.base) (n := n + 1) (by omega) hq
      generalize (s.base.obj ⟨n, hlt⟩).data = dt at *
      have hcs := mkS_size dt
      by_cases hd : dt.length ≤ 100
      · have hI : ¬ (100 : Int) < (dt.length : Int) := by omega
        rw [decide_eq_true hd] at hnx
        go_wp2
        go_roundw
        case rel => first | exact ⟨n + 1, by omega, by go_num, rfl, hnx.out⟩ | exact ⟨n + 1, by omega, by go_num, trivial, hnx.out⟩ | exact ⟨n + 1, by omega, by go_num, hnx.out⟩
        case measure => simp [intOf]; omega
      · have hI : (100 : Int) < (dt.length : Int) := by omega
        rw [decide_eq_false hd] at hnx
        have hF : Hid _ := hno.out hnx.out
        go_wp2
        go_ret
        exact ⟨by rw [hM.out, hF.out]; rfl, hb⟩
    · have e5 : n = 6 := by omega
      subst e5
      have hkH : Hid _ := hk
      clear hk
      by_cases hL : s.log.length ≤ 20
      · have hI : (s.log.length : Int) ≤ 20 := by omega
        go_wp2
        go_ret
        exact ⟨by rw [hM.out, hkH.out, decide_eq_true hL]; rfl, hb⟩
      · have hI : ¬ (s.log.length : Int) ≤ 20 := by omega
        have hID : decide ((s.log.length : Int) ≤ 20) = false := by rw [decide_eq_false_iff_not]; omega
        go_wp2
        go_ret
        exact ⟨by rw [hM.out, hkH.out, decide_eq_false hL]; rfl, hb⟩

set_option maxHeartbeats 4000000 in
theorem few8_any (s : StV) (ao : Option Addr) (c : Nat) (w : World) (hb0 : BaseIn s.base) (h : Sl w ao c 8 (entR s.log)) :
    Calls Try.prog 30 #[.agg (stC s ao c)] w fun en w' => en = .returned (.bool (fewM s 12)) ∧ Below w.heap.size w w' := by
  obtain ⟨w1, hw1, hX, hb⟩ := one_var w 40 (stC s ao c)
  have hle := h.ent_le
  have hcap := h.cap
  have hl := hX.st_log
  have hM : Hid (fewM s 12 = (fewObj s.base 6 && decide (s.log.length ≤ 12))) := rfl
  go_enter Try.func30, Try.ntmps30
  go_wp2
  go_loopw [3] (fun i wr => ∃ n : Nat, n ≤ 6 ∧ i = .int .i64 n ∧ wr = w1 ∧ fewObj s.base n = true) (fun i _ => 6 - (intOf i).toNat)
  case atStart => exact ⟨0, by decide, rfl, rfl, by unfold fewObj; rw [decide_eq_true_iff]; intro i hi; omega⟩
  case round =>
    obtain ⟨n, hn, rfl, hwr, hk⟩ := hrel
    subst hwr
    by_cases hlt : n < 6
    · have hltI : (n : Int) < 6 := by omega
      have hc := hX.st_data ⟨n, hlt⟩
      have hcl := hb0.data ⟨n, hlt⟩
      have hnx : Hid _ := fewObj_step (b := s.base) hlt
      rw [hk, Bool.true_and] at hnx
      have hno : Hid _ := fun hq => fewObj_no (b := s.base) (n := n + 1) (by omega) hq
      generalize (s.base.obj ⟨n, hlt⟩).data = dt at *
      have hcs := mkS_size dt
      by_cases hd : dt.length ≤ 100
      · have hI : ¬ (100 : Int) < (dt.length : Int) := by omega
        rw [decide_eq_true hd] at hnx
        go_wp2
        go_roundw
        case rel => first | exact ⟨n + 1, by omega, by go_num, rfl, hnx.out⟩ | exact ⟨n + 1, by omega, by go_num, trivial, hnx.out⟩ | exact ⟨n + 1, by omega, by go_num, hnx.out⟩
        case measure => simp [intOf]; omega
      · have hI : (100 : Int) < (dt.length : Int) := by omega
        rw [decide_eq_false hd] at hnx
        have hF : Hid _ := hno.out hnx.out
        go_wp2
        go_ret
        exact ⟨by rw [hM.out, hF.out]; rfl, hb⟩
    · have e5 : n = 6 := by omega
      subst e5
      have hkH : Hid _ := hk
      clear hk
      by_cases hL : s.log.length ≤ 12
      · have hI : (s.log.length : Int) ≤ 12 := by omega
        go_wp2
        go_ret
        exact ⟨by rw [hM.out, hkH.out, decide_eq_true hL]; rfl, hb⟩
      · have hI : ¬ (s.log.length : Int) ≤ 12 := by omega
        have hID : decide ((s.log.length : Int) ≤ 12) = false := by rw [decide_eq_false_iff_not]; omega
        go_wp2
        go_ret
        exact ⟨by rw [hM.out, hkH.out, decide_eq_false hL]; rfl, hb⟩
end Go.Proofs.Ytphlfepgaghhhaa
