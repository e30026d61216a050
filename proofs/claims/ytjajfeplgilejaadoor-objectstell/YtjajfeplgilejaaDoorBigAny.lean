/- paddocklaw6.big: a base that it lets by has short strings. -/
import Derived.Test.YtjajfeplgilejaaDoorOpenBase
import Derived.Test.YtjajfeplgilejaaDoorReadMath
namespace Go.Proofs.YtjajfeplgilejaaDoor
set_option linter.unusedSimpArgs false
set_option linter.unusedVariables false
set_option maxRecDepth 100000
open Go.RowKit

/-- How many bytes an object has, up to an attribute. -/
def sumTo (x : ObjV) : Nat → Nat
  | 0 => x.data.length
  | k + 1 => sumTo x k + (x.attr k).length

theorem sumTo_3 (x : ObjV) : sumTo x 3 = x.data.length + x.a0.length + x.a1.length + x.a2.length := rfl

theorem fit_attr {M : Nat} {x : ObjV} (h : ObjFit M x) (k : Nat) : (x.attr k).length ≤ M := attr_le k h.a0 h.a1 h.a2
theorem sumTo_le {M : Nat} {x : ObjV} (h : ObjFit M x) (k : Nat) : sumTo x k ≤ M * (k + 1) := by
  induction k with
  | zero => simpa [sumTo] using h.data
  | succ k ih =>
    show sumTo x k + _ ≤ _
    have := fit_attr h k
    rw [Nat.mul_succ]
    omega

theorem small_ok {M : Nat} {b : BaseV} (h : BaseFit M b) (hs : ∀ j : Fin 6, j.val < 6 → sumTo (b.obj j) 3 ≤ 300) : BaseOk b := by
  refine ⟨fun i => (h.last i).seq, fun i => (h.last i).code, fun i => (h.last i).data, fun i => ?_, fun i => ?_, fun i => ?_, fun i => ?_⟩
  all_goals
    have := hs i i.isLt
    rw [sumTo_3] at this
    omega

set_option maxHeartbeats 2000000 in
theorem big_any (b : BaseV) (M : Nat) (hM : M ≤ 140737488355328) (hf : BaseFit M b) (w : World) :
    Calls Tryd.prog 6 #[.agg (baseC b)] w fun e w' => ∃ v : Bool, e = .returned (.bool v) ∧ (v = false → BaseOk b) ∧ Below w.heap.size w w' := by
  have hB := Has.new w 33 (baseC b)
  have hb := (Below.refl w.heap.size w).alloc (Nat.le_refl _) (.cells (baseC b) 33)
  obtain ⟨w0, hw0⟩ : ∃ W, w.alloc (.cells (baseC b) 33) = W := ⟨_, rfl⟩
  rw [hw0] at hB hb
  go_enter Tryd.func6, Tryd.ntmps6
  go_wp2_with fail
  go_loopw [3] (fun i wr => ∃ n : Nat, n ≤ 6 ∧ i = .int .i64 n ∧ (∀ j : Fin 6, j.val < n → sumTo (b.obj j) 3 ≤ 300) ∧ wr = w0) (fun i _ => 6 - (intOf i).toNat)
  case atStart => exact ⟨0, Nat.zero_le _, rfl, (fun j hj => by cases hj), rfl⟩
  case round =>
    obtain ⟨n, hn, rfl, hall, hwr⟩ := hrel
    replace hwr := hwr.symm
    subst hwr
    by_cases hlt : n < 6
    · have hnI : (n : Int) < 6 := by omega
      have hcd := (hB.cell (n * 5 + 1)).trans (baseC_obj b ⟨n, hlt⟩ 1 (.string (mkS (b.obj ⟨n, hlt⟩).data)) rfl)
      have hca : ∀ k : Nat, k < 3 → w0.cell? ⟨w.heap.size, n * 5 + 2 + k, none⟩ = some (.string (mkS ((b.obj ⟨n, hlt⟩).attr k))) := fun k hk => by
        rw [Nat.add_assoc]
        exact (hB.cell (n * 5 + (2 + k))).trans (baseC_obj b ⟨n, hlt⟩ (2 + k) _ (by have := attr_cell (b.obj ⟨n, hlt⟩) k hk; unfold objC at this; rw [List.getElem?_toArray] at this; exact this))
      have hfx := hf.obj ⟨n, hlt⟩
      have hnext : sumTo (b.obj ⟨n, hlt⟩) 3 ≤ 300 → ∀ j : Fin 6, j.val < n + 1 → sumTo (b.obj j) 3 ≤ 300 := fun h j hj => by
        by_cases e : j.val = n
        · have : j = ⟨n, hlt⟩ := Fin.ext e
          rw [this]
          exact h
        · exact hall j (by omega)
      replace hnext : Hid _ := hnext
      replace hall : Hid _ := hall
      generalize b.obj ⟨n, hlt⟩ = x at *
      have hs := mkS_size x.data
      have hxd := hfx.data
      have hMI : (M : Int) ≤ 140737488355328 := by omega
      go_wp2_with fail
      go_loopw [4, 5] (fun s i wr => ∃ k : Nat, k ≤ 3 ∧ i = .int .i64 k ∧ s = .int .i64 (sumTo x k : Nat) ∧ wr = w0) (fun _ i _ => 3 - (intOf i).toNat)
      case atStart => exact ⟨0, Nat.zero_le _, rfl, rfl, rfl⟩
      case round =>
        obtain ⟨k, hk, rfl, rfl, hwr⟩ := hrel
        replace hwr := hwr.symm
        subst hwr
        by_cases hlk : k < 3
        · have hkI : (k : Int) < 3 := by omega
          have hck := hca k hlk
          have hsk := mkS_size (x.attr k)
          have hal := fit_attr hfx k
          have hsl := sumTo_le hfx k
          have hsl2 : sumTo x k ≤ M * 4 := Nat.le_trans hsl (Nat.mul_le_mul_left _ (by omega))
          have hst : Hid (sumTo x (k + 1) = sumTo x k + (x.attr k).length) := rfl
          generalize x.attr k = V at *
          generalize sumTo x k = s at *
          have hwr1 : IntKind.i64.wrap ((s : Int) + (V.length : Int)) = (s : Int) + (V.length : Int) := by
            simp [IntKind.wrap, IntKind.bits, IntKind.signed]
            omega
          have hsum : (s : Int) + (V.length : Int) ≤ 9223372036854775807 := by omega
          clear hsl hca
          go_wp2_with fail
          go_roundw
          case rel => exact ⟨k + 1, by omega, by go_num, by rw [hst.out]; go_num, by first | rfl | trivial⟩
          case measure => simp [intOf]; omega
        · have e3 : k = 3 := by omega
          subst e3
          by_cases hbig : 300 < sumTo x 3
          · have hI : (300 : Int) < (sumTo x 3 : Nat) := by omega
            generalize sumTo x 3 = s at *
            go_wp2_with fail
            go_ret
            exact ⟨true, rfl, (fun h => by cases h), hb⟩
          · have hI : ((sumTo x 3 : Nat) : Int) ≤ 300 := by omega
            have hnx := hnext.out (by omega)
            generalize sumTo x 3 = s at *
            go_wp2_with fail
            go_roundw
            case rel => exact ⟨n + 1, by omega, by go_num, hnx, by first | rfl | trivial⟩
            case measure => simp [intOf]; omega
    · have e6 : n = 6 := by omega
      subst e6
      go_wp2_with fail
      go_ret
      exact ⟨false, rfl, (fun _ => small_ok hf hall), hb⟩
end Go.Proofs.YtjajfeplgilejaaDoor
