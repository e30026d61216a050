/- The contract of objects.sized (over the library's contract of strings.Repeat). -/
import Derived.Test.YtphlfepgaghhhaaShelfRep
import Derived.Test.YtphlfepgaghhhaaObjSpec
namespace Go.Proofs.Ytphlfepgaghhhaa
set_option linter.unusedSimpArgs false
set_option linter.unusedVariables false
set_option maxRecDepth 100000
open Go.RowKit

theorem repeat_nought (c : Nat) : Lib.repeatL [0] c = List.replicate c 0 := by
  induction c with
  | zero => rfl
  | succ c ih =>
    show [0] ++ Lib.repeatL [0] c = _
    rw [ih]
    rfl

theorem rep_any (c : Nat) (w : World) (hc : c ≤ 1000) : Calls Try.prog 84 #[.string (ByteArray.mk #[0]), .int .i64 (c : Int)] w fun e w' => e = .returned (strV (List.replicate c 0)) ∧ Below w.heap.size w w' := by
  have h := Any.strings_Repeat lay105 lay105_extra (ByteArray.mk #[0]) c w (by omega) (by show 1 * c ≤ _; omega)
  have e : Lib.repeatL (ByteArray.mk #[0]).data.toList c = List.replicate c 0 := repeat_nought c
  rw [e] at h
  exact h

theorem sized_any (d : List UInt8) (n : Nat) (w : World) (hd : d.length ≤ 1000) (hn : n ≤ 1000) : Calls Try.prog 83 #[.string (mkS d), .int .i64 (n : Int)] w fun e w' => e = .returned (.string (mkS (fitS n d))) ∧ Below w.heap.size w w' := by
  have hs := mkS_size d
  by_cases h : n ≤ d.length
  · have hI : (n : Int) ≤ (d.length : Int) := by omega
    have e1 := fun (W : World) => headS (P := Try.prog) W 9 Try.underlying9 d n h
    have hf : Hid _ := fitS_long h
    clear h
    go_enter Try.func83, Try.ntmps83
    go_wp2
    go_ret
    exact ⟨by rw [hf.out]; rfl, Below.refl _ _⟩
  · have hI : ¬ ((n : Int) ≤ (d.length : Int)) := by omega
    have hI2 : (d.length : Int) < (n : Int) := by omega
    have hr := fun W => rep_any (n - d.length) W (by omega)
    rw [show ((n - d.length : Nat) : Int) = (n : Int) - (d.length : Int) by omega] at hr
    obtain ⟨Z, hZ⟩ : ∃ Z, Z = List.replicate (n - d.length) (0 : UInt8) := ⟨_, rfl⟩
    rw [← hZ] at hr
    obtain ⟨U, hU⟩ : ∃ U, U = d ++ Z := ⟨_, rfl⟩
    have e0 := fun (W : World) => addS (P := Try.prog) W d Z (by rw [hZ, List.length_replicate]; omega)
    rw [← hU] at e0
    have hf : Hid (fitS n d = U) := by
      show _ = _
      rw [hU, hZ]
      unfold fitS
      rw [List.take_of_length_le (by omega)]
    have hwr : IntKind.i64.wrap ((n : Int) - (d.length : Int)) = (n : Int) - (d.length : Int) := by
      simp [IntKind.wrap, IntKind.bits, IntKind.signed]
      omega
    clear h hZ hU
    go_enter Try.func83, Try.ntmps83
    go_wp2_with fail
    refine (hr _).mono ?_
    rintro e w1 ⟨rfl, hq⟩
    have hzv : strV Z = .string (mkS Z) := rfl
    rw [hzv]
    go_wp2
    go_ret
    exact ⟨by rw [hf.out]; rfl, hq⟩
end Go.Proofs.Ytphlfepgaghhhaa
