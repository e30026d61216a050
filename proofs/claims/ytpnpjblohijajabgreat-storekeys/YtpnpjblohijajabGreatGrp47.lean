/- OpenStrs, joined. -/
import Derived.Test.YtpnpjblohijajabGreatGrp46
import Derived.Test.YtpnpjblohijajabGreatGrp17
namespace Go.Proofs.YtpnpjblohijajabGreat
section
set_option linter.unusedSimpArgs false
set_option linter.unusedVariables false
set_option maxRecDepth 100000
open Go.ChangeShapes Go.WideShapes Go.ChangeAt Go.RowKit

theorem co_strO : Tryz.prog.cellsOf 9 = 1 := by kernel_rfl
theorem co_byteO : Tryz.prog.cellsOf 5 = 1 := by kernel_rfl
section
variable {H : Type} {enc : TypeId × Value → H} {W : World} {base : Nat} {v : Value} {d : DataW H} {p : List MemPlace}
theorem open_strs {M : Nat} (hM : ∀ n ∈ d.weights Tryz.prog 22, n ≤ M) (ok : Value.okWide Tryz.prog W .any base 22 v) (h : DataW.Trod enc Tryz.prog W 0 (fun _ => true) true 22 v d p) :
    ∃ ao c l, v = .slice ao l.length c ∧ Strs W ao c l ∧ (∀ s ∈ l, s.length ≤ M) ∧ ∀ ad, ao = some ad → ad.block < W.heap.size := by
  obtain ⟨ao, c, xs, hv, hS, hl⟩ := open_rows_w (P := Tryz.prog) (fun s : List UInt8 => [strV s]) (fun s => s.length ≤ M) 1 M Tryz.underlying22 co_strO (fun fuel y cs hw h => by
    obtain ⟨s, q, hy, hs⟩ := DataW.trod_string Tryz.underlying9 h
    refine ⟨s.data.toList, by rw [q]; unfold strV mkS; simp, hw _ ?_⟩
    rw [hy]
    simp [DataW.weights]) (fun _ => rfl) hM ok h
  refine ⟨ao, c, xs, hv, ⟨?_, hS.cap, hS.nil, fun ad had i hi => ?_⟩, hl, fun ad had => ?_⟩
  · have := hS.le
    rw [List.length_map] at this
    exact this
  · have := hS.at' ad had i (by rw [List.length_map]; exact hi) 0 (by decide)
    rw [Nat.mul_one, Nat.add_zero] at this
    rw [this, List.getElem_map]
    rfl
  · subst had hv
    exact slice_there Tryz.underlying22 ok
theorem bounds_u8J {x : Int} (h : (Lit.int .u8 x).wf = true) : 0 ≤ x ∧ x ≤ 255 := by simpa [Lit.wf, IntKind.min, IntKind.max, IntKind.signed, IntKind.bits] using h
theorem bounds_u16J {x : Int} (h : (Lit.int .u16 x).wf = true) : 0 ≤ x ∧ x ≤ 65535 := by simpa [Lit.wf, IntKind.min, IntKind.max, IntKind.signed, IntKind.bits] using h
theorem open_bytesJ (ok : Value.okWide Tryz.prog W .any base 60 v) (h : DataW.Trod enc Tryz.prog W 0 (fun _ => true) true 60 v d p) :
    ∃ ao c xs, v = .slice ao xs.length c ∧ By W ao c xs ∧ ∀ ad, ao = some ad → ad.block < W.heap.size := by
  obtain ⟨ao, c, xs, hv, hS, _⟩ := open_rows (P := Tryz.prog) (fun x : UInt8 => [B x]) (fun _ => True) 1 Tryz.underlying60 co_byteO (fun fuel y cs h => by
    obtain ⟨x, q, _, hk⟩ := DataW.trod_int Tryz.underlying5 h
    have b := bounds_u8J hk
    obtain ⟨k, rfl⟩ := Int.eq_ofNat_of_zero_le b.1
    refine ⟨UInt8.ofNat k, ?_, trivial⟩
    rw [q]
    unfold B
    rw [UInt8.toNat_ofNat', Nat.mod_eq_of_lt (by omega)]) (fun _ => rfl) ok h
  refine ⟨ao, c, xs, hv, ⟨?_, hS.cap, hS.nil, fun ad had j u hu => ?_⟩, fun ad had => ?_⟩
  · have := hS.le
    rw [List.length_map] at this
    exact this
  · have hj : j < xs.length := by
      have := (List.getElem?_eq_some_iff.1 hu).1
      rwa [Bs_length] at this
    have := hS.at' ad had j (by rw [List.length_map]; exact hj) 0 (by decide)
    rw [Nat.mul_one, Nat.add_zero] at this
    rw [this, ← hu, List.getElem_map]
    show some (B xs[j]) = (Bs xs)[j]?
    unfold Bs
    rw [List.getElem?_map, List.getElem?_eq_getElem hj]
    rfl
  · subst had hv
    exact slice_there Tryz.underlying60 ok
end
end
end Go.Proofs.YtpnpjblohijajabGreat
