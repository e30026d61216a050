/- OpenStrs, joined. -/
import Derived.Test.YtlalfagafbpkiaaGrp38
import Derived.Test.YtlalfagafbpkiaaGrp16
namespace Go.Proofs.Ytlalfagafbpkiaa
section
set_option linter.unusedSimpArgs false
set_option linter.unusedVariables false
set_option maxRecDepth 100000
open Go.ChangeShapes Go.WideShapes Go.ChangeAt Go.RowKit

theorem co_strO : Try.prog.cellsOf 9 = 1 := by kernel_rfl
theorem co_byteO : Try.prog.cellsOf 5 = 1 := by kernel_rfl
section
variable {H : Type} {enc : TypeId × Value → H} {W : World} {base : Nat} {v : Value} {d : DataW H} {p : List MemPlace}
theorem open_strs {M : Nat} (hM : ∀ n ∈ d.weights Try.prog 22, n ≤ M) (ok : Value.okWide Try.prog W .any base 22 v) (h : DataW.Trod enc Try.prog W 0 (fun _ => true) true 22 v d p) :
    ∃ ao c l, v = .slice ao l.length c ∧ Strs W ao c l ∧ (∀ s ∈ l, s.length ≤ M) ∧ ∀ ad, ao = some ad → ad.block < W.heap.size := by
  obtain ⟨ao, c, xs, hv, hS, hl⟩ := open_rows_w (P := Try.prog) (fun s : List UInt8 => [strV s]) (fun s => s.length ≤ M) 1 M Try.underlying22 co_strO (fun fuel y cs hw h => by
    obtain ⟨s, q, hy, hs⟩ := DataW.trod_string Try.underlying9 h
    refine ⟨s.data.toList, by rw [q]; unfold strV mkS; simp, hw _ ?_⟩
    rw [hy]
    simp [DataW.weights]) (fun _ => rfl) hM ok h
  refine ⟨ao, c, xs, hv, ⟨?_, hS.cap, hS.nil, fun ad had i hi => ?_⟩, hl, fun ad had => ?_⟩
  · have := hS.le
    rw [List.length_map] at this
    exact this
  · have := hS.at' ad had i (by rw [List.length_map]; exact hi) 0 (by decide)
    rw [Nat.mul_one, Nat.add_zero] at this
    rw [this, List.getElem_map]
    rfl
  · subst had hv
    exact slice_there Try.underlying22 ok
theorem bounds_u8J {x : Int} (h : (Lit.int .u8 x).wf = true) : 0 ≤ x ∧ x ≤ 255 := by simpa [Lit.wf, IntKind.min, IntKind.max, IntKind.signed, IntKind.bits] using h
theorem bounds_u16J {x : Int} (h : (Lit.int .u16 x).wf = true) : 0 ≤ x ∧ x ≤ 65535 := by simpa [Lit.wf, IntKind.min, IntKind.max, IntKind.signed, IntKind.bits] using h
theorem open_bytesJ (ok : Value.okWide Try.prog W .any base 23 v) (h : DataW.Trod enc Try.prog W 0 (fun _ => true) true 23 v d p) :
    ∃ ao c xs, v = .slice ao xs.length c ∧ By W ao c xs ∧ ∀ ad, ao = some ad → ad.block < W.heap.size := by
  obtain ⟨ao, c, xs, hv, hS, _⟩ := open_rows (P := Try.prog) (fun x : UInt8 => [B x]) (fun _ => True) 1 Try.underlying23 co_byteO (fun fuel y cs h => by
    obtain ⟨x, q, _, hk⟩ := DataW.trod_int Try.underlying5 h
    have b := bounds_u8J hk
    obtain ⟨k, rfl⟩ := Int.eq_ofNat_of_zero_le b.1
    refine ⟨UInt8.ofNat k, ?_, trivial⟩
    rw [q]
    unfold B
    rw [UInt8.toNat_ofNat', Nat.mod_eq_of_lt (by omega)]) (fun _ => rfl) ok h
  refine ⟨ao, c, xs, hv, ⟨?_, hS.cap, hS.nil, fun ad had j u hu => ?_⟩, fun ad had => ?_⟩
  · have := hS.le
    rw [List.length_map] at this
    exact this
  · have hj : j < xs.length := by
      have := (List.getElem?_eq_some_iff.1 hu).1
      rwa [Bs_length] at this
    have := hS.at' ad had j (by rw [List.length_map]; exact hj) 0 (by decide)
    rw [Nat.mul_one, Nat.add_zero] at this
    rw [this, ← hu, List.getElem_map]
    show some (B xs[j]) = (Bs xs)[j]?
    unfold Bs
    rw [List.getElem?_map, List.getElem?_eq_getElem hj]
    rfl
  · subst had hv
    exact slice_there Try.underlying23 ok
theorem co_u16O : Try.prog.cellsOf 41 = 1 := by kernel_rfl
theorem open_u16s (ok : Value.okWide Try.prog W .any base 39 v) (h : DataW.Trod enc Try.prog W 0 (fun _ => true) true 39 v d p) :
    ∃ ao c, ∃ xs : List Nat, v = .slice ao xs.length c ∧ Sl W ao c 1 (xs.map (fun x : Nat => [Value.int .u16 (x : Int)])) ∧ (∀ x ∈ xs, x ≤ 65535) ∧ ∀ ad, ao = some ad → ad.block < W.heap.size := by
  obtain ⟨ao, c, xs, hv, hS, hl⟩ := open_rows (P := Try.prog) (fun x : Nat => [Value.int .u16 (x : Int)]) (fun x => x ≤ 65535) 1 Try.underlying39 co_u16O (fun fuel y cs h => by
    obtain ⟨x, q, _, hk⟩ := DataW.trod_int Try.underlying41 h
    have b := bounds_u16J hk
    obtain ⟨k, rfl⟩ := Int.eq_ofNat_of_zero_le b.1
    exact ⟨k, q, by omega⟩) (fun _ => rfl) ok h
  refine ⟨ao, c, xs, hv, hS, hl, fun ad had => ?_⟩
  subst had hv
  exact slice_there Try.underlying39 ok
end
end
end Go.Proofs.Ytlalfagafbpkiaa
