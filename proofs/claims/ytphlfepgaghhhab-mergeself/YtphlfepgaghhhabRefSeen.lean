/- The contract of the document's Seen. -/
import Derived.Test.YtphlfepgaghhhabRefOps
namespace Go.Proofs.Ytphlfepgaghhhab
set_option linter.unusedSimpArgs false
set_option linter.unusedVariables false
set_option maxRecDepth 100000
open Go.RowKit

structure BaseOk (b : BaseV) : Prop where
  seq : ∀ i, (b.last i).seq < 4294967296
  code : ∀ i, (b.last i).r.code < 256
  rdata : ∀ i, (b.last i).r.data.length ≤ 9223372036854775807
  data : ∀ i, (b.obj i).data.length ≤ 1000
  a0 : ∀ i, (b.obj i).a0.length ≤ 1000
  a1 : ∀ i, (b.obj i).a1.length ≤ 1000
  a2 : ∀ i, (b.obj i).a2.length ≤ 1000

theorem last_size (l : LastV) : (Try.prog.info? 32).map (·.size) = some (lastC l).size := by show _ = some 3; kernel_rfl
theorem last_zero : (Try.prog.info? 32).map (·.zero) = some (some (.agg (lastC last0))) := by kernel_rfl
theorem res_bad : Try.prog.built 30 [(0, .int .u8 3)] = some (resC ⟨3, []⟩) := by kernel_rfl

theorem seen_no {b : BaseV} {o : OpV} (h : writesM o = false) : seenM b o = (res0, false) := by unfold seenM; rw [if_neg (by rw [h]; simp)]
theorem seen_new {b : BaseV} {o : OpV} (h : writesM o = true) (hs : (lastOf b o).seq < o.seq) : seenM b o = (res0, false) := by unfold seenM; rw [if_pos h, if_pos hs]
theorem seen_same {b : BaseV} {o : OpV} (h : writesM o = true) (hs : (lastOf b o).seq = o.seq) : seenM b o = ((lastOf b o).r, true) := by unfold seenM; rw [if_pos h, if_neg (by omega), if_pos hs]
theorem seen_old {b : BaseV} {o : OpV} (h : writesM o = true) (hs : o.seq < (lastOf b o).seq) : seenM b o = (⟨3, []⟩, true) := by unfold seenM; rw [if_pos h, if_neg (by omega), if_neg (by omega)]

theorem writes_client {o : OpV} (h : writesM o = true) : 1 ≤ o.client ∧ o.client ≤ 3 ∧ o.obj < 6 ∧ 1 ≤ o.kind ∧ o.kind ≤ 4 ∧ o.data.length ≤ 16 := by
  have h1 := (writes_is o).1 h
  have h2 := (isOp_is o).1 h1.1
  omega

end Go.Proofs.Ytphlfepgaghhhab
