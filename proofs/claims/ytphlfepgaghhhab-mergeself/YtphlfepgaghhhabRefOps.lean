/- The contracts of the document's IsOp, Writes and noughts. -/
import Derived.Test.YtphlfepgaghhhabObjMem
namespace Go.Proofs.Ytphlfepgaghhhab
set_option linter.unusedSimpArgs false
set_option linter.unusedVariables false
set_option maxRecDepth 100000
open Go.RowKit

structure OpOk (o : OpV) : Prop where
  client : o.client < 256
  seq : o.seq < 4294967296
  kind : o.kind < 256
  obj : o.obj < 256
  pos : o.pos < 256
  data : o.data.length ≤ 9223372036854775807

theorem snoc_nought (n : Nat) : mkS (List.replicate n (0 : UInt8)) ++ ByteArray.mk #[0] = mkS (List.replicate (n + 1) (0 : UInt8)) := by
  rw [show ByteArray.mk #[0] = mkS [0] from rfl, mkS_append, ← List.replicate_succ']

end Go.Proofs.Ytphlfepgaghhhab
