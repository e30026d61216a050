/- What package objects has to answer it answers: the bundle, paid. -/
import Derived.Test.YtkkjdihmjcaibaaLandAll
namespace Go.Proofs.Ytkkjdihmjcaibaa

theorem obj_paid : ObjSpec where
  isop := isop_any
  writes := writes_any
  seen := seen_any
  do' := do_any
  all := all_any
end Go.Proofs.Ytkkjdihmjcaibaa
