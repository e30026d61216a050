/- What package objects has to answer it answers: the bundle, paid. -/
import Derived.Test.YtjajfeplgilejaaDoorLandAll
import Derived.Test.YtjajfeplgilejaaDoorLandRead
namespace Go.Proofs.YtjajfeplgilejaaDoor

theorem obj_paid : ObjSpec where
  isop := isop_any
  writes := writes_any
  seen := seen_any
  do' := do_any
  read := read_any
  all := all_any
end Go.Proofs.YtjajfeplgilejaaDoor
