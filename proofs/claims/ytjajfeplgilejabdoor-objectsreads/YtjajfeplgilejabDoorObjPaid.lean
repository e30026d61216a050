/- What package objects has to answer it answers: the bundle, paid. -/
import Derived.Test.YtjajfeplgilejabDoorLandAll
import Derived.Test.YtjajfeplgilejabDoorLandRead
namespace Go.Proofs.YtjajfeplgilejabDoor

theorem obj_paid : ObjSpec where
  isop := isop_any
  writes := writes_any
  seen := seen_any
  do' := do_any
  read := read_any
  all := all_any
end Go.Proofs.YtjajfeplgilejabDoor
