/- Package maps answers as it has to: the bundle, paid by the contracts of the landed code. -/
import Derived.Test.YtoffbjdoampebaaMapsSpec
import Derived.Test.YtoffbjdoampebaaMapsFold
import Derived.Test.YtoffbjdoampebaaThose
namespace Go.Proofs.Ytoffbjdoampebaa
set_option linter.unusedSimpArgs false
set_option linter.unusedVariables false
open Go.RowKit

theorem maps_paid : MapsSpec where
  apply := fun m x w hm hx => apply_any m x w hm hx
  is := fun m w hm => is_any m w hm
  isinc := fun x w hx => isinc_any x w hx
  first := fun w => first_any w
  fold := fun ao c xs w h hx hl => fold_any ao c xs w h hx hl
  inn := fun m w hm => in_any m w hm
  up := fun m w hm => up_any m w hm
end Go.Proofs.Ytoffbjdoampebaa
