/- Laws for 'append([]byte(nil), b...)', b whatever slice of bytes: in a plain region and at a step of a region that draws its order. -/
import Derived.Test.YtecilienolabfaaGreatDoorPackBits
import Derived.Laws.AppendOwnNone
import Derived.Deep.AppendLies
namespace Go.Proofs.YtecilienolabfaaGreatDoor
set_option maxRecDepth 100000
open Go.RowKit
set_option linter.unusedVariables false

end Go.Proofs.YtecilienolabfaaGreatDoor
