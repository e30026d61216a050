/- Contracts of the document's own answers (package paddockref1: Get, Text, GetText) over this seat's program. -/
import Derived.Test.YtecilienolabfaaGreatDoorRef
import Derived.Test.YtecilienolabfaaGreatDoorPackBits
import Derived.RegionTactic
namespace Go.Proofs.YtecilienolabfaaGreatDoor
set_option maxRecDepth 100000
open Go.RowKit
set_option linter.unusedVariables false

end Go.Proofs.YtecilienolabfaaGreatDoor
