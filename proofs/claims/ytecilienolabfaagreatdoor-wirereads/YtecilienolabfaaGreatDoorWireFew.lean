/- Whether a message is looked at: the laws' few. -/
import Derived.Test.YtecilienolabfaaGreatDoorOpenMsg
namespace Go.Proofs.YtecilienolabfaaGreatDoor
set_option linter.unusedSimpArgs false
set_option linter.unusedVariables false
set_option maxRecDepth 100000
open Go.RowKit
section
variable {w:World} {g:Nat} {m:MsgV} {a1 a2 a3:Option Addr} {c1 c2 c3:Nat}
end
end Go.Proofs.YtecilienolabfaaGreatDoor
