/- What comes in, opened: entries, states, differences by value. -/
import Derived.Test.YtecilienolabfaaGreatDoorPackObj
import Derived.Test.YtecilienolabfaaGreatDoorDiffMem
import Derived.Test.YtecilienolabfaaGreatDoorPackLog
import Derived.SizedLaws
namespace Go.Proofs.YtecilienolabfaaGreatDoor
set_option linter.unusedSimpArgs false
set_option linter.unusedVariables false
set_option maxRecDepth 100000
open Go.ChangeShapes Go.WideShapes Go.ChangeAt Go.RowKit
section
variable {H:Type} {enc:TypeId × Value → H} {W:World} {base:Nat} {spare:Nat → Bool} {held:Bool} {fuel:Nat} {y:DataW H × List MemPlace}
end
section
variable {H:Type} {enc:TypeId × Value → H} {W:World} {base:Nat} {spare:Nat → Bool} {held:Bool} {fuel:Nat} {y:DataW H × List MemPlace}
end
end Go.Proofs.YtecilienolabfaaGreatDoor
