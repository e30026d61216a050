/- Plain mathematics: mixing and summing lose nothing. -/
import Derived.Test.YtecilienolabfaaGreatDoorPackStraw
namespace Go.Proofs.YtecilienolabfaaGreatDoor
end Go.Proofs.YtecilienolabfaaGreatDoor
