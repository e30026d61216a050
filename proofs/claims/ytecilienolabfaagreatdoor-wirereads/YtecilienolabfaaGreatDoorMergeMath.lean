/- Differences as mathematics: what the document asks of Make, Apply, Extends, Bytes (layer 8); that what was made, applied, is the other one. -/
import Derived.Test.YtecilienolabfaaGreatDoorPackLog
namespace Go.Proofs.YtecilienolabfaaGreatDoor
set_option linter.unusedSimpArgs false
set_option linter.unusedVariables false
open Go.RowKit
structure DiffV where
 kind:Int
 fr:Nat
 log:List EntV
 whole:StV
def diffL (d:DiffV) (lo:Option Addr) (lc:Nat) (wo:Option Addr) (wc:Nat):List Value:=.int .i64 d.kind :: .int .u32 (d.fr:Int) :: .slice lo d.log.length lc :: stL d.whole wo wc
def diffC (d:DiffV) (lo:Option Addr) (lc:Nat) (wo:Option Addr) (wc:Nat):Array Value:=(diffL d lo lc wo wc).toArray
def diff0:DiffV:=⟨0,0,[],st0⟩
def endsM (s:StV):StV:=⟨s.started,base0,s.tail,[]⟩
end Go.Proofs.YtecilienolabfaaGreatDoor
