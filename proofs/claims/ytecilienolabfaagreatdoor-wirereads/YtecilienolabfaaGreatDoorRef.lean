/- Contracts of the document's own answers (package paddockref1: Sum, Mix, Hash, Group, Put, Get) over this seat's program. -/
import Derived.Test.YtecilienolabfaaGreatDoorCopy
namespace Go.Proofs.YtecilienolabfaaGreatDoor
set_option maxRecDepth 100000
open Go.RowKit
set_option linter.unusedVariables false
theorem put_step_own {w1:World} {base n:Nat} {v:Value} {xs:List Value} {x:Int} {k m:Nat} (hx:0 ≤ x) (h:m < k)
  (ho:w1.ownsRow base 5 1 v (n + m + 1) (xs ++ (Bs (putB x.toNat k)).take m ++ [Value.int .u8 (x / 2 ^ (8 * (k - 1 - m)) % 256)])) :
  w1.ownsRow base 5 1 v (n + (m + 1)) (xs ++ (Bs (putB x.toNat k)).take (m + 1)):=by
 rw [put_take x hx k m h,← List.append_assoc]
 exact ho
end Go.Proofs.YtecilienolabfaaGreatDoor
