/- What comes in, opened: a message by value. -/
import Derived.Test.YtecilienolabfaaGreatDoorWireMem
import Derived.Test.YtecilienolabfaaGreatDoorOpenSt
import Derived.Test.YtecilienolabfaaGreatDoorPackBal
namespace Go.Proofs.YtecilienolabfaaGreatDoor
set_option linter.unusedSimpArgs false
set_option linter.unusedVariables false
set_option maxRecDepth 100000
open Go.ChangeShapes Go.WideShapes Go.ChangeAt Go.RowKit
section
variable {H:Type} {enc:TypeId × Value → H} {W:World} {base:Nat} {fuel:Nat} {y:DataW H × List MemPlace}
theorem reads_byte {n:Nat} {cs:List Value} (h:DataW.trod enc Tryz.prog W 0 (fun _=>true) true n 5 cs = some y):∃ k:Nat,cs = [.int .u8 (k:Int)] ∧ k < 256:=by
 obtain ⟨x,q,_,w⟩:=DataW.trod_int Tryz.underlying5 h
 have b:=bounds_u8 w
 obtain ⟨k,rfl⟩:=Int.eq_ofNat_of_zero_le b.1
 exact ⟨k,q,by omega⟩
end
end Go.Proofs.YtecilienolabfaaGreatDoor
