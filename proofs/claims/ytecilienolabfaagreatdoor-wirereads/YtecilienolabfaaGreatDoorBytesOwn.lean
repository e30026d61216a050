/- Bytes of one's own: a byte turned, bytes behind them. -/
import Derived.Test.YtecilienolabfaaGreatDoorCopy
import Derived.Test.YtecilienolabfaaGreatDoorInj
import Derived.Test.YtecilienolabfaaGreatDoorMsgFacts
import Derived.Test.YtecilienolabfaaGreatDoorPackCode
namespace Go.Proofs.YtecilienolabfaaGreatDoor
set_option linter.unusedSimpArgs false
set_option linter.unusedVariables false
set_option maxRecDepth 100000
open Go.RowKit
theorem byteB (w:World) (b:Nat) (hb:b < 256):By (w.alloc (.cells #[.int .u8 (b:Int)] 5)) (some ⟨w.heap.size,0,none⟩) 1 [UInt8.ofNat b]:=by
 have h:=Has.new w 5 #[.int .u8 (b:Int)]
 refine ⟨Nat.le_refl _,by decide,(fun h=>by cases h),fun ad had j u hu=>?_⟩
 obtain rfl:=Option.some.inj had
 have hj:j < 1:=(List.getElem?_eq_some_iff.1 hu).1
 have:j = 0:=by omega
 subst this
 have e:=h.cell 0
 rw [show ((⟨w.heap.size,0,none⟩:Addr).add 0) = ⟨w.heap.size,0,none⟩ from rfl,e]
 have e8:B (UInt8.ofNat b) = .int .u8 (b:Int):=by unfold B;rw [UInt8.toNat_ofNat',Nat.mod_eq_of_lt hb]
 rw [← hu]
 show some _ = some (B (UInt8.ofNat b))
 rw [e8]
 rfl
theorem own_far {w:World} {base n:Nat} {v:Value} {xs:List Value} {ao:Option Addr} {c:Nat} (h:w.ownsRow base 5 1 v n xs) (hv:v = .slice ao n c):∀ ad,ao = some ad → base ≤ ad.block ∧ ad.block < w.heap.size:=fun ad had=>by
 subst hv had
 exact h.lt ad.block rfl
end Go.Proofs.YtecilienolabfaaGreatDoor
