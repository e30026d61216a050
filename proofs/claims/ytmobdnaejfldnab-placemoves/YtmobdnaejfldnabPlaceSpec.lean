/- What package place has to answer, as one bundle: the laws' walks lean on it; it is paid by the contracts of the landed code. -/
import Derived.Test.YtmobdnaejfldnabPlaceMath
import Derived.Test.YtmobdnaejfldnabIsMaps
import Derived.Test.YtmobdnaejfldnabMapsFirst
import Derived.Test.YtmobdnaejfldnabThose
namespace Go.Proofs.Ytmobdnaejfldnab
set_option linter.unusedSimpArgs false
set_option linter.unusedVariables false
open Go.RowKit

structure PlaceSpec : Prop where
  pick : ∀ (m : MapV) (g : Nat) (w : World), MapOk m → g < 256 → Calls Try.prog 7 #[.agg (mapC m), .int .u8 g] w fun e w' => ∃ ao c, e = .returned (.slice ao (pickM m g).length c) ∧ Ix w' ao c (pickM m g) ∧ Below w.heap.size w w'
  acting : ∀ (m : MapV) (g : Nat) (w : World), MapOk m → g < 256 → Calls Try.prog 15 #[.agg (mapC m), .int .u8 g] w fun e w' => ∃ ao c, e = .returned (.slice ao (actM m g).length c) ∧ Ix w' ao c (actM m g) ∧ Below w.heap.size w w'
  primary : ∀ (m : MapV) (g : Nat) (w : World), MapOk m → g < 256 → Calls Try.prog 8 #[.agg (mapC m), .int .u8 g] w fun e w' => e = .returned (.int .i64 (primM m g)) ∧ Below w.heap.size w w'
  moved : ∀ (m n : MapV) (w : World), MapOk m → MapOk n → Calls Try.prog 10 #[.agg (mapC m), .agg (mapC n)] w fun e w' => e = .returned (.int .i64 (movedTo m n 4 : Nat)) ∧ Below w.heap.size w w'
end Go.Proofs.Ytmobdnaejfldnab
