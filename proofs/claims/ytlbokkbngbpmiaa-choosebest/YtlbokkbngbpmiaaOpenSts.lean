/- A slice of states that comes in. -/
import Derived.Test.YtlbokkbngbpmiaaChooseBest
import Derived.Test.YtlbokkbngbpmiaaOpenSt
namespace Go.Proofs.Ytlbokkbngbpmiaa
set_option linter.unusedSimpArgs false
set_option linter.unusedVariables false
set_option maxRecDepth 100000
open Go.ChangeShapes Go.WideShapes Go.ChangeAt Go.RowKit

theorem open_sts {H : Type} {enc : TypeId × Value → H} {W : World} {base : Nat} {v : Value} {d : DataW H} {p : List MemPlace} (ok : Value.okWide Try.prog W .any base 23 v) (h : DataW.Trod enc Try.prog W 0 (fun _ => true) true 23 v d p) :
    ∃ ao c xs, v = .slice ao xs.length c ∧ Sl W ao c 49 (rowsS xs) ∧ ∀ x ∈ xs, StIn x.st ∧ Sl W x.ao x.c 8 (entR x.st.log) :=
  open_rows (P := Try.prog) (fun x : StE => stL x.st x.ao x.c) (fun x => StIn x.st ∧ Sl W x.ao x.c 8 (entR x.st.log)) 49 Try.underlying23 co_st (fun fuel y cs h => by
    obtain ⟨s, ao, c, hcs, h1, h2⟩ := reads_st h
    exact ⟨⟨s, ao, c⟩, hcs, h1, h2⟩) (fun _ => rfl) ok h
end Go.Proofs.Ytlbokkbngbpmiaa
