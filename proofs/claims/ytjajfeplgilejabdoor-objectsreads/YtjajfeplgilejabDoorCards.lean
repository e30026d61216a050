/-
  DERIVED. GIVEN WITH THE SEED: THE CARDS: each row of YtjajfeplgilejabDoorRows.lean that lists a variable, with what it lists TIED to the program's text (the seventh form; the later family's looks); each row that meets fmt, with fmt's text TOLD by the authors' own Lean function (tested against real Go, not proved from fmt's source: count such statements apart). THE CARD IS WHAT COUNTS. Prove the row's statement (the work); the ties are given (YtjajfeplgilejabDoorTie.lean); close each card by the builder's one call (the guide's Derived/Test/ToyasCard.lean, 'card_holds'). Laid BY PROGRAM, IN A SANDBOX (cutbox-door.mjs). By AI agents, Wed Nov 11 2026. No macro, syntax, notation, axiom, sorry.
-/
import Derived.Test.YtjajfeplgilejabDoorRows
import GoSem.ClaimSeven
namespace Go.Proofs.YtjajfeplgilejabDoor
namespace Rows

/-- THE TIED CARD OF 'paddocklaw6.ObjectsReads'. -/
def objectsReadsCard : Claim7 := { stood := { row := objectsReadsRow, standIns := [], harness := (true, "cf5c9b6181977cda77d4b33eeb67583796277bdb8fb251d858bfb479773896f5"), looks := false }, kinds := [], alts := [], laidByText := true, laidKinds := [.data, .data, .data], laidTests := true, laidLooks := .later }
def ObjectsReadsCardSaid : Prop := Claim7.holds Tryd.pinned (.plain (OpenSpec.ofChange objectsReadsSpec)) objectsReadsCard

/-- THE SECOND FORM's CARD OF 'paddocklaw6.ObjectsReads'. -/
def objectsReadsUptoCard : Claim7 := { stood := { row := objectsReadsUptoRow, standIns := [], harness := (true, "cf5c9b6181977cda77d4b33eeb67583796277bdb8fb251d858bfb479773896f5"), looks := false }, kinds := [], alts := [], laidByText := true, laidKinds := [.data, .data, .data], laidTests := true, laidLooks := .later }
def ObjectsReadsUptoCardSaid : Prop := Claim7.holds Tryd.pinned (.plain (OpenSpec.upto objectsReadsSpec)) objectsReadsUptoCard
end Rows
end Go.Proofs.YtjajfeplgilejabDoor
