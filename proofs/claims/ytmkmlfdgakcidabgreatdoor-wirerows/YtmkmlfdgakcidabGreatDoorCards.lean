/-
  DERIVED. GIVEN WITH THE SEED: THE CARDS: each row of YtmkmlfdgakcidabGreatDoorRows.lean that lists a variable, with what it lists TIED to the program's text (the seventh form; the later family's looks); each row that meets fmt, with fmt's text TOLD by the authors' own Lean function (tested against real Go, not proved from fmt's source: count such statements apart). THE CARD IS WHAT COUNTS. Prove the row's statement (the work); the ties are given (YtmkmlfdgakcidabGreatDoorTie.lean); close each card by the builder's one call (the guide's Derived/Test/ToyasCard.lean, 'card_holds'). Laid BY PROGRAM, IN A SANDBOX (cutbox-door.mjs). By AI agents, Wed Nov 11 2026. No macro, syntax, notation, axiom, sorry.
-/
import Derived.Test.YtmkmlfdgakcidabGreatDoorRows
import GoSem.ClaimSeven
namespace Go.Proofs.YtmkmlfdgakcidabGreatDoor
namespace Rows

/-- THE TIED CARD OF 'paddocklaw12.WireRows'. -/
def wireRowsCard : Claim7 := { stood := { row := wireRowsRow, standIns := [], harness := (true, "6352a4cae8d88700a6eef3cfdfb4b4d902ba744c285d00eff47ec28f073d46e4"), looks := true }, kinds := [], alts := [], laidByText := true, laidKinds := [.handle], laidTests := true, laidLooks := .later }
def WireRowsCardSaid : Prop := Claim7.holds Tryz.pinned (.plain (OpenSpec.ofChange wireRowsSpec)) wireRowsCard

/-- THE TIED CARD OF 'paddocklaw12.WireSizes'. -/
def wireSizesCard : Claim7 := { stood := { row := wireSizesRow, standIns := [], harness := (true, "6352a4cae8d88700a6eef3cfdfb4b4d902ba744c285d00eff47ec28f073d46e4"), looks := true }, kinds := [], alts := [], laidByText := true, laidKinds := [.handle], laidTests := true, laidLooks := .later }
def WireSizesCardSaid : Prop := Claim7.holds Tryz.pinned (.plain (OpenSpec.ofChange wireSizesSpec)) wireSizesCard

/-- THE SECOND FORM's CARD OF 'paddocklaw12.WireRows'. -/
def wireRowsUptoCard : Claim7 := { stood := { row := wireRowsUptoRow, standIns := [], harness := (true, "6352a4cae8d88700a6eef3cfdfb4b4d902ba744c285d00eff47ec28f073d46e4"), looks := true }, kinds := [], alts := [], laidByText := true, laidKinds := [.handle], laidTests := true, laidLooks := .later }
def WireRowsUptoCardSaid : Prop := Claim7.holds Tryz.pinned (.plain (OpenSpec.upto wireRowsSpec)) wireRowsUptoCard

/-- THE SECOND FORM's CARD OF 'paddocklaw12.WireSizes'. -/
def wireSizesUptoCard : Claim7 := { stood := { row := wireSizesUptoRow, standIns := [], harness := (true, "6352a4cae8d88700a6eef3cfdfb4b4d902ba744c285d00eff47ec28f073d46e4"), looks := true }, kinds := [], alts := [], laidByText := true, laidKinds := [.handle], laidTests := true, laidLooks := .later }
def WireSizesUptoCardSaid : Prop := Claim7.holds Tryz.pinned (.plain (OpenSpec.upto wireSizesSpec)) wireSizesUptoCard
end Rows
end Go.Proofs.YtmkmlfdgakcidabGreatDoor
