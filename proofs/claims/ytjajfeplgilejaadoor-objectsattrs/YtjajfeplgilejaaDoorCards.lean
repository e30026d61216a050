/-
  DERIVED. GIVEN WITH THE SEED: THE CARDS: each row of YtjajfeplgilejaaDoorRows.lean that lists a variable, with what it lists TIED to the program's text (the seventh form; the later family's looks); each row that meets fmt, with fmt's text TOLD by the authors' own Lean function (tested against real Go, not proved from fmt's source: count such statements apart). THE CARD IS WHAT COUNTS. Prove the row's statement (the work); the ties are given (YtjajfeplgilejaaDoorTie.lean); close each card by the builder's one call (the guide's Derived/Test/ToyasCard.lean, 'card_holds'). Laid BY PROGRAM, IN A SANDBOX (cutbox-door.mjs). By AI agents, Wed Nov 11 2026. No macro, syntax, notation, axiom, sorry.
-/
import Derived.Test.YtjajfeplgilejaaDoorRows
import GoSem.ClaimSeven
namespace Go.Proofs.YtjajfeplgilejaaDoor
namespace Rows

/-- THE TIED CARD OF 'paddocklaw6.ObjectsTell'. -/
def objectsTellCard : Claim7 := { stood := { row := objectsTellRow, standIns := [], harness := (true, "e7edaa9364922e8146d6ddb55487d88c222f77fca036072e753e53e42c0cb33c"), looks := false }, kinds := [], alts := [], laidByText := true, laidKinds := [.data, .data, .data], laidTests := true, laidLooks := .later }
def ObjectsTellCardSaid : Prop := Claim7.holds Tryd.pinned (.plain (OpenSpec.ofChange objectsTellSpec)) objectsTellCard

/-- THE TIED CARD OF 'paddocklaw6.ObjectsAttrs'. -/
def objectsAttrsCard : Claim7 := { stood := { row := objectsAttrsRow, standIns := [], harness := (true, "e7edaa9364922e8146d6ddb55487d88c222f77fca036072e753e53e42c0cb33c"), looks := false }, kinds := [], alts := [], laidByText := true, laidKinds := [.data, .data, .data], laidTests := true, laidLooks := .later }
def ObjectsAttrsCardSaid : Prop := Claim7.holds Tryd.pinned (.plain (OpenSpec.ofChange objectsAttrsSpec)) objectsAttrsCard

/-- THE SECOND FORM's CARD OF 'paddocklaw6.ObjectsTell'. -/
def objectsTellUptoCard : Claim7 := { stood := { row := objectsTellUptoRow, standIns := [], harness := (true, "e7edaa9364922e8146d6ddb55487d88c222f77fca036072e753e53e42c0cb33c"), looks := false }, kinds := [], alts := [], laidByText := true, laidKinds := [.data, .data, .data], laidTests := true, laidLooks := .later }
def ObjectsTellUptoCardSaid : Prop := Claim7.holds Tryd.pinned (.plain (OpenSpec.upto objectsTellSpec)) objectsTellUptoCard

/-- THE SECOND FORM's CARD OF 'paddocklaw6.ObjectsAttrs'. -/
def objectsAttrsUptoCard : Claim7 := { stood := { row := objectsAttrsUptoRow, standIns := [], harness := (true, "e7edaa9364922e8146d6ddb55487d88c222f77fca036072e753e53e42c0cb33c"), looks := false }, kinds := [], alts := [], laidByText := true, laidKinds := [.data, .data, .data], laidTests := true, laidLooks := .later }
def ObjectsAttrsUptoCardSaid : Prop := Claim7.holds Tryd.pinned (.plain (OpenSpec.upto objectsAttrsSpec)) objectsAttrsUptoCard
end Rows
end Go.Proofs.YtjajfeplgilejaaDoor
