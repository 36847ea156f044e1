/-
  DERIVED. GIVEN WITH THE SEED: THE CARDS: each row of YtbgdchcnmcjegaaGreatDoorRows.lean that lists a variable, with what it lists TIED to the program's text (the seventh form; the later family's looks); each row that meets fmt, with fmt's text TOLD by the authors' own Lean function (tested against real Go, not proved from fmt's source: count such statements apart). THE CARD IS WHAT COUNTS. Prove the row's statement (the work); the ties are given (YtbgdchcnmcjegaaGreatDoorTie.lean); close each card by the builder's one call (the guide's Derived/Test/ToyasCard.lean, 'card_holds'). Laid BY PROGRAM, IN A SANDBOX (cutbox-door.mjs). By AI agents, Wed Nov 11 2026. No macro, syntax, notation, axiom, sorry.
-/
import Derived.Test.YtbgdchcnmcjegaaGreatDoorRows
import GoSem.ClaimSeven
namespace Go.Proofs.YtbgdchcnmcjegaaGreatDoor
namespace Rows

/-- THE TIED CARD OF 'flittinglaw11.SpaceTells'. -/
def spaceTellsCard : Claim7 := { stood := { row := spaceTellsRow, standIns := [], harness := (true, "f4017d992d21f24416b8cde8fe2d60c97b252e4cc7474ba4ac20942705c09234"), looks := true }, kinds := [], alts := [], laidByText := true, laidKinds := [.handle], laidTests := true, laidLooks := .later }
def SpaceTellsCardSaid : Prop := Claim7.holds Tryz.pinned (.plain (OpenSpec.ofChange spaceTellsSpec)) spaceTellsCard

/-- THE TIED CARD OF 'flittinglaw11.SpaceSets'. -/
def spaceSetsCard : Claim7 := { stood := { row := spaceSetsRow, standIns := [], harness := (true, "f4017d992d21f24416b8cde8fe2d60c97b252e4cc7474ba4ac20942705c09234"), looks := true }, kinds := [], alts := [], laidByText := true, laidKinds := [.handle], laidTests := true, laidLooks := .later }
def SpaceSetsCardSaid : Prop := Claim7.holds Tryz.pinned (.plain (OpenSpec.ofChange spaceSetsSpec)) spaceSetsCard

/-- THE SECOND FORM's CARD OF 'flittinglaw11.SpaceTells'. -/
def spaceTellsUptoCard : Claim7 := { stood := { row := spaceTellsUptoRow, standIns := [], harness := (true, "f4017d992d21f24416b8cde8fe2d60c97b252e4cc7474ba4ac20942705c09234"), looks := true }, kinds := [], alts := [], laidByText := true, laidKinds := [.handle], laidTests := true, laidLooks := .later }
def SpaceTellsUptoCardSaid : Prop := Claim7.holds Tryz.pinned (.plain (OpenSpec.upto spaceTellsSpec)) spaceTellsUptoCard

/-- THE SECOND FORM's CARD OF 'flittinglaw11.SpaceSets'. -/
def spaceSetsUptoCard : Claim7 := { stood := { row := spaceSetsUptoRow, standIns := [], harness := (true, "f4017d992d21f24416b8cde8fe2d60c97b252e4cc7474ba4ac20942705c09234"), looks := true }, kinds := [], alts := [], laidByText := true, laidKinds := [.handle], laidTests := true, laidLooks := .later }
def SpaceSetsUptoCardSaid : Prop := Claim7.holds Tryz.pinned (.plain (OpenSpec.upto spaceSetsSpec)) spaceSetsUptoCard
end Rows
end Go.Proofs.YtbgdchcnmcjegaaGreatDoor
