/-
  DERIVED. GIVEN WITH THE SEED: THE CARDS: each row of YtjpiadhhdgclpaaGreatDoorRows.lean that lists a variable, with what it lists TIED to the program's text (the seventh form; the later family's looks); each row that meets fmt, with fmt's text TOLD by the authors' own Lean function (tested against real Go, not proved from fmt's source: count such statements apart). THE CARD IS WHAT COUNTS. Prove the row's statement (the work); the ties are given (YtjpiadhhdgclpaaGreatDoorTie.lean); close each card by the builder's one call (the guide's Derived/Test/ToyasCard.lean, 'card_holds'). Laid BY PROGRAM, IN A SANDBOX (cutbox-door.mjs). By AI agents, Wed Nov 11 2026. No macro, syntax, notation, axiom, sorry.
-/
import Derived.Test.YtjpiadhhdgclpaaGreatDoorRows
import GoSem.ClaimSeven
namespace Go.Proofs.YtjpiadhhdgclpaaGreatDoor
namespace Rows

/-- THE TIED CARD OF 'flittinglaw12.AllocTells'. -/
def allocTellsCard : Claim7 := { stood := { row := allocTellsRow, standIns := [], harness := (true, "eb855b511700a128e26029f0f6cde4382ff8e4b01f9c2c7f1ea2ac1f414a0ce5"), looks := true }, kinds := [], alts := [], laidByText := true, laidKinds := [.handle], laidTests := true, laidLooks := .later }
def AllocTellsCardSaid : Prop := Claim7.holds Tryz.pinned (.plain (OpenSpec.ofChange allocTellsSpec)) allocTellsCard

/-- THE TIED CARD OF 'flittinglaw12.AllocFills'. -/
def allocFillsCard : Claim7 := { stood := { row := allocFillsRow, standIns := [], harness := (true, "eb855b511700a128e26029f0f6cde4382ff8e4b01f9c2c7f1ea2ac1f414a0ce5"), looks := true }, kinds := [], alts := [], laidByText := true, laidKinds := [.handle], laidTests := true, laidLooks := .later }
def AllocFillsCardSaid : Prop := Claim7.holds Tryz.pinned (.plain (OpenSpec.ofChange allocFillsSpec)) allocFillsCard

/-- THE TIED CARD OF 'flittinglaw12.AllocZero'. -/
def allocZeroCard : Claim7 := { stood := { row := allocZeroRow, standIns := [], harness := (true, "eb855b511700a128e26029f0f6cde4382ff8e4b01f9c2c7f1ea2ac1f414a0ce5"), looks := true }, kinds := [], alts := [], laidByText := true, laidKinds := [.handle], laidTests := true, laidLooks := .later }
def AllocZeroCardSaid : Prop := Claim7.holds Tryz.pinned (.plain (OpenSpec.ofChange allocZeroSpec)) allocZeroCard

/-- THE TIED CARD OF 'flittinglaw12.AllocOrder'. -/
def allocOrderCard : Claim7 := { stood := { row := allocOrderRow, standIns := [], harness := (true, "eb855b511700a128e26029f0f6cde4382ff8e4b01f9c2c7f1ea2ac1f414a0ce5"), looks := true }, kinds := [], alts := [], laidByText := true, laidKinds := [.handle], laidTests := true, laidLooks := .later }
def AllocOrderCardSaid : Prop := Claim7.holds Tryz.pinned (.plain (OpenSpec.ofChange allocOrderSpec)) allocOrderCard

/-- THE SECOND FORM's CARD OF 'flittinglaw12.AllocTells'. -/
def allocTellsUptoCard : Claim7 := { stood := { row := allocTellsUptoRow, standIns := [], harness := (true, "eb855b511700a128e26029f0f6cde4382ff8e4b01f9c2c7f1ea2ac1f414a0ce5"), looks := true }, kinds := [], alts := [], laidByText := true, laidKinds := [.handle], laidTests := true, laidLooks := .later }
def AllocTellsUptoCardSaid : Prop := Claim7.holds Tryz.pinned (.plain (OpenSpec.upto allocTellsSpec)) allocTellsUptoCard

/-- THE SECOND FORM's CARD OF 'flittinglaw12.AllocFills'. -/
def allocFillsUptoCard : Claim7 := { stood := { row := allocFillsUptoRow, standIns := [], harness := (true, "eb855b511700a128e26029f0f6cde4382ff8e4b01f9c2c7f1ea2ac1f414a0ce5"), looks := true }, kinds := [], alts := [], laidByText := true, laidKinds := [.handle], laidTests := true, laidLooks := .later }
def AllocFillsUptoCardSaid : Prop := Claim7.holds Tryz.pinned (.plain (OpenSpec.upto allocFillsSpec)) allocFillsUptoCard

/-- THE SECOND FORM's CARD OF 'flittinglaw12.AllocZero'. -/
def allocZeroUptoCard : Claim7 := { stood := { row := allocZeroUptoRow, standIns := [], harness := (true, "eb855b511700a128e26029f0f6cde4382ff8e4b01f9c2c7f1ea2ac1f414a0ce5"), looks := true }, kinds := [], alts := [], laidByText := true, laidKinds := [.handle], laidTests := true, laidLooks := .later }
def AllocZeroUptoCardSaid : Prop := Claim7.holds Tryz.pinned (.plain (OpenSpec.upto allocZeroSpec)) allocZeroUptoCard

/-- THE SECOND FORM's CARD OF 'flittinglaw12.AllocOrder'. -/
def allocOrderUptoCard : Claim7 := { stood := { row := allocOrderUptoRow, standIns := [], harness := (true, "eb855b511700a128e26029f0f6cde4382ff8e4b01f9c2c7f1ea2ac1f414a0ce5"), looks := true }, kinds := [], alts := [], laidByText := true, laidKinds := [.handle], laidTests := true, laidLooks := .later }
def AllocOrderUptoCardSaid : Prop := Claim7.holds Tryz.pinned (.plain (OpenSpec.upto allocOrderSpec)) allocOrderUptoCard
end Rows
end Go.Proofs.YtjpiadhhdgclpaaGreatDoor
