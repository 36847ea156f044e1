/-
  DERIVED. GIVEN WITH THE SEED: THE CARDS: each row of YtbghglkplbnnkaaGreatDoorRows.lean that lists a variable, with what it lists TIED to the program's text (the seventh form; the later family's looks); each row that meets fmt, with fmt's text TOLD by the authors' own Lean function (tested against real Go, not proved from fmt's source: count such statements apart). THE CARD IS WHAT COUNTS. Prove the row's statement (the work); the ties are given (YtbghglkplbnnkaaGreatDoorTie.lean); close each card by the builder's one call (the guide's Derived/Test/ToyasCard.lean, 'card_holds'). Laid BY PROGRAM, IN A SANDBOX (cutbox-door.mjs). By AI agents, Wed Nov 11 2026. No macro, syntax, notation, axiom, sorry.
-/
import Derived.Test.YtbghglkplbnnkaaGreatDoorRows
import GoSem.ClaimSeven
namespace Go.Proofs.YtbghglkplbnnkaaGreatDoor
namespace Rows

/-- THE TIED CARD OF 'flittinglaw15.GcKeeps'. -/
def gcKeepsCard : Claim7 := { stood := { row := gcKeepsRow, standIns := [], harness := (true, "5eadba8f6b5014f440837277aae8ec204e12287d44914262beaa72e784409e8f"), looks := true }, kinds := [], alts := [], laidByText := true, laidKinds := [.handle], laidTests := true, laidLooks := .later }
def GcKeepsCardSaid : Prop := Claim7.holds Tryz.pinned (.plain (OpenSpec.ofChange gcKeepsSpec)) gcKeepsCard

/-- THE TIED CARD OF 'flittinglaw15.GcMakes'. -/
def gcMakesCard : Claim7 := { stood := { row := gcMakesRow, standIns := [], harness := (true, "5eadba8f6b5014f440837277aae8ec204e12287d44914262beaa72e784409e8f"), looks := true }, kinds := [], alts := [], laidByText := true, laidKinds := [.handle], laidTests := true, laidLooks := .later }
def GcMakesCardSaid : Prop := Claim7.holds Tryz.pinned (.plain (OpenSpec.ofChange gcMakesSpec)) gcMakesCard

/-- THE TIED CARD OF 'flittinglaw15.GcTwice'. -/
def gcTwiceCard : Claim7 := { stood := { row := gcTwiceRow, standIns := [], harness := (true, "5eadba8f6b5014f440837277aae8ec204e12287d44914262beaa72e784409e8f"), looks := true }, kinds := [], alts := [], laidByText := true, laidKinds := [.handle], laidTests := true, laidLooks := .later }
def GcTwiceCardSaid : Prop := Claim7.holds Tryz.pinned (.plain (OpenSpec.ofChange gcTwiceSpec)) gcTwiceCard

/-- THE TIED CARD OF 'flittinglaw15.GcBusy'. -/
def gcBusyCard : Claim7 := { stood := { row := gcBusyRow, standIns := [], harness := (true, "5eadba8f6b5014f440837277aae8ec204e12287d44914262beaa72e784409e8f"), looks := true }, kinds := [], alts := [], laidByText := true, laidKinds := [.handle], laidTests := true, laidLooks := .later }
def GcBusyCardSaid : Prop := Claim7.holds Tryz.pinned (.plain (OpenSpec.ofChange gcBusySpec)) gcBusyCard

/-- THE SECOND FORM's CARD OF 'flittinglaw15.GcKeeps'. -/
def gcKeepsUptoCard : Claim7 := { stood := { row := gcKeepsUptoRow, standIns := [], harness := (true, "5eadba8f6b5014f440837277aae8ec204e12287d44914262beaa72e784409e8f"), looks := true }, kinds := [], alts := [], laidByText := true, laidKinds := [.handle], laidTests := true, laidLooks := .later }
def GcKeepsUptoCardSaid : Prop := Claim7.holds Tryz.pinned (.plain (OpenSpec.upto gcKeepsSpec)) gcKeepsUptoCard

/-- THE SECOND FORM's CARD OF 'flittinglaw15.GcMakes'. -/
def gcMakesUptoCard : Claim7 := { stood := { row := gcMakesUptoRow, standIns := [], harness := (true, "5eadba8f6b5014f440837277aae8ec204e12287d44914262beaa72e784409e8f"), looks := true }, kinds := [], alts := [], laidByText := true, laidKinds := [.handle], laidTests := true, laidLooks := .later }
def GcMakesUptoCardSaid : Prop := Claim7.holds Tryz.pinned (.plain (OpenSpec.upto gcMakesSpec)) gcMakesUptoCard

/-- THE SECOND FORM's CARD OF 'flittinglaw15.GcTwice'. -/
def gcTwiceUptoCard : Claim7 := { stood := { row := gcTwiceUptoRow, standIns := [], harness := (true, "5eadba8f6b5014f440837277aae8ec204e12287d44914262beaa72e784409e8f"), looks := true }, kinds := [], alts := [], laidByText := true, laidKinds := [.handle], laidTests := true, laidLooks := .later }
def GcTwiceUptoCardSaid : Prop := Claim7.holds Tryz.pinned (.plain (OpenSpec.upto gcTwiceSpec)) gcTwiceUptoCard

/-- THE SECOND FORM's CARD OF 'flittinglaw15.GcBusy'. -/
def gcBusyUptoCard : Claim7 := { stood := { row := gcBusyUptoRow, standIns := [], harness := (true, "5eadba8f6b5014f440837277aae8ec204e12287d44914262beaa72e784409e8f"), looks := true }, kinds := [], alts := [], laidByText := true, laidKinds := [.handle], laidTests := true, laidLooks := .later }
def GcBusyUptoCardSaid : Prop := Claim7.holds Tryz.pinned (.plain (OpenSpec.upto gcBusySpec)) gcBusyUptoCard
end Rows
end Go.Proofs.YtbghglkplbnnkaaGreatDoor
