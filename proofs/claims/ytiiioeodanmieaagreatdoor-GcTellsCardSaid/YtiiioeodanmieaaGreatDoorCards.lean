/-
  DERIVED. GIVEN WITH THE SEED: THE CARDS: each row of YtiiioeodanmieaaGreatDoorRows.lean that lists a variable, with what it lists TIED to the program's text (the seventh form; the later family's looks); each row that meets fmt, with fmt's text TOLD by the authors' own Lean function (tested against real Go, not proved from fmt's source: count such statements apart). THE CARD IS WHAT COUNTS. Prove the row's statement (the work); the ties are given (YtiiioeodanmieaaGreatDoorTie.lean); close each card by the builder's one call (the guide's Derived/Test/ToyasCard.lean, 'card_holds'). Laid BY PROGRAM, IN A SANDBOX (cutbox-door.mjs). By AI agents, Wed Nov 11 2026. No macro, syntax, notation, axiom, sorry.
-/
import Derived.Test.YtiiioeodanmieaaGreatDoorRows
import GoSem.ClaimSeven
namespace Go.Proofs.YtiiioeodanmieaaGreatDoor
namespace Rows

/-- THE TIED CARD OF 'flittinglaw15.GcTells'. -/
def gcTellsCard : Claim7 := { stood := { row := gcTellsRow, standIns := [], harness := (true, "8fce638d176a6ed7a8d20cc40ee644723240da8142e32d6a09e05471a2b29afe"), looks := true }, kinds := [], alts := [], laidByText := true, laidKinds := [.handle], laidTests := true, laidLooks := .later }
def GcTellsCardSaid : Prop := Claim7.holds Tryz.pinned (.plain (OpenSpec.ofChange gcTellsSpec)) gcTellsCard

/-- THE TIED CARD OF 'flittinglaw15.GcKeeps'. -/
def gcKeepsCard : Claim7 := { stood := { row := gcKeepsRow, standIns := [], harness := (true, "8fce638d176a6ed7a8d20cc40ee644723240da8142e32d6a09e05471a2b29afe"), looks := true }, kinds := [], alts := [], laidByText := true, laidKinds := [.handle], laidTests := true, laidLooks := .later }
def GcKeepsCardSaid : Prop := Claim7.holds Tryz.pinned (.plain (OpenSpec.ofChange gcKeepsSpec)) gcKeepsCard

/-- THE TIED CARD OF 'flittinglaw15.GcMakes'. -/
def gcMakesCard : Claim7 := { stood := { row := gcMakesRow, standIns := [], harness := (true, "8fce638d176a6ed7a8d20cc40ee644723240da8142e32d6a09e05471a2b29afe"), looks := true }, kinds := [], alts := [], laidByText := true, laidKinds := [.handle], laidTests := true, laidLooks := .later }
def GcMakesCardSaid : Prop := Claim7.holds Tryz.pinned (.plain (OpenSpec.ofChange gcMakesSpec)) gcMakesCard

/-- THE TIED CARD OF 'flittinglaw15.GcTwice'. -/
def gcTwiceCard : Claim7 := { stood := { row := gcTwiceRow, standIns := [], harness := (true, "8fce638d176a6ed7a8d20cc40ee644723240da8142e32d6a09e05471a2b29afe"), looks := true }, kinds := [], alts := [], laidByText := true, laidKinds := [.handle], laidTests := true, laidLooks := .later }
def GcTwiceCardSaid : Prop := Claim7.holds Tryz.pinned (.plain (OpenSpec.ofChange gcTwiceSpec)) gcTwiceCard

/-- THE TIED CARD OF 'flittinglaw15.GcRegs'. -/
def gcRegsCard : Claim7 := { stood := { row := gcRegsRow, standIns := [], harness := (true, "8fce638d176a6ed7a8d20cc40ee644723240da8142e32d6a09e05471a2b29afe"), looks := true }, kinds := [], alts := [], laidByText := true, laidKinds := [.handle], laidTests := true, laidLooks := .later }
def GcRegsCardSaid : Prop := Claim7.holds Tryz.pinned (.plain (OpenSpec.ofChange gcRegsSpec)) gcRegsCard

/-- THE TIED CARD OF 'flittinglaw15.GcFrees'. -/
def gcFreesCard : Claim7 := { stood := { row := gcFreesRow, standIns := [], harness := (true, "8fce638d176a6ed7a8d20cc40ee644723240da8142e32d6a09e05471a2b29afe"), looks := true }, kinds := [], alts := [], laidByText := true, laidKinds := [.handle], laidTests := true, laidLooks := .later }
def GcFreesCardSaid : Prop := Claim7.holds Tryz.pinned (.plain (OpenSpec.ofChange gcFreesSpec)) gcFreesCard

/-- THE TIED CARD OF 'flittinglaw15.GcBusy'. -/
def gcBusyCard : Claim7 := { stood := { row := gcBusyRow, standIns := [], harness := (true, "8fce638d176a6ed7a8d20cc40ee644723240da8142e32d6a09e05471a2b29afe"), looks := true }, kinds := [], alts := [], laidByText := true, laidKinds := [.handle], laidTests := true, laidLooks := .later }
def GcBusyCardSaid : Prop := Claim7.holds Tryz.pinned (.plain (OpenSpec.ofChange gcBusySpec)) gcBusyCard

/-- THE TIED CARD OF 'flittinglaw15.GcNothing'. -/
def gcNothingCard : Claim7 := { stood := { row := gcNothingRow, standIns := [], harness := (true, "8fce638d176a6ed7a8d20cc40ee644723240da8142e32d6a09e05471a2b29afe"), looks := true }, kinds := [], alts := [], laidByText := true, laidKinds := [.handle], laidTests := true, laidLooks := .later }
def GcNothingCardSaid : Prop := Claim7.holds Tryz.pinned (.plain (OpenSpec.ofChange gcNothingSpec)) gcNothingCard

/-- THE SECOND FORM's CARD OF 'flittinglaw15.GcTells'. -/
def gcTellsUptoCard : Claim7 := { stood := { row := gcTellsUptoRow, standIns := [], harness := (true, "8fce638d176a6ed7a8d20cc40ee644723240da8142e32d6a09e05471a2b29afe"), looks := true }, kinds := [], alts := [], laidByText := true, laidKinds := [.handle], laidTests := true, laidLooks := .later }
def GcTellsUptoCardSaid : Prop := Claim7.holds Tryz.pinned (.plain (OpenSpec.upto gcTellsSpec)) gcTellsUptoCard

/-- THE SECOND FORM's CARD OF 'flittinglaw15.GcKeeps'. -/
def gcKeepsUptoCard : Claim7 := { stood := { row := gcKeepsUptoRow, standIns := [], harness := (true, "8fce638d176a6ed7a8d20cc40ee644723240da8142e32d6a09e05471a2b29afe"), looks := true }, kinds := [], alts := [], laidByText := true, laidKinds := [.handle], laidTests := true, laidLooks := .later }
def GcKeepsUptoCardSaid : Prop := Claim7.holds Tryz.pinned (.plain (OpenSpec.upto gcKeepsSpec)) gcKeepsUptoCard

/-- THE SECOND FORM's CARD OF 'flittinglaw15.GcMakes'. -/
def gcMakesUptoCard : Claim7 := { stood := { row := gcMakesUptoRow, standIns := [], harness := (true, "8fce638d176a6ed7a8d20cc40ee644723240da8142e32d6a09e05471a2b29afe"), looks := true }, kinds := [], alts := [], laidByText := true, laidKinds := [.handle], laidTests := true, laidLooks := .later }
def GcMakesUptoCardSaid : Prop := Claim7.holds Tryz.pinned (.plain (OpenSpec.upto gcMakesSpec)) gcMakesUptoCard

/-- THE SECOND FORM's CARD OF 'flittinglaw15.GcTwice'. -/
def gcTwiceUptoCard : Claim7 := { stood := { row := gcTwiceUptoRow, standIns := [], harness := (true, "8fce638d176a6ed7a8d20cc40ee644723240da8142e32d6a09e05471a2b29afe"), looks := true }, kinds := [], alts := [], laidByText := true, laidKinds := [.handle], laidTests := true, laidLooks := .later }
def GcTwiceUptoCardSaid : Prop := Claim7.holds Tryz.pinned (.plain (OpenSpec.upto gcTwiceSpec)) gcTwiceUptoCard

/-- THE SECOND FORM's CARD OF 'flittinglaw15.GcRegs'. -/
def gcRegsUptoCard : Claim7 := { stood := { row := gcRegsUptoRow, standIns := [], harness := (true, "8fce638d176a6ed7a8d20cc40ee644723240da8142e32d6a09e05471a2b29afe"), looks := true }, kinds := [], alts := [], laidByText := true, laidKinds := [.handle], laidTests := true, laidLooks := .later }
def GcRegsUptoCardSaid : Prop := Claim7.holds Tryz.pinned (.plain (OpenSpec.upto gcRegsSpec)) gcRegsUptoCard

/-- THE SECOND FORM's CARD OF 'flittinglaw15.GcFrees'. -/
def gcFreesUptoCard : Claim7 := { stood := { row := gcFreesUptoRow, standIns := [], harness := (true, "8fce638d176a6ed7a8d20cc40ee644723240da8142e32d6a09e05471a2b29afe"), looks := true }, kinds := [], alts := [], laidByText := true, laidKinds := [.handle], laidTests := true, laidLooks := .later }
def GcFreesUptoCardSaid : Prop := Claim7.holds Tryz.pinned (.plain (OpenSpec.upto gcFreesSpec)) gcFreesUptoCard

/-- THE SECOND FORM's CARD OF 'flittinglaw15.GcBusy'. -/
def gcBusyUptoCard : Claim7 := { stood := { row := gcBusyUptoRow, standIns := [], harness := (true, "8fce638d176a6ed7a8d20cc40ee644723240da8142e32d6a09e05471a2b29afe"), looks := true }, kinds := [], alts := [], laidByText := true, laidKinds := [.handle], laidTests := true, laidLooks := .later }
def GcBusyUptoCardSaid : Prop := Claim7.holds Tryz.pinned (.plain (OpenSpec.upto gcBusySpec)) gcBusyUptoCard

/-- THE SECOND FORM's CARD OF 'flittinglaw15.GcNothing'. -/
def gcNothingUptoCard : Claim7 := { stood := { row := gcNothingUptoRow, standIns := [], harness := (true, "8fce638d176a6ed7a8d20cc40ee644723240da8142e32d6a09e05471a2b29afe"), looks := true }, kinds := [], alts := [], laidByText := true, laidKinds := [.handle], laidTests := true, laidLooks := .later }
def GcNothingUptoCardSaid : Prop := Claim7.holds Tryz.pinned (.plain (OpenSpec.upto gcNothingSpec)) gcNothingUptoCard
end Rows
end Go.Proofs.YtiiioeodanmieaaGreatDoor
