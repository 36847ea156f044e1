/-
  DERIVED. GIVEN WITH THE SEED: THE CARDS: each row of YtooligoacgemlaaGreatDoorRows.lean that lists a variable, with what it lists TIED to the program's text (the seventh form; the later family's looks); each row that meets fmt, with fmt's text TOLD by the authors' own Lean function (tested against real Go, not proved from fmt's source: count such statements apart). THE CARD IS WHAT COUNTS. Prove the row's statement (the work); the ties are given (YtooligoacgemlaaGreatDoorTie.lean); close each card by the builder's one call (the guide's Derived/Test/ToyasCard.lean, 'card_holds'). Laid BY PROGRAM, IN A SANDBOX (cutbox-door.mjs). By AI agents, Wed Nov 11 2026. No macro, syntax, notation, axiom, sorry.
-/
import Derived.Test.YtooligoacgemlaaGreatDoorRows
import GoSem.ClaimSeven
namespace Go.Proofs.YtooligoacgemlaaGreatDoor
namespace Rows

/-- THE TIED CARD OF 'flittinglaw13.FollowTells'. -/
def followTellsCard : Claim7 := { stood := { row := followTellsRow, standIns := [], harness := (true, "22a98e4be91b80d5c1cded57d92a8b473daf587a7ece62ced1ccb22553b6950c"), looks := true }, kinds := [], alts := [], laidByText := true, laidKinds := [.handle], laidTests := true, laidLooks := .later }
def FollowTellsCardSaid : Prop := Claim7.holds Tryz.pinned (.plain (OpenSpec.ofChange followTellsSpec)) followTellsCard

/-- THE TIED CARD OF 'flittinglaw13.FollowTwice'. -/
def followTwiceCard : Claim7 := { stood := { row := followTwiceRow, standIns := [], harness := (true, "22a98e4be91b80d5c1cded57d92a8b473daf587a7ece62ced1ccb22553b6950c"), looks := true }, kinds := [], alts := [], laidByText := true, laidKinds := [.handle], laidTests := true, laidLooks := .later }
def FollowTwiceCardSaid : Prop := Claim7.holds Tryz.pinned (.plain (OpenSpec.ofChange followTwiceSpec)) followTwiceCard

/-- THE TIED CARD OF 'flittinglaw13.FollowShares'. -/
def followSharesCard : Claim7 := { stood := { row := followSharesRow, standIns := [], harness := (true, "22a98e4be91b80d5c1cded57d92a8b473daf587a7ece62ced1ccb22553b6950c"), looks := true }, kinds := [], alts := [], laidByText := true, laidKinds := [.handle], laidTests := true, laidLooks := .later }
def FollowSharesCardSaid : Prop := Claim7.holds Tryz.pinned (.plain (OpenSpec.ofChange followSharesSpec)) followSharesCard

/-- THE SECOND FORM's CARD OF 'flittinglaw13.FollowTells'. -/
def followTellsUptoCard : Claim7 := { stood := { row := followTellsUptoRow, standIns := [], harness := (true, "22a98e4be91b80d5c1cded57d92a8b473daf587a7ece62ced1ccb22553b6950c"), looks := true }, kinds := [], alts := [], laidByText := true, laidKinds := [.handle], laidTests := true, laidLooks := .later }
def FollowTellsUptoCardSaid : Prop := Claim7.holds Tryz.pinned (.plain (OpenSpec.upto followTellsSpec)) followTellsUptoCard

/-- THE SECOND FORM's CARD OF 'flittinglaw13.FollowTwice'. -/
def followTwiceUptoCard : Claim7 := { stood := { row := followTwiceUptoRow, standIns := [], harness := (true, "22a98e4be91b80d5c1cded57d92a8b473daf587a7ece62ced1ccb22553b6950c"), looks := true }, kinds := [], alts := [], laidByText := true, laidKinds := [.handle], laidTests := true, laidLooks := .later }
def FollowTwiceUptoCardSaid : Prop := Claim7.holds Tryz.pinned (.plain (OpenSpec.upto followTwiceSpec)) followTwiceUptoCard

/-- THE SECOND FORM's CARD OF 'flittinglaw13.FollowShares'. -/
def followSharesUptoCard : Claim7 := { stood := { row := followSharesUptoRow, standIns := [], harness := (true, "22a98e4be91b80d5c1cded57d92a8b473daf587a7ece62ced1ccb22553b6950c"), looks := true }, kinds := [], alts := [], laidByText := true, laidKinds := [.handle], laidTests := true, laidLooks := .later }
def FollowSharesUptoCardSaid : Prop := Claim7.holds Tryz.pinned (.plain (OpenSpec.upto followSharesSpec)) followSharesUptoCard
end Rows
end Go.Proofs.YtooligoacgemlaaGreatDoor
