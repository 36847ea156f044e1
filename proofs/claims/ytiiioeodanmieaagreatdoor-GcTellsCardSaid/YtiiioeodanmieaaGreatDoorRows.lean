/-
  NARROWER THAN 'FOR EVERY INPUT', by the rows' own cells (each row's printed sentence says how): GcTells: laid · GcKeeps: laid · GcMakes: laid · GcTwice: laid · GcRegs: laid · GcFrees: laid · GcBusy: laid · GcNothing: laid.
  DERIVED. THE GIVEN ROWS OF THIS SEAT. 8 by the template 'for every input the law returns true; each argument reads behind the call as it read before'; 0 by the template 'total and deterministic' (their statements: YtiiioeodanmieaaGreatDoorTotals.lean).
  GIVEN WITH THE SEED: the statements are not yours to turn. If you find one false, say at which input.
  Laid BY PROGRAM, IN A SANDBOX (cutbox-rows.mjs): the forced cells as the released guide's own fill.sh prints them over the translation df1cf907436596f8… (all of the seat's roots in one cut). By AI agents, Wed Nov 11 2026. No macro, syntax, notation, axiom, sorry.
-/
import Derived.Test.YtiiioeodanmieaaGreatDoorChecked
import GoSem.Claim
import GoSem.ClaimJoined
import GoSem.ClaimMapViews
import Derived.JoinedTies
import Derived.KernelRfl
namespace Go.Proofs.YtiiioeodanmieaaGreatDoor
/- THE CELL 'sum', in the pinned program and in every row, IS THE sha256 OF THE DUMP (.gsa) THAT YtiiioeodanmieaaGreatDoorProg.lean LOADS. Nothing in Lean hashes anything: it is a label: what it is worth is what the hold of that sum in a sandbox is worth. -/
noncomputable def Tryz.pinned : Pinned := { name := "ytiiioeodanmieaagreatdoor", sum := "df1cf907436596f86824f003e5e7c5863f14cbe9adf54acc728d7a419cfe56a9", checked := Tryz.checked }
namespace Rows
def none {H : Type} : Left H := { results := [], args := [] }

/- WHAT THE LISTED PACKAGE-LEVEL VARIABLES READ AS WHEN THE CALL BEGINS. Each datum BY PROGRAM (the guide's laid-datum.mjs) off the statement by which the dump's own 'gosem.cut.vars' lays the variable. In a bare row this is a premise. The card (YtiiioeodanmieaaGreatDoorCards.lean) ties it to the program's text. -/
def laid_errors_errorType {H : Type} : DataW H := .iface "internal/reflectlite.rtype" (.agg [.ptr (.lit (.string [101, 114, 114, 111, 114]))])

/-- 'flittinglaw15.GcTells': WHATEVER THE INPUT: true; the input reads as it did. -/
def gcTellsSpec : ChangeSpec := { name := "gcTells", fn := fun _ => fun
  | [d1, d2, d3, d4] => { results := [.lit (.bool true)], args := [d1, d2, d3, d4] }
  | _ => none }
def gcTellsRow : OpenClaim := { program := "ytiiioeodanmieaagreatdoor", sum := "df1cf907436596f86824f003e5e7c5863f14cbe9adf54acc728d7a419cfe56a9", func := "flitting/flittinglaw15.GcTells", spec := "gcTells", inPlace := ["internal/abi.NoEscape", "internal/bytealg.MakeNoZero", "internal/reflectlite.ValueOf", "(internal/reflectlite.Value).Type", "(internal/reflectlite.Value).IsNil", "internal/reflectlite.TypeOf", "(internal/reflectlite.Value).Elem", "(internal/reflectlite.Value).Set"], unfollowed := true, recurses := true, named := ["errors.errorType"], apart := false, laid := [("errors.errorType", laid_errors_errorType)] }
def GcTellsSaid : Prop := gcTellsRow.holds Tryz.pinned (OpenSpec.ofChange gcTellsSpec)

/-- ITS FALSE NEIGHBOUR: 'it returns false'. Refute it at one input. -/
def gcTellsWrong : ChangeSpec := { name := "gcTells", fn := fun _ => fun
  | [d1, d2, d3, d4] => { results := [.lit (.bool false)], args := [d1, d2, d3, d4] }
  | _ => none }
def GcTellsWrongFalsely : Prop := gcTellsRow.holds Tryz.pinned (OpenSpec.ofChange gcTellsWrong)

/-- 'flittinglaw15.GcKeeps': WHATEVER THE INPUT: true; the input reads as it did. -/
def gcKeepsSpec : ChangeSpec := { name := "gcKeeps", fn := fun _ => fun
  | [d1, d2, d3] => { results := [.lit (.bool true)], args := [d1, d2, d3] }
  | _ => none }
def gcKeepsRow : OpenClaim := { program := "ytiiioeodanmieaagreatdoor", sum := "df1cf907436596f86824f003e5e7c5863f14cbe9adf54acc728d7a419cfe56a9", func := "flitting/flittinglaw15.GcKeeps", spec := "gcKeeps", inPlace := ["internal/abi.NoEscape", "internal/bytealg.MakeNoZero", "internal/reflectlite.ValueOf", "(internal/reflectlite.Value).Type", "(internal/reflectlite.Value).IsNil", "internal/reflectlite.TypeOf", "(internal/reflectlite.Value).Elem", "(internal/reflectlite.Value).Set"], unfollowed := true, recurses := true, named := ["errors.errorType"], apart := false, laid := [("errors.errorType", laid_errors_errorType)] }
def GcKeepsSaid : Prop := gcKeepsRow.holds Tryz.pinned (OpenSpec.ofChange gcKeepsSpec)

/-- ITS FALSE NEIGHBOUR: 'it returns false'. Refute it at one input. -/
def gcKeepsWrong : ChangeSpec := { name := "gcKeeps", fn := fun _ => fun
  | [d1, d2, d3] => { results := [.lit (.bool false)], args := [d1, d2, d3] }
  | _ => none }
def GcKeepsWrongFalsely : Prop := gcKeepsRow.holds Tryz.pinned (OpenSpec.ofChange gcKeepsWrong)

/-- 'flittinglaw15.GcMakes': WHATEVER THE INPUT: true; the input reads as it did. -/
def gcMakesSpec : ChangeSpec := { name := "gcMakes", fn := fun _ => fun
  | [d1, d2, d3, d4] => { results := [.lit (.bool true)], args := [d1, d2, d3, d4] }
  | _ => none }
def gcMakesRow : OpenClaim := { program := "ytiiioeodanmieaagreatdoor", sum := "df1cf907436596f86824f003e5e7c5863f14cbe9adf54acc728d7a419cfe56a9", func := "flitting/flittinglaw15.GcMakes", spec := "gcMakes", inPlace := ["internal/abi.NoEscape", "internal/bytealg.MakeNoZero", "internal/reflectlite.ValueOf", "(internal/reflectlite.Value).Type", "(internal/reflectlite.Value).IsNil", "internal/reflectlite.TypeOf", "(internal/reflectlite.Value).Elem", "(internal/reflectlite.Value).Set"], unfollowed := true, recurses := true, named := ["errors.errorType"], apart := false, laid := [("errors.errorType", laid_errors_errorType)] }
def GcMakesSaid : Prop := gcMakesRow.holds Tryz.pinned (OpenSpec.ofChange gcMakesSpec)

/-- ITS FALSE NEIGHBOUR: 'it returns false'. Refute it at one input. -/
def gcMakesWrong : ChangeSpec := { name := "gcMakes", fn := fun _ => fun
  | [d1, d2, d3, d4] => { results := [.lit (.bool false)], args := [d1, d2, d3, d4] }
  | _ => none }
def GcMakesWrongFalsely : Prop := gcMakesRow.holds Tryz.pinned (OpenSpec.ofChange gcMakesWrong)

/-- 'flittinglaw15.GcTwice': WHATEVER THE INPUT: true; the input reads as it did. -/
def gcTwiceSpec : ChangeSpec := { name := "gcTwice", fn := fun _ => fun
  | [d1, d2] => { results := [.lit (.bool true)], args := [d1, d2] }
  | _ => none }
def gcTwiceRow : OpenClaim := { program := "ytiiioeodanmieaagreatdoor", sum := "df1cf907436596f86824f003e5e7c5863f14cbe9adf54acc728d7a419cfe56a9", func := "flitting/flittinglaw15.GcTwice", spec := "gcTwice", inPlace := ["internal/abi.NoEscape", "internal/bytealg.MakeNoZero", "internal/reflectlite.ValueOf", "(internal/reflectlite.Value).Type", "(internal/reflectlite.Value).IsNil", "internal/reflectlite.TypeOf", "(internal/reflectlite.Value).Elem", "(internal/reflectlite.Value).Set"], unfollowed := true, recurses := true, named := ["errors.errorType"], apart := false, laid := [("errors.errorType", laid_errors_errorType)] }
def GcTwiceSaid : Prop := gcTwiceRow.holds Tryz.pinned (OpenSpec.ofChange gcTwiceSpec)

/-- ITS FALSE NEIGHBOUR: 'it returns false'. Refute it at one input. -/
def gcTwiceWrong : ChangeSpec := { name := "gcTwice", fn := fun _ => fun
  | [d1, d2] => { results := [.lit (.bool false)], args := [d1, d2] }
  | _ => none }
def GcTwiceWrongFalsely : Prop := gcTwiceRow.holds Tryz.pinned (OpenSpec.ofChange gcTwiceWrong)

/-- 'flittinglaw15.GcRegs': WHATEVER THE INPUT: true; the input reads as it did. -/
def gcRegsSpec : ChangeSpec := { name := "gcRegs", fn := fun _ => fun
  | [d1, d2, d3] => { results := [.lit (.bool true)], args := [d1, d2, d3] }
  | _ => none }
def gcRegsRow : OpenClaim := { program := "ytiiioeodanmieaagreatdoor", sum := "df1cf907436596f86824f003e5e7c5863f14cbe9adf54acc728d7a419cfe56a9", func := "flitting/flittinglaw15.GcRegs", spec := "gcRegs", inPlace := ["internal/abi.NoEscape", "internal/bytealg.MakeNoZero", "internal/reflectlite.ValueOf", "(internal/reflectlite.Value).Type", "(internal/reflectlite.Value).IsNil", "internal/reflectlite.TypeOf", "(internal/reflectlite.Value).Elem", "(internal/reflectlite.Value).Set"], unfollowed := true, recurses := true, named := ["errors.errorType"], apart := false, laid := [("errors.errorType", laid_errors_errorType)] }
def GcRegsSaid : Prop := gcRegsRow.holds Tryz.pinned (OpenSpec.ofChange gcRegsSpec)

/-- ITS FALSE NEIGHBOUR: 'it returns false'. Refute it at one input. -/
def gcRegsWrong : ChangeSpec := { name := "gcRegs", fn := fun _ => fun
  | [d1, d2, d3] => { results := [.lit (.bool false)], args := [d1, d2, d3] }
  | _ => none }
def GcRegsWrongFalsely : Prop := gcRegsRow.holds Tryz.pinned (OpenSpec.ofChange gcRegsWrong)

/-- 'flittinglaw15.GcFrees': WHATEVER THE INPUT: true; the input reads as it did. -/
def gcFreesSpec : ChangeSpec := { name := "gcFrees", fn := fun _ => fun
  | [d1, d2] => { results := [.lit (.bool true)], args := [d1, d2] }
  | _ => none }
def gcFreesRow : OpenClaim := { program := "ytiiioeodanmieaagreatdoor", sum := "df1cf907436596f86824f003e5e7c5863f14cbe9adf54acc728d7a419cfe56a9", func := "flitting/flittinglaw15.GcFrees", spec := "gcFrees", inPlace := ["internal/abi.NoEscape", "internal/bytealg.MakeNoZero", "internal/reflectlite.ValueOf", "(internal/reflectlite.Value).Type", "(internal/reflectlite.Value).IsNil", "internal/reflectlite.TypeOf", "(internal/reflectlite.Value).Elem", "(internal/reflectlite.Value).Set"], unfollowed := true, recurses := true, named := ["errors.errorType"], apart := false, laid := [("errors.errorType", laid_errors_errorType)] }
def GcFreesSaid : Prop := gcFreesRow.holds Tryz.pinned (OpenSpec.ofChange gcFreesSpec)

/-- ITS FALSE NEIGHBOUR: 'it returns false'. Refute it at one input. -/
def gcFreesWrong : ChangeSpec := { name := "gcFrees", fn := fun _ => fun
  | [d1, d2] => { results := [.lit (.bool false)], args := [d1, d2] }
  | _ => none }
def GcFreesWrongFalsely : Prop := gcFreesRow.holds Tryz.pinned (OpenSpec.ofChange gcFreesWrong)

/-- 'flittinglaw15.GcBusy': WHATEVER THE INPUT: true; the input reads as it did. -/
def gcBusySpec : ChangeSpec := { name := "gcBusy", fn := fun _ => fun
  | [d1, d2, d3] => { results := [.lit (.bool true)], args := [d1, d2, d3] }
  | _ => none }
def gcBusyRow : OpenClaim := { program := "ytiiioeodanmieaagreatdoor", sum := "df1cf907436596f86824f003e5e7c5863f14cbe9adf54acc728d7a419cfe56a9", func := "flitting/flittinglaw15.GcBusy", spec := "gcBusy", inPlace := ["internal/abi.NoEscape", "internal/bytealg.MakeNoZero", "internal/reflectlite.ValueOf", "(internal/reflectlite.Value).Type", "(internal/reflectlite.Value).IsNil", "internal/reflectlite.TypeOf", "(internal/reflectlite.Value).Elem", "(internal/reflectlite.Value).Set"], unfollowed := true, recurses := true, named := ["errors.errorType"], apart := false, laid := [("errors.errorType", laid_errors_errorType)] }
def GcBusySaid : Prop := gcBusyRow.holds Tryz.pinned (OpenSpec.ofChange gcBusySpec)

/-- ITS FALSE NEIGHBOUR: 'it returns false'. Refute it at one input. -/
def gcBusyWrong : ChangeSpec := { name := "gcBusy", fn := fun _ => fun
  | [d1, d2, d3] => { results := [.lit (.bool false)], args := [d1, d2, d3] }
  | _ => none }
def GcBusyWrongFalsely : Prop := gcBusyRow.holds Tryz.pinned (OpenSpec.ofChange gcBusyWrong)

/-- 'flittinglaw15.GcNothing': WHATEVER THE INPUT: true; the input reads as it did. -/
def gcNothingSpec : ChangeSpec := { name := "gcNothing", fn := fun _ => fun
  | [d1, d2] => { results := [.lit (.bool true)], args := [d1, d2] }
  | _ => none }
def gcNothingRow : OpenClaim := { program := "ytiiioeodanmieaagreatdoor", sum := "df1cf907436596f86824f003e5e7c5863f14cbe9adf54acc728d7a419cfe56a9", func := "flitting/flittinglaw15.GcNothing", spec := "gcNothing", inPlace := ["internal/abi.NoEscape", "internal/bytealg.MakeNoZero", "internal/reflectlite.ValueOf", "(internal/reflectlite.Value).Type", "(internal/reflectlite.Value).IsNil", "internal/reflectlite.TypeOf", "(internal/reflectlite.Value).Elem", "(internal/reflectlite.Value).Set"], unfollowed := true, recurses := true, named := ["errors.errorType"], apart := false, laid := [("errors.errorType", laid_errors_errorType)] }
def GcNothingSaid : Prop := gcNothingRow.holds Tryz.pinned (OpenSpec.ofChange gcNothingSpec)

/-- ITS FALSE NEIGHBOUR: 'it returns false'. Refute it at one input. -/
def gcNothingWrong : ChangeSpec := { name := "gcNothing", fn := fun _ => fun
  | [d1, d2] => { results := [.lit (.bool false)], args := [d1, d2] }
  | _ => none }
def GcNothingWrongFalsely : Prop := gcNothingRow.holds Tryz.pinned (OpenSpec.ofChange gcNothingWrong)

/- THE SECOND FORM. 'bulk': how many values and letters a reading holds, each counted each time it is reached (what is shared counts as often as it is met; a slice's spare places count too). A statement '..UptoSaid' is the law's where the arguments, and the package variables that the reading takes, are together of bulk at most 1048576: NARROWER than '..Said'. Prove '..Said' where nothing that the law and all that it calls make is longer than what came in: it says more and counts as full. Else prove '..UptoSaid'. A law counts once. -/
mutual
def uptoBulk {H : Type} : DataW H → Nat
  | .lit (.string bytes) => bytes.length + 1
  | .lit _ => 1
  | .nil => 1
  | .ptr d => uptoBulk d + 1
  | .slice elems spare => uptoBulkAll elems + uptoBulkAll spare + 1
  | .agg parts => uptoBulkAll parts + 1
  | .iface _ d => uptoBulk d + 1
  | .map entries => uptoBulkEntries entries + 1
  | .held _ => 1
def uptoBulkAll {H : Type} : List (DataW H) → Nat
  | [] => 0
  | d :: r => uptoBulk d + uptoBulkAll r
def uptoBulkEntries {H : Type} : List (Lit × DataW H) → Nat
  | [] => 0
  | x :: r => uptoBulkEntry x + uptoBulkEntries r
def uptoBulkEntry {H : Type} : Lit × DataW H → Nat
  | (.string bytes, d) => bytes.length + uptoBulk d + 1
  | (_, d) => uptoBulk d + 1
 end
def uptoSmall : (H : Type) → List (DataW H) → Bool := fun _ ds => decide (uptoBulkAll ds ≤ 1048576)
def OpenSpec.upto (s : _root_.Go.ChangeSpec) : _root_.Go.OpenSpec := { _root_.Go.OpenSpec.ofChange s with cond := some uptoSmall }

/-- 'flittinglaw15.GcTells', WHERE WHAT IT READS IS OF BULK AT MOST 1048576: true; the input reads as it did. -/
def gcTellsUptoRow : OpenClaim := { program := "ytiiioeodanmieaagreatdoor", sum := "df1cf907436596f86824f003e5e7c5863f14cbe9adf54acc728d7a419cfe56a9", func := "flitting/flittinglaw15.GcTells", spec := "gcTells", inPlace := ["internal/abi.NoEscape", "internal/bytealg.MakeNoZero", "internal/reflectlite.ValueOf", "(internal/reflectlite.Value).Type", "(internal/reflectlite.Value).IsNil", "internal/reflectlite.TypeOf", "(internal/reflectlite.Value).Elem", "(internal/reflectlite.Value).Set"], unfollowed := true, recurses := true, named := ["errors.errorType"], apart := false, laid := [("errors.errorType", laid_errors_errorType)], narrowed := true }
def GcTellsUptoSaid : Prop := gcTellsUptoRow.holds Tryz.pinned (OpenSpec.upto gcTellsSpec)

/-- 'flittinglaw15.GcKeeps', WHERE WHAT IT READS IS OF BULK AT MOST 1048576: true; the input reads as it did. -/
def gcKeepsUptoRow : OpenClaim := { program := "ytiiioeodanmieaagreatdoor", sum := "df1cf907436596f86824f003e5e7c5863f14cbe9adf54acc728d7a419cfe56a9", func := "flitting/flittinglaw15.GcKeeps", spec := "gcKeeps", inPlace := ["internal/abi.NoEscape", "internal/bytealg.MakeNoZero", "internal/reflectlite.ValueOf", "(internal/reflectlite.Value).Type", "(internal/reflectlite.Value).IsNil", "internal/reflectlite.TypeOf", "(internal/reflectlite.Value).Elem", "(internal/reflectlite.Value).Set"], unfollowed := true, recurses := true, named := ["errors.errorType"], apart := false, laid := [("errors.errorType", laid_errors_errorType)], narrowed := true }
def GcKeepsUptoSaid : Prop := gcKeepsUptoRow.holds Tryz.pinned (OpenSpec.upto gcKeepsSpec)

/-- 'flittinglaw15.GcMakes', WHERE WHAT IT READS IS OF BULK AT MOST 1048576: true; the input reads as it did. -/
def gcMakesUptoRow : OpenClaim := { program := "ytiiioeodanmieaagreatdoor", sum := "df1cf907436596f86824f003e5e7c5863f14cbe9adf54acc728d7a419cfe56a9", func := "flitting/flittinglaw15.GcMakes", spec := "gcMakes", inPlace := ["internal/abi.NoEscape", "internal/bytealg.MakeNoZero", "internal/reflectlite.ValueOf", "(internal/reflectlite.Value).Type", "(internal/reflectlite.Value).IsNil", "internal/reflectlite.TypeOf", "(internal/reflectlite.Value).Elem", "(internal/reflectlite.Value).Set"], unfollowed := true, recurses := true, named := ["errors.errorType"], apart := false, laid := [("errors.errorType", laid_errors_errorType)], narrowed := true }
def GcMakesUptoSaid : Prop := gcMakesUptoRow.holds Tryz.pinned (OpenSpec.upto gcMakesSpec)

/-- 'flittinglaw15.GcTwice', WHERE WHAT IT READS IS OF BULK AT MOST 1048576: true; the input reads as it did. -/
def gcTwiceUptoRow : OpenClaim := { program := "ytiiioeodanmieaagreatdoor", sum := "df1cf907436596f86824f003e5e7c5863f14cbe9adf54acc728d7a419cfe56a9", func := "flitting/flittinglaw15.GcTwice", spec := "gcTwice", inPlace := ["internal/abi.NoEscape", "internal/bytealg.MakeNoZero", "internal/reflectlite.ValueOf", "(internal/reflectlite.Value).Type", "(internal/reflectlite.Value).IsNil", "internal/reflectlite.TypeOf", "(internal/reflectlite.Value).Elem", "(internal/reflectlite.Value).Set"], unfollowed := true, recurses := true, named := ["errors.errorType"], apart := false, laid := [("errors.errorType", laid_errors_errorType)], narrowed := true }
def GcTwiceUptoSaid : Prop := gcTwiceUptoRow.holds Tryz.pinned (OpenSpec.upto gcTwiceSpec)

/-- 'flittinglaw15.GcRegs', WHERE WHAT IT READS IS OF BULK AT MOST 1048576: true; the input reads as it did. -/
def gcRegsUptoRow : OpenClaim := { program := "ytiiioeodanmieaagreatdoor", sum := "df1cf907436596f86824f003e5e7c5863f14cbe9adf54acc728d7a419cfe56a9", func := "flitting/flittinglaw15.GcRegs", spec := "gcRegs", inPlace := ["internal/abi.NoEscape", "internal/bytealg.MakeNoZero", "internal/reflectlite.ValueOf", "(internal/reflectlite.Value).Type", "(internal/reflectlite.Value).IsNil", "internal/reflectlite.TypeOf", "(internal/reflectlite.Value).Elem", "(internal/reflectlite.Value).Set"], unfollowed := true, recurses := true, named := ["errors.errorType"], apart := false, laid := [("errors.errorType", laid_errors_errorType)], narrowed := true }
def GcRegsUptoSaid : Prop := gcRegsUptoRow.holds Tryz.pinned (OpenSpec.upto gcRegsSpec)

/-- 'flittinglaw15.GcFrees', WHERE WHAT IT READS IS OF BULK AT MOST 1048576: true; the input reads as it did. -/
def gcFreesUptoRow : OpenClaim := { program := "ytiiioeodanmieaagreatdoor", sum := "df1cf907436596f86824f003e5e7c5863f14cbe9adf54acc728d7a419cfe56a9", func := "flitting/flittinglaw15.GcFrees", spec := "gcFrees", inPlace := ["internal/abi.NoEscape", "internal/bytealg.MakeNoZero", "internal/reflectlite.ValueOf", "(internal/reflectlite.Value).Type", "(internal/reflectlite.Value).IsNil", "internal/reflectlite.TypeOf", "(internal/reflectlite.Value).Elem", "(internal/reflectlite.Value).Set"], unfollowed := true, recurses := true, named := ["errors.errorType"], apart := false, laid := [("errors.errorType", laid_errors_errorType)], narrowed := true }
def GcFreesUptoSaid : Prop := gcFreesUptoRow.holds Tryz.pinned (OpenSpec.upto gcFreesSpec)

/-- 'flittinglaw15.GcBusy', WHERE WHAT IT READS IS OF BULK AT MOST 1048576: true; the input reads as it did. -/
def gcBusyUptoRow : OpenClaim := { program := "ytiiioeodanmieaagreatdoor", sum := "df1cf907436596f86824f003e5e7c5863f14cbe9adf54acc728d7a419cfe56a9", func := "flitting/flittinglaw15.GcBusy", spec := "gcBusy", inPlace := ["internal/abi.NoEscape", "internal/bytealg.MakeNoZero", "internal/reflectlite.ValueOf", "(internal/reflectlite.Value).Type", "(internal/reflectlite.Value).IsNil", "internal/reflectlite.TypeOf", "(internal/reflectlite.Value).Elem", "(internal/reflectlite.Value).Set"], unfollowed := true, recurses := true, named := ["errors.errorType"], apart := false, laid := [("errors.errorType", laid_errors_errorType)], narrowed := true }
def GcBusyUptoSaid : Prop := gcBusyUptoRow.holds Tryz.pinned (OpenSpec.upto gcBusySpec)

/-- 'flittinglaw15.GcNothing', WHERE WHAT IT READS IS OF BULK AT MOST 1048576: true; the input reads as it did. -/
def gcNothingUptoRow : OpenClaim := { program := "ytiiioeodanmieaagreatdoor", sum := "df1cf907436596f86824f003e5e7c5863f14cbe9adf54acc728d7a419cfe56a9", func := "flitting/flittinglaw15.GcNothing", spec := "gcNothing", inPlace := ["internal/abi.NoEscape", "internal/bytealg.MakeNoZero", "internal/reflectlite.ValueOf", "(internal/reflectlite.Value).Type", "(internal/reflectlite.Value).IsNil", "internal/reflectlite.TypeOf", "(internal/reflectlite.Value).Elem", "(internal/reflectlite.Value).Set"], unfollowed := true, recurses := true, named := ["errors.errorType"], apart := false, laid := [("errors.errorType", laid_errors_errorType)], narrowed := true }
def GcNothingUptoSaid : Prop := gcNothingUptoRow.holds Tryz.pinned (OpenSpec.upto gcNothingSpec)

end Rows
end Go.Proofs.YtiiioeodanmieaaGreatDoor
