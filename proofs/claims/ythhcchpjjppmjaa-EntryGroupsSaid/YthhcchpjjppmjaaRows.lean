/-
  No cell of these rows narrows 'for every input' (looked for: loops, veiled, ifaces, maps, wideKeys, modest, calm, conditions, laid).
  DERIVED. THE GIVEN ROWS OF THIS SEAT. 2 by the template 'for every input the law returns true; each argument reads behind the call as it read before'; 0 by the template 'total and deterministic' (their statements: YthhcchpjjppmjaaTotals.lean).
  GIVEN WITH THE SEED: the statements are not yours to turn. If you find one false, say at which input.
  Laid BY PROGRAM, IN A SANDBOX (cutbox-rows.mjs): the forced cells as the released guide's own fill.sh prints them over the translation 24760094598d9716… (all of the seat's roots in one cut). By AI agents, Wed Nov 11 2026. No macro, syntax, notation, axiom, sorry.
-/
import Derived.Test.YthhcchpjjppmjaaChecked
import GoSem.Claim
import GoSem.ClaimJoined
import GoSem.ClaimMapViews
import Derived.JoinedTies
import Derived.KernelRfl
namespace Go.Proofs.Ythhcchpjjppmjaa
/- THE CELL 'sum', in the pinned program and in every row, IS THE sha256 OF THE DUMP (.gsa) THAT YthhcchpjjppmjaaProg.lean LOADS. Nothing in Lean hashes anything: it is a label: what it is worth is what the hold of that sum in a sandbox is worth. -/
noncomputable def Try.pinned : Pinned := { name := "ythhcchpjjppmjaa", sum := "24760094598d971679da621eb298172c936d56484835ecad725cd095ac94b5fc", checked := Try.checked }
namespace Rows
def none {H : Type} : Left H := { results := [], args := [] }

/-- 'flittinglaw6.EntryTwo': WHATEVER THE INPUT: true; the input reads as it did. -/
def entryTwoSpec : ChangeSpec := { name := "entryTwo", fn := fun _ => fun
  | [d1, d2, d3, d4] => { results := [.lit (.bool true)], args := [d1, d2, d3, d4] }
  | _ => none }
def entryTwoRow : OpenClaim := { program := "ythhcchpjjppmjaa", sum := "24760094598d971679da621eb298172c936d56484835ecad725cd095ac94b5fc", func := "flitting/flittinglaw6.EntryTwo", spec := "entryTwo", inPlace := ["internal/abi.NoEscape", "internal/bytealg.MakeNoZero"], apart := false }
def EntryTwoSaid : Prop := entryTwoRow.holds Try.pinned (OpenSpec.ofChange entryTwoSpec)

/-- ITS FALSE NEIGHBOUR: 'it returns false'. Refute it at one input. -/
def entryTwoWrong : ChangeSpec := { name := "entryTwo", fn := fun _ => fun
  | [d1, d2, d3, d4] => { results := [.lit (.bool false)], args := [d1, d2, d3, d4] }
  | _ => none }
def EntryTwoWrongFalsely : Prop := entryTwoRow.holds Try.pinned (OpenSpec.ofChange entryTwoWrong)

/-- 'flittinglaw6.EntryGroups': WHATEVER THE INPUT: true; the input reads as it did. -/
def entryGroupsSpec : ChangeSpec := { name := "entryGroups", fn := fun _ => fun
  | [d1, d2] => { results := [.lit (.bool true)], args := [d1, d2] }
  | _ => none }
def entryGroupsRow : OpenClaim := { program := "ythhcchpjjppmjaa", sum := "24760094598d971679da621eb298172c936d56484835ecad725cd095ac94b5fc", func := "flitting/flittinglaw6.EntryGroups", spec := "entryGroups", apart := false }
def EntryGroupsSaid : Prop := entryGroupsRow.holds Try.pinned (OpenSpec.ofChange entryGroupsSpec)

/-- ITS FALSE NEIGHBOUR: 'it returns false'. Refute it at one input. -/
def entryGroupsWrong : ChangeSpec := { name := "entryGroups", fn := fun _ => fun
  | [d1, d2] => { results := [.lit (.bool false)], args := [d1, d2] }
  | _ => none }
def EntryGroupsWrongFalsely : Prop := entryGroupsRow.holds Try.pinned (OpenSpec.ofChange entryGroupsWrong)

/- THE SECOND FORM. 'bulk': how many values and letters a reading holds, each counted each time it is reached (what is shared counts as often as it is met; a slice's spare places count too). A statement '..UptoSaid' is the law's where the arguments, and the package variables that the reading takes, are together of bulk at most 1048576: NARROWER than '..Said'. Prove '..Said' where nothing that the law and all that it calls make is longer than what came in: it says more and counts as full. Else prove '..UptoSaid'. A law counts once. -/
mutual
def uptoBulk {H : Type} : DataW H → Nat
  | .lit (.string bytes) => bytes.length + 1
  | .lit _ => 1
  | .nil => 1
  | .ptr d => uptoBulk d + 1
  | .slice elems spare => uptoBulkAll elems + uptoBulkAll spare + 1
  | .agg parts => uptoBulkAll parts + 1
  | .iface _ d => uptoBulk d + 1
  | .map entries => uptoBulkEntries entries + 1
  | .held _ => 1
def uptoBulkAll {H : Type} : List (DataW H) → Nat
  | [] => 0
  | d :: r => uptoBulk d + uptoBulkAll r
def uptoBulkEntries {H : Type} : List (Lit × DataW H) → Nat
  | [] => 0
  | x :: r => uptoBulkEntry x + uptoBulkEntries r
def uptoBulkEntry {H : Type} : Lit × DataW H → Nat
  | (.string bytes, d) => bytes.length + uptoBulk d + 1
  | (_, d) => uptoBulk d + 1
 end
def uptoSmall : (H : Type) → List (DataW H) → Bool := fun _ ds => decide (uptoBulkAll ds ≤ 1048576)
def OpenSpec.upto (s : _root_.Go.ChangeSpec) : _root_.Go.OpenSpec := { _root_.Go.OpenSpec.ofChange s with cond := some uptoSmall }

/-- 'flittinglaw6.EntryTwo', WHERE WHAT IT READS IS OF BULK AT MOST 1048576: true; the input reads as it did. -/
def entryTwoUptoRow : OpenClaim := { program := "ythhcchpjjppmjaa", sum := "24760094598d971679da621eb298172c936d56484835ecad725cd095ac94b5fc", func := "flitting/flittinglaw6.EntryTwo", spec := "entryTwo", inPlace := ["internal/abi.NoEscape", "internal/bytealg.MakeNoZero"], apart := false, narrowed := true }
def EntryTwoUptoSaid : Prop := entryTwoUptoRow.holds Try.pinned (OpenSpec.upto entryTwoSpec)

/-- 'flittinglaw6.EntryGroups', WHERE WHAT IT READS IS OF BULK AT MOST 1048576: true; the input reads as it did. -/
def entryGroupsUptoRow : OpenClaim := { program := "ythhcchpjjppmjaa", sum := "24760094598d971679da621eb298172c936d56484835ecad725cd095ac94b5fc", func := "flitting/flittinglaw6.EntryGroups", spec := "entryGroups", apart := false, narrowed := true }
def EntryGroupsUptoSaid : Prop := entryGroupsUptoRow.holds Try.pinned (OpenSpec.upto entryGroupsSpec)

end Rows
end Go.Proofs.Ythhcchpjjppmjaa
