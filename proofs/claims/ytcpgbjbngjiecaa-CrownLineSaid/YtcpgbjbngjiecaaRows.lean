/-
  No cell of these rows narrows 'for every input' (looked for: loops, veiled, ifaces, maps, wideKeys, modest, calm, conditions, laid).
  DERIVED. THE GIVEN ROWS OF THIS SEAT. 2 by the template 'for every input the law returns true; each argument reads behind the call as it read before'; 0 by the template 'total and deterministic' (their statements: YtcpgbjbngjiecaaTotals.lean).
  GIVEN WITH THE SEED: the statements are not yours to turn. If you find one false, say at which input.
  Laid BY PROGRAM, IN A SANDBOX (cutbox-rows.mjs): the forced cells as the released guide's own fill.sh prints them over the translation 2cad29a71ef6a806… (all of the seat's roots in one cut). By AI agents, Wed Nov 11 2026. No macro, syntax, notation, axiom, sorry.
-/
import Derived.Test.YtcpgbjbngjiecaaChecked
import GoSem.Claim
import GoSem.ClaimJoined
import GoSem.ClaimMapViews
import Derived.JoinedTies
import Derived.KernelRfl
namespace Go.Proofs.Ytcpgbjbngjiecaa
/- THE CELL 'sum', in the pinned program and in every row, IS THE sha256 OF THE DUMP (.gsa) THAT YtcpgbjbngjiecaaProg.lean LOADS. Nothing in Lean hashes anything: it is a label: what it is worth is what the hold of that sum in a sandbox is worth. -/
noncomputable def Try.pinned : Pinned := { name := "ytcpgbjbngjiecaa", sum := "2cad29a71ef6a8062f09dd7f9bdffd0e9ef6c64b23db8962c87026b3c4782a0b", checked := Try.checked }
namespace Rows
def none {H : Type} : Left H := { results := [], args := [] }

/-- 'flittinglaw5.CrownLine': WHATEVER THE INPUT: true; the input reads as it did. -/
def crownLineSpec : ChangeSpec := { name := "crownLine", fn := fun _ => fun
  | [d1, d2] => { results := [.lit (.bool true)], args := [d1, d2] }
  | _ => none }
def crownLineRow : OpenClaim := { program := "ytcpgbjbngjiecaa", sum := "2cad29a71ef6a8062f09dd7f9bdffd0e9ef6c64b23db8962c87026b3c4782a0b", func := "flitting/flittinglaw5.CrownLine", spec := "crownLine", inPlace := ["internal/abi.NoEscape", "internal/bytealg.MakeNoZero"], apart := false }
def CrownLineSaid : Prop := crownLineRow.holds Try.pinned (OpenSpec.ofChange crownLineSpec)

/-- ITS FALSE NEIGHBOUR: 'it returns false'. Refute it at one input. -/
def crownLineWrong : ChangeSpec := { name := "crownLine", fn := fun _ => fun
  | [d1, d2] => { results := [.lit (.bool false)], args := [d1, d2] }
  | _ => none }
def CrownLineWrongFalsely : Prop := crownLineRow.holds Try.pinned (OpenSpec.ofChange crownLineWrong)

/-- 'flittinglaw5.CrownTorn': WHATEVER THE INPUT: true; the input reads as it did. -/
def crownTornSpec : ChangeSpec := { name := "crownTorn", fn := fun _ => fun
  | [d1, d2, d3, d4] => { results := [.lit (.bool true)], args := [d1, d2, d3, d4] }
  | _ => none }
def crownTornRow : OpenClaim := { program := "ytcpgbjbngjiecaa", sum := "2cad29a71ef6a8062f09dd7f9bdffd0e9ef6c64b23db8962c87026b3c4782a0b", func := "flitting/flittinglaw5.CrownTorn", spec := "crownTorn", inPlace := ["internal/abi.NoEscape", "internal/bytealg.MakeNoZero"], apart := false }
def CrownTornSaid : Prop := crownTornRow.holds Try.pinned (OpenSpec.ofChange crownTornSpec)

/-- ITS FALSE NEIGHBOUR: 'it returns false'. Refute it at one input. -/
def crownTornWrong : ChangeSpec := { name := "crownTorn", fn := fun _ => fun
  | [d1, d2, d3, d4] => { results := [.lit (.bool false)], args := [d1, d2, d3, d4] }
  | _ => none }
def CrownTornWrongFalsely : Prop := crownTornRow.holds Try.pinned (OpenSpec.ofChange crownTornWrong)

/- THE SECOND FORM. 'bulk': how many values and letters a reading holds, each counted each time it is reached (what is shared counts as often as it is met; a slice's spare places count too). A statement '..UptoSaid' is the law's where the arguments, and the package variables that the reading takes, are together of bulk at most 1048576: NARROWER than '..Said'. Prove '..Said' where nothing that the law and all that it calls make is longer than what came in: it says more and counts as full. Else prove '..UptoSaid'. A law counts once. -/
mutual
def uptoBulk {H : Type} : DataW H → Nat
  | .lit (.string bytes) => bytes.length + 1
  | .lit _ => 1
  | .nil => 1
  | .ptr d => uptoBulk d + 1
  | .slice elems spare => uptoBulkAll elems + uptoBulkAll spare + 1
  | .agg parts => uptoBulkAll parts + 1
  | .iface _ d => uptoBulk d + 1
  | .map entries => uptoBulkEntries entries + 1
  | .held _ => 1
def uptoBulkAll {H : Type} : List (DataW H) → Nat
  | [] => 0
  | d :: r => uptoBulk d + uptoBulkAll r
def uptoBulkEntries {H : Type} : List (Lit × DataW H) → Nat
  | [] => 0
  | x :: r => uptoBulkEntry x + uptoBulkEntries r
def uptoBulkEntry {H : Type} : Lit × DataW H → Nat
  | (.string bytes, d) => bytes.length + uptoBulk d + 1
  | (_, d) => uptoBulk d + 1
 end
def uptoSmall : (H : Type) → List (DataW H) → Bool := fun _ ds => decide (uptoBulkAll ds ≤ 1048576)
def OpenSpec.upto (s : _root_.Go.ChangeSpec) : _root_.Go.OpenSpec := { _root_.Go.OpenSpec.ofChange s with cond := some uptoSmall }

/-- 'flittinglaw5.CrownLine', WHERE WHAT IT READS IS OF BULK AT MOST 1048576: true; the input reads as it did. -/
def crownLineUptoRow : OpenClaim := { program := "ytcpgbjbngjiecaa", sum := "2cad29a71ef6a8062f09dd7f9bdffd0e9ef6c64b23db8962c87026b3c4782a0b", func := "flitting/flittinglaw5.CrownLine", spec := "crownLine", inPlace := ["internal/abi.NoEscape", "internal/bytealg.MakeNoZero"], apart := false, narrowed := true }
def CrownLineUptoSaid : Prop := crownLineUptoRow.holds Try.pinned (OpenSpec.upto crownLineSpec)

/-- 'flittinglaw5.CrownTorn', WHERE WHAT IT READS IS OF BULK AT MOST 1048576: true; the input reads as it did. -/
def crownTornUptoRow : OpenClaim := { program := "ytcpgbjbngjiecaa", sum := "2cad29a71ef6a8062f09dd7f9bdffd0e9ef6c64b23db8962c87026b3c4782a0b", func := "flitting/flittinglaw5.CrownTorn", spec := "crownTorn", inPlace := ["internal/abi.NoEscape", "internal/bytealg.MakeNoZero"], apart := false, narrowed := true }
def CrownTornUptoSaid : Prop := crownTornUptoRow.holds Try.pinned (OpenSpec.upto crownTornSpec)

end Rows
end Go.Proofs.Ytcpgbjbngjiecaa
