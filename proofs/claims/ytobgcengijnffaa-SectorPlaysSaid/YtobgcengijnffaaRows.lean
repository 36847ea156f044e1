/-
  No cell of these rows narrows 'for every input' (looked for: loops, veiled, ifaces, maps, wideKeys, modest, calm, conditions, laid).
  DERIVED. THE GIVEN ROWS OF THIS SEAT. 5 by the template 'for every input the law returns true; each argument reads behind the call as it read before'; 0 by the template 'total and deterministic' (their statements: YtobgcengijnffaaTotals.lean).
  GIVEN WITH THE SEED: the statements are not yours to turn. If you find one false, say at which input.
  Laid BY PROGRAM, IN A SANDBOX (cutbox-rows.mjs): the forced cells as the released guide's own fill.sh prints them over the translation b8d3b08b5601f10e… (all of the seat's roots in one cut). By AI agents, Wed Nov 11 2026. No macro, syntax, notation, axiom, sorry.
-/
import Derived.Test.YtobgcengijnffaaChecked
import GoSem.Claim
import GoSem.ClaimJoined
import GoSem.ClaimMapViews
import Derived.JoinedTies
import Derived.KernelRfl
namespace Go.Proofs.Ytobgcengijnffaa
/- THE CELL 'sum', in the pinned program and in every row, IS THE sha256 OF THE DUMP (.gsa) THAT YtobgcengijnffaaProg.lean LOADS. Nothing in Lean hashes anything: it is a label: what it is worth is what the hold of that sum in a sandbox is worth. -/
noncomputable def Try.pinned : Pinned := { name := "ytobgcengijnffaa", sum := "b8d3b08b5601f10e66529235cd8eb783f0902416fa8f1511314adda14d9437eb", checked := Try.checked }
namespace Rows
def none {H : Type} : Left H := { results := [], args := [] }

/-- 'flittinglaw2.SectorPlays': WHATEVER THE INPUT: true; the input reads as it did. -/
def sectorPlaysSpec : ChangeSpec := { name := "sectorPlays", fn := fun _ => fun
  | [d1, d2] => { results := [.lit (.bool true)], args := [d1, d2] }
  | _ => none }
def sectorPlaysRow : OpenClaim := { program := "ytobgcengijnffaa", sum := "b8d3b08b5601f10e66529235cd8eb783f0902416fa8f1511314adda14d9437eb", func := "flitting/flittinglaw2.SectorPlays", spec := "sectorPlays", apart := false }
def SectorPlaysSaid : Prop := sectorPlaysRow.holds Try.pinned (OpenSpec.ofChange sectorPlaysSpec)

/-- ITS FALSE NEIGHBOUR: 'it returns false'. Refute it at one input. -/
def sectorPlaysWrong : ChangeSpec := { name := "sectorPlays", fn := fun _ => fun
  | [d1, d2] => { results := [.lit (.bool false)], args := [d1, d2] }
  | _ => none }
def SectorPlaysWrongFalsely : Prop := sectorPlaysRow.holds Try.pinned (OpenSpec.ofChange sectorPlaysWrong)

/-- 'flittinglaw2.SectorLasts': WHATEVER THE INPUT: true; the input reads as it did. -/
def sectorLastsSpec : ChangeSpec := { name := "sectorLasts", fn := fun _ => fun
  | [d1, d2, d3] => { results := [.lit (.bool true)], args := [d1, d2, d3] }
  | _ => none }
def sectorLastsRow : OpenClaim := { program := "ytobgcengijnffaa", sum := "b8d3b08b5601f10e66529235cd8eb783f0902416fa8f1511314adda14d9437eb", func := "flitting/flittinglaw2.SectorLasts", spec := "sectorLasts", apart := false }
def SectorLastsSaid : Prop := sectorLastsRow.holds Try.pinned (OpenSpec.ofChange sectorLastsSpec)

/-- ITS FALSE NEIGHBOUR: 'it returns false'. Refute it at one input. -/
def sectorLastsWrong : ChangeSpec := { name := "sectorLasts", fn := fun _ => fun
  | [d1, d2, d3] => { results := [.lit (.bool false)], args := [d1, d2, d3] }
  | _ => none }
def SectorLastsWrongFalsely : Prop := sectorLastsRow.holds Try.pinned (OpenSpec.ofChange sectorLastsWrong)

/-- 'flittinglaw2.SectorArms': WHATEVER THE INPUT: true; the input reads as it did. -/
def sectorArmsSpec : ChangeSpec := { name := "sectorArms", fn := fun _ => fun
  | [d1, d2, d3] => { results := [.lit (.bool true)], args := [d1, d2, d3] }
  | _ => none }
def sectorArmsRow : OpenClaim := { program := "ytobgcengijnffaa", sum := "b8d3b08b5601f10e66529235cd8eb783f0902416fa8f1511314adda14d9437eb", func := "flitting/flittinglaw2.SectorArms", spec := "sectorArms", apart := false }
def SectorArmsSaid : Prop := sectorArmsRow.holds Try.pinned (OpenSpec.ofChange sectorArmsSpec)

/-- ITS FALSE NEIGHBOUR: 'it returns false'. Refute it at one input. -/
def sectorArmsWrong : ChangeSpec := { name := "sectorArms", fn := fun _ => fun
  | [d1, d2, d3] => { results := [.lit (.bool false)], args := [d1, d2, d3] }
  | _ => none }
def SectorArmsWrongFalsely : Prop := sectorArmsRow.holds Try.pinned (OpenSpec.ofChange sectorArmsWrong)

/-- 'flittinglaw2.SectorTwins': WHATEVER THE INPUT: true; the input reads as it did. -/
def sectorTwinsSpec : ChangeSpec := { name := "sectorTwins", fn := fun _ => fun
  | [d1, d2, d3, d4] => { results := [.lit (.bool true)], args := [d1, d2, d3, d4] }
  | _ => none }
def sectorTwinsRow : OpenClaim := { program := "ytobgcengijnffaa", sum := "b8d3b08b5601f10e66529235cd8eb783f0902416fa8f1511314adda14d9437eb", func := "flitting/flittinglaw2.SectorTwins", spec := "sectorTwins", apart := false }
def SectorTwinsSaid : Prop := sectorTwinsRow.holds Try.pinned (OpenSpec.ofChange sectorTwinsSpec)

/-- ITS FALSE NEIGHBOUR: 'it returns false'. Refute it at one input. -/
def sectorTwinsWrong : ChangeSpec := { name := "sectorTwins", fn := fun _ => fun
  | [d1, d2, d3, d4] => { results := [.lit (.bool false)], args := [d1, d2, d3, d4] }
  | _ => none }
def SectorTwinsWrongFalsely : Prop := sectorTwinsRow.holds Try.pinned (OpenSpec.ofChange sectorTwinsWrong)

/-- 'flittinglaw2.SectorOrder': WHATEVER THE INPUT: true; the input reads as it did. -/
def sectorOrderSpec : ChangeSpec := { name := "sectorOrder", fn := fun _ => fun
  | [d1, d2] => { results := [.lit (.bool true)], args := [d1, d2] }
  | _ => none }
def sectorOrderRow : OpenClaim := { program := "ytobgcengijnffaa", sum := "b8d3b08b5601f10e66529235cd8eb783f0902416fa8f1511314adda14d9437eb", func := "flitting/flittinglaw2.SectorOrder", spec := "sectorOrder", apart := false }
def SectorOrderSaid : Prop := sectorOrderRow.holds Try.pinned (OpenSpec.ofChange sectorOrderSpec)

/-- ITS FALSE NEIGHBOUR: 'it returns false'. Refute it at one input. -/
def sectorOrderWrong : ChangeSpec := { name := "sectorOrder", fn := fun _ => fun
  | [d1, d2] => { results := [.lit (.bool false)], args := [d1, d2] }
  | _ => none }
def SectorOrderWrongFalsely : Prop := sectorOrderRow.holds Try.pinned (OpenSpec.ofChange sectorOrderWrong)

/- THE SECOND FORM. 'bulk': how many values and letters a reading holds, each counted each time it is reached (what is shared counts as often as it is met; a slice's spare places count too). A statement '..UptoSaid' is the law's where the arguments, and the package variables that the reading takes, are together of bulk at most 1048576: NARROWER than '..Said'. Prove '..Said' where nothing that the law and all that it calls make is longer than what came in: it says more and counts as full. Else prove '..UptoSaid'. A law counts once. -/
mutual
def uptoBulk {H : Type} : DataW H → Nat
  | .lit (.string bytes) => bytes.length + 1
  | .lit _ => 1
  | .nil => 1
  | .ptr d => uptoBulk d + 1
  | .slice elems spare => uptoBulkAll elems + uptoBulkAll spare + 1
  | .agg parts => uptoBulkAll parts + 1
  | .iface _ d => uptoBulk d + 1
  | .map entries => uptoBulkEntries entries + 1
  | .held _ => 1
def uptoBulkAll {H : Type} : List (DataW H) → Nat
  | [] => 0
  | d :: r => uptoBulk d + uptoBulkAll r
def uptoBulkEntries {H : Type} : List (Lit × DataW H) → Nat
  | [] => 0
  | x :: r => uptoBulkEntry x + uptoBulkEntries r
def uptoBulkEntry {H : Type} : Lit × DataW H → Nat
  | (.string bytes, d) => bytes.length + uptoBulk d + 1
  | (_, d) => uptoBulk d + 1
 end
def uptoSmall : (H : Type) → List (DataW H) → Bool := fun _ ds => decide (uptoBulkAll ds ≤ 1048576)
def OpenSpec.upto (s : _root_.Go.ChangeSpec) : _root_.Go.OpenSpec := { _root_.Go.OpenSpec.ofChange s with cond := some uptoSmall }

/-- 'flittinglaw2.SectorPlays', WHERE WHAT IT READS IS OF BULK AT MOST 1048576: true; the input reads as it did. -/
def sectorPlaysUptoRow : OpenClaim := { program := "ytobgcengijnffaa", sum := "b8d3b08b5601f10e66529235cd8eb783f0902416fa8f1511314adda14d9437eb", func := "flitting/flittinglaw2.SectorPlays", spec := "sectorPlays", apart := false, narrowed := true }
def SectorPlaysUptoSaid : Prop := sectorPlaysUptoRow.holds Try.pinned (OpenSpec.upto sectorPlaysSpec)

/-- 'flittinglaw2.SectorLasts', WHERE WHAT IT READS IS OF BULK AT MOST 1048576: true; the input reads as it did. -/
def sectorLastsUptoRow : OpenClaim := { program := "ytobgcengijnffaa", sum := "b8d3b08b5601f10e66529235cd8eb783f0902416fa8f1511314adda14d9437eb", func := "flitting/flittinglaw2.SectorLasts", spec := "sectorLasts", apart := false, narrowed := true }
def SectorLastsUptoSaid : Prop := sectorLastsUptoRow.holds Try.pinned (OpenSpec.upto sectorLastsSpec)

/-- 'flittinglaw2.SectorArms', WHERE WHAT IT READS IS OF BULK AT MOST 1048576: true; the input reads as it did. -/
def sectorArmsUptoRow : OpenClaim := { program := "ytobgcengijnffaa", sum := "b8d3b08b5601f10e66529235cd8eb783f0902416fa8f1511314adda14d9437eb", func := "flitting/flittinglaw2.SectorArms", spec := "sectorArms", apart := false, narrowed := true }
def SectorArmsUptoSaid : Prop := sectorArmsUptoRow.holds Try.pinned (OpenSpec.upto sectorArmsSpec)

/-- 'flittinglaw2.SectorTwins', WHERE WHAT IT READS IS OF BULK AT MOST 1048576: true; the input reads as it did. -/
def sectorTwinsUptoRow : OpenClaim := { program := "ytobgcengijnffaa", sum := "b8d3b08b5601f10e66529235cd8eb783f0902416fa8f1511314adda14d9437eb", func := "flitting/flittinglaw2.SectorTwins", spec := "sectorTwins", apart := false, narrowed := true }
def SectorTwinsUptoSaid : Prop := sectorTwinsUptoRow.holds Try.pinned (OpenSpec.upto sectorTwinsSpec)

/-- 'flittinglaw2.SectorOrder', WHERE WHAT IT READS IS OF BULK AT MOST 1048576: true; the input reads as it did. -/
def sectorOrderUptoRow : OpenClaim := { program := "ytobgcengijnffaa", sum := "b8d3b08b5601f10e66529235cd8eb783f0902416fa8f1511314adda14d9437eb", func := "flitting/flittinglaw2.SectorOrder", spec := "sectorOrder", apart := false, narrowed := true }
def SectorOrderUptoSaid : Prop := sectorOrderUptoRow.holds Try.pinned (OpenSpec.upto sectorOrderSpec)

end Rows
end Go.Proofs.Ytobgcengijnffaa
