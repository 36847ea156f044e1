import Derived.Test.YtiiioeodanmieaaGreatDoorYGcA
import Derived.Test.YtiiioeodanmieaaGreatDoorYHeapStart
set_option linter.unusedVariables false
set_option linter.unusedSimpArgs false
-- GcFix
namespace Go.Proofs.YtiiioeodanmieaaGreatDoor
open Go.RowKit

section
variable {H L : Nat} {V T O : List Int} {Z : Int → Int}
end
end Go.Proofs.YtiiioeodanmieaaGreatDoor
-- GcCel
namespace Go.Proofs.YtiiioeodanmieaaGreatDoor
open Go.RowKit

section
variable {H L : Nat} {V T O : List Int} {Z : Int → Int}
end
end Go.Proofs.YtiiioeodanmieaaGreatDoor
-- GcCol
namespace Go.Proofs.YtiiioeodanmieaaGreatDoor
open Go.RowKit

section
variable {H L : Nat} {V T O : List Int} {Z : Int → Int}
end
end Go.Proofs.YtiiioeodanmieaaGreatDoor
-- GcPro
namespace Go.Proofs.YtiiioeodanmieaaGreatDoor
open Go.RowKit

def Reach (V T R : List Int) : Prop := ∀ t ∈ T, t ∈ R ∨ t ∈ celL V 8 8 ∨ ∃ s ∈ T, s < t ∧ t ∈ slL V s
section
variable {H L : Nat} {V T O : List Int} {Z : Int → Int} {R : List Int}
end
end Go.Proofs.YtiiioeodanmieaaGreatDoor
