import Derived.Test.YtiiioeodanmieaaGreatDoorYGcB
import Derived.Test.YtiiioeodanmieaaGreatDoorYMathA
import Derived.Test.YtiiioeodanmieaaGreatDoorYHeapB
set_option linter.unusedVariables false
set_option linter.unusedSimpArgs false
-- GcEnd
namespace Go.Proofs.YtiiioeodanmieaaGreatDoor
open Go.RowKit

section
variable {H L : Nat} {V T O : List Int} {Z : Int → Int} {R : List Int}
end
end Go.Proofs.YtiiioeodanmieaaGreatDoor
-- GcMake
namespace Go.Proofs.YtiiioeodanmieaaGreatDoor
open Go.RowKit

section
variable {H L : Nat} {V T O : List Int} {Z : Int → Int}
end
end Go.Proofs.YtiiioeodanmieaaGreatDoor
-- GcChk
namespace Go.Proofs.YtiiioeodanmieaaGreatDoor
open Go.RowKit

section
variable {H L : Nat} {V T O : List Int} {Z : Int → Int} {R : List Int}
end
end Go.Proofs.YtiiioeodanmieaaGreatDoor
-- GcRegs
namespace Go.Proofs.YtiiioeodanmieaaGreatDoor
open Go.RowKit

section
variable {H L : Nat} {V T O : List Int} {Z : Int → Int} {R : List Int}
end
end Go.Proofs.YtiiioeodanmieaaGreatDoor
