import Derived.Test.YtiiioeodanmieaaGreatDoorYGcC
set_option linter.unusedVariables false
set_option linter.unusedSimpArgs false
-- GcAll
namespace Go.Proofs.YtiiioeodanmieaaGreatDoor
open Go.RowKit

def alg (h l : Int) (W rs : List Int) : Int × List Int × List Int :=
  if hGc W = 1 then (if (stp h l W 10000).2.1 = 0 then (0, rs, (stp h l W 10000).2.2) else ((stp h l W 10000).2.1, [], (stp h l W 10000).2.2))
  else if (str h l W rs).1 = 0 then
    (if (stp h l (str h l W rs).2.2 10000).2.1 = 0 then (0, (str h l W rs).2.1, (stp h l (str h l W rs).2.2 10000).2.2)
     else ((stp h l (str h l W rs).2.2 10000).2.1, [], (stp h l (str h l W rs).2.2 10000).2.2))
  else ((str h l W rs).1, [], (str h l W rs).2.2)
section
variable {H L : Nat} {V T O : List Int} {Z : Int → Int} {R : List Int}
variable {z k : Nat} {wo : Int}
end
end Go.Proofs.YtiiioeodanmieaaGreatDoor
-- GcReg
namespace Go.Proofs.YtiiioeodanmieaaGreatDoor
open Go.RowKit

section
variable {H L : Nat} {V T O : List Int} {Z : Int → Int} {z k n : Nat} {wo : Int}
end
end Go.Proofs.YtiiioeodanmieaaGreatDoor
