import Derived.Test.YtiiioeodanmieaaGreatDoorYHeapD
import Derived.Test.YtiiioeodanmieaaGreatDoorYHeapC
import Derived.Test.YtiiioeodanmieaaGreatDoorYMathA
set_option linter.unusedVariables false
set_option linter.unusedSimpArgs false
-- GcFrom
namespace Go.Proofs.YtiiioeodanmieaaGreatDoor
open Go.RowKit

def celL (W : List Int) (a : Int) (n : Nat) : List Int := (List.range n).map (fun i => W.getD (a.toNat + i) 0)
def slL (W : List Int) (a : Int) : List Int := celL W (a + 1) (prS (W.getD a.toNat 0)).toNat
def wdL (W : List Int) (a : Int) : List Int := celL W (a + 1 + prS (W.getD a.toNat 0)) (prW (W.getD a.toNat 0)).toNat
def nodB (h : Int) (W : List Int) (a : Int) : Bool :=
  (inB h (hSp W) a || inB h (1 - hSp W) a) && (hdOk (W.getD a.toNat 0) && decide (a + 1 + prS (W.getD a.toNat 0) + prW (W.getD a.toNat 0) ≤ (if inB h (hSp W) a = true then hFr W else 16 + (1 - hSp W) * h + h)))
def nod (h l : Int) (W : List Int) (at_ : List Int) (a : Int) : Option (Int × List Int) :=
  if (lk h l W a).2 = false then none
  else if (lk h l W a).1 = 0 then some (0, at_)
  else if (lk h l W a).1 ∈ at_ then some ((at_.idxOf (lk h l W a).1 : Int) + 1, at_)
  else if nodB h W (lk h l W a).1 = true then some ((at_.length : Int) + 1, at_ ++ [(lk h l W a).1]) else none
def nods (h l : Int) (W : List Int) : List Int → List Int → Option (List Int × List Int)
  | at_, [] => some ([], at_)
  | at_, a :: r => match nod h l W at_ a with
    | none => none
    | some (n, at1) => match nods h l W at1 r with
      | none => none
      | some (ns, at2) => some (n :: ns, at2)
def frmGo (h l : Int) (W : List Int) : Nat → Nat → List Int → List (List Int × List Int) → Option (List (List Int × List Int) × List Int)
  | 0, _, at_, out => some (out, at_)
  | n + 1, k, at_, out =>
    if k < at_.length then
      match nods h l W at_ (slL W (at_.getD k 0)) with
      | none => none
      | some (ns, at1) => frmGo h l W n (k + 1) at1 (out ++ [(ns, wdL W (at_.getD k 0))])
    else some (out, at_)
def frm (h l : Int) (W refs : List Int) : Option (List Int × List (List Int × List Int) × List Int) :=
  match nods h l W [] refs with
  | none => none
  | some (rs, at1) => match frmGo h l W 1000 0 at1 [] with
    | none => none
    | some (out, at2) => some (rs, out, at2)

section
variable {h l : Int} {W W2 : List Int} {P : Int → Prop} {f : Int → Int}
end
end Go.Proofs.YtiiioeodanmieaaGreatDoor
-- GcInv
namespace Go.Proofs.YtiiioeodanmieaaGreatDoor
open Go.RowKit

section
variable {H L : Nat} {V T O : List Int} {Z : Int → Int}
end
end Go.Proofs.YtiiioeodanmieaaGreatDoor
-- GcMov
namespace Go.Proofs.YtiiioeodanmieaaGreatDoor
open Go.RowKit

section
variable {H L : Nat} {V T O : List Int} {Z : Int → Int} {a : Int}
end
def gr (H L : Nat) (V : List Int) : Option (List Int × List (List Int × List Int)) := (frm H L V (celL V 8 8)).map (fun x => (x.1, x.2.1))
end Go.Proofs.YtiiioeodanmieaaGreatDoor
