/- HeapName, HeapShape, HeapCells, HeapSets, HeapLook -/
import Derived.Deep.QuietTactic
import Derived.BigQuiet
import Derived.Test.YteijhbnnhadkhaaGreatDoorYHeap
set_option linter.unusedVariables false
set_option linter.unusedSimpArgs false
-- HeapName
/- The document's own heap: named, Shape. -/
namespace Go.Proofs.YteijhbnnhadkhaaGreatDoor
open Go.RowKit Sec
open Go.Proofs.YteijhbnnhadkhaaGreatDoor.Bk

/-- Does an object that may be named lie at a? -/
def objB (h l : Int) (W : List Int) (a : Int) : Bool := hOk h l W && (inB h (hSp W) a && (decide (a < hFr W) && (hdOk (W.getD a.toNat 0) && decide (a + 1 + prS (W.getD a.toNat 0) + prW (W.getD a.toNat 0) ≤ hFr W))))
theorem objB_yes {h l : Int} {W : List Int} {a : Int} (q : objB h l W a = true) : hOk h l W = true ∧ inB h (hSp W) a = true ∧ a < hFr W ∧ hdOk (W.getD a.toNat 0) = true ∧ a + 1 + prS (W.getD a.toNat 0) + prW (W.getD a.toNat 0) ≤ hFr W := by
  simp only [objB, Bool.and_eq_true, decide_eq_true_eq] at q
  exact q
section
variable {B : Nat} {w w' : World} {b g c : Nat} {h l : Int} {W : List Int}
/-- Where an object lies, in numbers. -/
theorem objB_at (hWl : (W.length : Int) = 16 + 2 * h) {a : Int} (q : objB h l W a = true) : ∃ n : Nat, a = (n : Int) ∧ 16 ≤ n ∧ n < W.length ∧ 0 ≤ prS (W.getD n 0) ∧ 0 ≤ prW (W.getD n 0) ∧ (n : Int) + 1 + prS (W.getD n 0) + prW (W.getD n 0) ≤ (W.length : Int) := by
  obtain ⟨q1, q2, q3, q4, q5⟩ := objB_yes q
  obtain ⟨f1, f2, _, f4, _⟩ := fine_yes q1
  have hq := geOk_yes f1
  have hi : 16 + hSp W * h ≤ a ∧ a < 16 + hSp W * h + h := of_decide_eq_true q2
  have hm : 0 ≤ hSp W * h ∧ hSp W * h ≤ h := by rcases f2 with e | e <;> rw [e] <;> omega
  obtain ⟨n, rfl⟩ := Int.eq_ofNat_of_zero_le (show 0 ≤ a by omega)
  rw [Int.toNat_natCast] at q4 q5
  have hp := shOk_yes (pr_range (W.getD n 0))
  exact ⟨n, rfl, by omega, by omega, by omega, by omega, by omega⟩
end
end Go.Proofs.YteijhbnnhadkhaaGreatDoor
-- HeapShape
/- The document's own heap: Shape. -/
namespace Go.Proofs.YteijhbnnhadkhaaGreatDoor
open Go.RowKit Sec
open Go.Proofs.YteijhbnnhadkhaaGreatDoor.Bk

/-- What Shape answers. -/
def shpE (h l : Int) (W : List Int) (a : Int) : Int := if a = 0 then 7 else if objB h l W a = true then 0 else 1
def shpS (h l : Int) (W : List Int) (a : Int) : Int := if shpE h l W a = 0 then prS (W.getD a.toNat 0) else 0
def shpW (h l : Int) (W : List Int) (a : Int) : Int := if shpE h l W a = 0 then prW (W.getD a.toNat 0) else 0
theorem shpE_obj {h l : Int} {W : List Int} {a : Int} (q : shpE h l W a = 0) : objB h l W a = true := by
  by_cases e : a = 0
  · rw [shpE, if_pos e] at q; omega
  · cases p : objB h l W a with
    | true => rfl
    | false => rw [shpE, if_neg e, p, if_neg (by decide)] at q; omega
section
variable {B : Nat} {w w' : World} {b g c : Nat} {h l : Int} {W : List Int}
end
end Go.Proofs.YteijhbnnhadkhaaGreatDoor
-- HeapCells
/- The document's own heap: Word, SetRoot. -/
namespace Go.Proofs.YteijhbnnhadkhaaGreatDoor
open Go.RowKit Sec
open Go.Proofs.YteijhbnnhadkhaaGreatDoor.Bk

/-- What Word answers. -/
def wrdE (h l : Int) (W : List Int) (a i : Int) : Int := if shpE h l W a = 0 then (if i < 0 ∨ shpW h l W a ≤ i then 8 else 0) else shpE h l W a
def wrdV (h l : Int) (W : List Int) (a i : Int) : Int := if wrdE h l W a i = 0 then W.getD (a + 1 + shpS h l W a + i).toNat 0 else 0
/-- What SetRoot answers and leaves. -/
def srE (h l : Int) (W : List Int) (i a : Int) : Int := if i < 0 ∨ 8 ≤ i then 8 else if a = 0 ∨ objB h l W a = true then 0 else 1
def srW (h l : Int) (W : List Int) (i a : Int) : List Int := if srE h l W i a = 0 then W.set (8 + i).toNat a else W
/-- Where an object's cells lie. -/
theorem shp_at {h l : Int} {W : List Int} {a : Int} (hWl : (W.length : Int) = 16 + 2 * h) (q : shpE h l W a = 0) : ∃ n : Nat, a = (n : Int) ∧ 16 ≤ n ∧ 0 ≤ shpS h l W a ∧ shpS h l W a ≤ 15 ∧ 0 ≤ shpW h l W a ∧ shpW h l W a ≤ 30 ∧ (n : Int) + 1 + shpS h l W a + shpW h l W a ≤ (W.length : Int) := by
  obtain ⟨n, rfl, h1, h2, h3, h4, h5⟩ := objB_at hWl (shpE_obj q)
  have hp := shOk_yes (pr_range (W.getD n 0))
  refine ⟨n, rfl, h1, ?_⟩
  rw [shpS, shpW, if_pos q, if_pos q, Int.toNat_natCast]
  omega
section
variable {B : Nat} {w w' : World} {b g c : Nat} {h l : Int} {W : List Int}
end
end Go.Proofs.YteijhbnnhadkhaaGreatDoor
-- HeapSets
/- The document's own heap: SetWord, Put. -/
namespace Go.Proofs.YteijhbnnhadkhaaGreatDoor
open Go.RowKit Sec
open Go.Proofs.YteijhbnnhadkhaaGreatDoor.Bk

/-- What SetWord answers and leaves. -/
def swE (h l : Int) (W : List Int) (a i v : Int) : Int := if shpE h l W a = 0 then (if hbNum v = true then (if i < 0 ∨ shpW h l W a ≤ i then 8 else 0) else 1) else shpE h l W a
def swW (h l : Int) (W : List Int) (a i v : Int) : List Int := if swE h l W a i v = 0 then W.set (a + 1 + shpS h l W a + i).toNat v else W
/-- What Put answers and leaves. -/
def ptE (h l : Int) (W : List Int) (a i v : Int) : Int := if shpE h l W a = 0 then (if v = 0 ∨ objB h l W v = true then (if i < 0 ∨ shpS h l W a ≤ i then 8 else 0) else 1) else shpE h l W a
def ptW (h l : Int) (W : List Int) (a i v : Int) : List Int := if ptE h l W a i v = 0 then W.set (a + 1 + i).toNat v else W
section
variable {B : Nat} {w w' : World} {b g c : Nat} {h l : Int} {W : List Int}
end
end Go.Proofs.YteijhbnnhadkhaaGreatDoor
-- HeapLook
/- The document's own heap: Look. -/
namespace Go.Proofs.YteijhbnnhadkhaaGreatDoor
open Go.RowKit Sec
open Go.Proofs.YteijhbnnhadkhaaGreatDoor.Bk

/-- What Look answers. -/
def lk (h l : Int) (W : List Int) (a : Int) : Int × Bool :=
  if hOk h l W = false then (0, false)
  else if a = 0 ∨ inB h (hSp W) a = true then (a, true)
  else if hGc W = 0 ∨ inB h (1 - hSp W) a = false then (0, false)
  else if fwOk (W.getD a.toNat 0) = true then (if inB h (hSp W) (fwA (W.getD a.toNat 0)) = true then (fwA (W.getD a.toNat 0), true) else (0, false))
  else if hdOk (W.getD a.toNat 0) = true ∧ a + 1 + prS (W.getD a.toNat 0) + prW (W.getD a.toNat 0) ≤ 16 + (1 - hSp W) * h + h then (a, true)
  else (0, false)
section
variable {B : Nat} {w w' : World} {b g c : Nat} {h l : Int} {W : List Int}
end
end Go.Proofs.YteijhbnnhadkhaaGreatDoor
