/- HeapRef, HeapFine, HeapUse, HeapNew -/
import Derived.Test.YtjengjmhjccnoaaGreatDoorZObj
import Derived.Test.YtjengjmhjccnoaaGreatDoorZGeo
import Derived.Test.YtjengjmhjccnoaaGreatDoorZHeapBase
set_option linter.unusedVariables false
set_option linter.unusedSimpArgs false
-- HeapRef
/- The document's own heap (package flittingref10) in memory: Control, Fine, Right, Left, in. -/
namespace Go.Proofs.YtjengjmhjccnoaaGreatDoor
open Go.RowKit Sec
open Go.Proofs.YtjengjmhjccnoaaGreatDoor.Bk

/-- May a control be? -/
def fineB (h l sp fr gc sc : Int) : Bool :=
  geOk h l && (decide (0 ≤ sp ∧ sp ≤ 1 ∧ 0 ≤ gc ∧ gc ≤ 1) && (decide (16 + sp * h ≤ fr ∧ fr ≤ 16 + sp * h + h) && (decide (gc = 0 ∧ sc = 0) || decide (gc = 1 ∧ 16 + sp * h ≤ sc ∧ sc ≤ fr))))
def hSp (W : List Int) : Int := W.getD 0 0
def hFr (W : List Int) : Int := W.getD 1 0
def hGc (W : List Int) : Int := W.getD 2 0
def hSc (W : List Int) : Int := W.getD 3 0
def hOk (h l : Int) (W : List Int) : Bool := fineB h l (hSp W) (hFr W) (hGc W) (hSc W)
/-- Does a cell lie in a half (of a geometry that may be)? -/
def inB (h sp a : Int) : Bool := decide (16 + sp * h ≤ a ∧ a < 16 + sp * h + h)
theorem fine_yes {h l sp fr gc sc : Int} (q : fineB h l sp fr gc sc = true) : geOk h l = true ∧ (sp = 0 ∨ sp = 1) ∧ (gc = 0 ∨ gc = 1) ∧ (16 + sp * h ≤ fr ∧ fr ≤ 16 + sp * h + h) ∧ ((gc = 0 ∧ sc = 0) ∨ (gc = 1 ∧ 16 + sp * h ≤ sc ∧ sc ≤ fr)) := by
  simp only [fineB, Bool.and_eq_true, Bool.or_eq_true] at q
  obtain ⟨q1, q2, q3, q4⟩ := q
  have q2 := of_decide_eq_true q2
  have q3 := of_decide_eq_true q3
  refine ⟨q1, by omega, by omega, q3, ?_⟩
  rcases q4 with q4 | q4
  · exact .inl (of_decide_eq_true q4)
  · exact .inr (of_decide_eq_true q4)

section
variable {B : Nat} {w w' : World} {b g c : Nat} {h l : Int} {W : List Int}
end
end Go.Proofs.YtjengjmhjccnoaaGreatDoor
-- HeapFine
/- The document's own heap: Fine, Right, Left, in. -/
namespace Go.Proofs.YtjengjmhjccnoaaGreatDoor
open Go.RowKit Sec
open Go.Proofs.YtjengjmhjccnoaaGreatDoor.Bk

theorem ge_base {h l sp : Int} (q : geOk h l = true) (hs : sp = 0 ∨ sp = 1) : geBase h l sp = 16 + sp * h := by
  rw [geBase, if_pos]
  rw [geHalf, q, Bool.true_and]
  exact decide_eq_true (by omega)
theorem fine_no0 {h l sp fr gc sc : Int} (q : geOk h l = false) : fineB h l sp fr gc sc = false := by rw [fineB, q]; rfl
theorem fine_no1 {h l sp fr gc sc : Int} (q : ¬ (0 ≤ sp ∧ sp ≤ 1 ∧ 0 ≤ gc ∧ gc ≤ 1)) : fineB h l sp fr gc sc = false := by rw [fineB, decide_eq_false q]; simp
theorem fine_mid {h l sp fr gc sc : Int} (q0 : geOk h l = true) (q : 0 ≤ sp ∧ sp ≤ 1 ∧ 0 ≤ gc ∧ gc ≤ 1) : fineB h l sp fr gc sc = (decide (16 + sp * h ≤ fr ∧ fr ≤ 16 + sp * h + h) && (decide (gc = 0 ∧ sc = 0) || decide (gc = 1 ∧ 16 + sp * h ≤ sc ∧ sc ≤ fr))) := by
  rw [fineB, q0, decide_eq_true q]
  simp
end Go.Proofs.YtjengjmhjccnoaaGreatDoor
-- HeapUse
/- The document's own heap: Right, Left, in. -/
namespace Go.Proofs.YtjengjmhjccnoaaGreatDoor
open Go.RowKit Sec
open Go.Proofs.YtjengjmhjccnoaaGreatDoor.Bk

section
variable {B : Nat} {w w' : World} {b g c : Nat} {h l : Int} {W : List Int}
end
end Go.Proofs.YtjengjmhjccnoaaGreatDoor
-- HeapNew
/- The document's own heap: New. -/
namespace Go.Proofs.YtjengjmhjccnoaaGreatDoor
open Go.RowKit Sec
open Go.Proofs.YtjengjmhjccnoaaGreatDoor.Bk

/-- n cells from a on are 0. -/
def zfill (W : List Int) (a : Nat) : Nat → List Int
  | 0 => W
  | n + 1 => (zfill W a n).set (a + n) 0
theorem zfill_len (W : List Int) (a : Nat) : ∀ n, (zfill W a n).length = W.length
  | 0 => rfl
  | n + 1 => by rw [zfill, List.length_set, zfill_len W a n]
theorem zfill_at (W : List Int) (a : Nat) (i : Nat) : ∀ n, (zfill W a n).getD i 0 = if a ≤ i ∧ i < a + n then 0 else W.getD i 0
  | 0 => by rw [zfill, if_neg (by omega)]
  | n + 1 => by
    rw [zfill, List.getD_eq_getElem?_getD, List.getElem?_set]
    by_cases e : a + n = i
    · rw [if_pos e, show (if a ≤ i ∧ i < a + (n + 1) then (0 : Int) else W.getD i 0) = 0 from if_pos (by omega)]
      split <;> rfl
    · rw [if_neg e, ← List.getD_eq_getElem?_getD, zfill_at W a i n]
      by_cases q : a ≤ i ∧ i < a + n
      · rw [if_pos q, if_pos (by omega)]
      · rw [if_neg q, if_neg (by omega)]
/-- What a call on the heap leaves: of what was there only its row of cells has turned. -/
structure HGo (B g : Nat) (w w' : World) : Prop where
  b : Below B w w'
  k : ∀ i, i < w.heap.size → i ≠ g → w'.heap[i]? = w.heap[i]?
section
variable {B : Nat} {w w' w'' : World} {b g c : Nat} {h l : Int} {W : List Int}
theorem HGo.of_below (hB : B ≤ w.heap.size) (x : Below w.heap.size w w') : HGo B g w w' := ⟨x.mono hB, fun i hi _ => x.block i hi⟩
theorem HGo.trans (x : HGo B g w w') (y : HGo B g w' w'') : HGo B g w w'' := ⟨x.b.trans y.b, fun i hi hn => (y.k i (Nat.lt_of_lt_of_le hi x.b.size) hn).trans (x.k i hi hn)⟩
theorem HGo.set (hg : B ≤ g) (i : Nat) (v : Value) : HGo B g w (w.setCell ⟨g, i, none⟩ v) := ⟨(Below.refl B w).setCell (p := ⟨g, i, none⟩) hg v, fun j _ hn => heap_setCell_other _ _ _ _ hn⟩
/-- May an object of that shape be made? -/
def newE (h l : Int) (W : List Int) (s x : Int) : Int := if (hOk h l W && shOk s x) = true then (if 16 + hSp W * h + h - hFr W < 1 + s + x then 6 else 0) else 1
def newA (h l : Int) (W : List Int) (s x : Int) : Int := if newE h l W s x = 0 then hFr W else 0
def newW (h l : Int) (W : List Int) (s x : Int) : List Int := if newE h l W s x = 0 then ((zfill W (hFr W).toNat (1 + s + x).toNat).set (hFr W).toNat (hdI s x)).set 1 (hFr W + (1 + s + x)) else W
end
end Go.Proofs.YtjengjmhjccnoaaGreatDoor
