/- HeapBase, HeapRef, HeapFine, HeapUse, HeapNew -/
import Derived.Deep.RegionHeld3
import Derived.Test.YteijhbnnhadkhaaGreatDoorYBook
import Derived.Test.YteijhbnnhadkhaaGreatDoorYObj
import Derived.Test.YteijhbnnhadkhaaGreatDoorYGeo
set_option linter.unusedVariables false
set_option linter.unusedSimpArgs false
-- HeapBase
/- What the texts of the document's heap want of the store's (so that they build where no store is reached). -/
namespace Go.Proofs.YteijhbnnhadkhaaGreatDoor.Sec
end Go.Proofs.YteijhbnnhadkhaaGreatDoor.Sec
namespace Go.Proofs.YteijhbnnhadkhaaGreatDoor
open Go.RowKit
open Go.Proofs.YteijhbnnhadkhaaGreatDoor.Bk

theorem hb_same {w w' : World} {base : Nat} {e : TypeId} {k n : Nat} {v : Value} {xs : List Value} (h : w.ownsRow base e k v n xs) (hb : ∀ g, v.ownBlock = some g → w'.heap[g]? = w.heap[g]?) : w'.ownsRow base e k v n xs := by
  refine ⟨h.1, ?_⟩
  rcases h.2 with q | ⟨g, cap, cur, hv, hg, hh, r⟩
  · exact .inl q
  · exact .inr ⟨g, cap, cur, hv, hg, (hb g (by rw [hv]; rfl)).trans hh, r⟩
theorem hb_vals {l : List Int} {k : Nat} (h : k < l.length) : (vals l)[k]? = some (.int .i64 (l.getD k 0)) := by simp [vals, h]
def hbNum (x : Int) : Bool := decide (0 ≤ x ∧ x < 4294967296)
end Go.Proofs.YteijhbnnhadkhaaGreatDoor
-- HeapRef
/- The document's own heap (package flittingref10) in memory: Control, Fine, Right, Left, in. -/
namespace Go.Proofs.YteijhbnnhadkhaaGreatDoor
open Go.RowKit Sec
open Go.Proofs.YteijhbnnhadkhaaGreatDoor.Bk

/-- May a control be? -/
def fineB (h l sp fr gc sc : Int) : Bool :=
  geOk h l && (decide (0 ≤ sp ∧ sp ≤ 1 ∧ 0 ≤ gc ∧ gc ≤ 1) && (decide (16 + sp * h ≤ fr ∧ fr ≤ 16 + sp * h + h) && (decide (gc = 0 ∧ sc = 0) || decide (gc = 1 ∧ 16 + sp * h ≤ sc ∧ sc ≤ fr))))
def hSp (W : List Int) : Int := W.getD 0 0
def hFr (W : List Int) : Int := W.getD 1 0
def hGc (W : List Int) : Int := W.getD 2 0
def hSc (W : List Int) : Int := W.getD 3 0
def hOk (h l : Int) (W : List Int) : Bool := fineB h l (hSp W) (hFr W) (hGc W) (hSc W)
/-- Does a cell lie in a half (of a geometry that may be)? -/
def inB (h sp a : Int) : Bool := decide (16 + sp * h ≤ a ∧ a < 16 + sp * h + h)
theorem fine_yes {h l sp fr gc sc : Int} (q : fineB h l sp fr gc sc = true) : geOk h l = true ∧ (sp = 0 ∨ sp = 1) ∧ (gc = 0 ∨ gc = 1) ∧ (16 + sp * h ≤ fr ∧ fr ≤ 16 + sp * h + h) ∧ ((gc = 0 ∧ sc = 0) ∨ (gc = 1 ∧ 16 + sp * h ≤ sc ∧ sc ≤ fr)) := by
  simp only [fineB, Bool.and_eq_true, Bool.or_eq_true] at q
  obtain ⟨q1, q2, q3, q4⟩ := q
  have q2 := of_decide_eq_true q2
  have q3 := of_decide_eq_true q3
  refine ⟨q1, by omega, by omega, q3, ?_⟩
  rcases q4 with q4 | q4
  · exact .inl (of_decide_eq_true q4)
  · exact .inr (of_decide_eq_true q4)

/-- THE HEAP lies at b: its geometry, its cells. -/
structure HIs (B : Nat) (w : World) (b : Nat) (h l : Int) (W : List Int) (g c : Nat) : Prop where
  hp : B ≤ b
  blk : w.heap[b]? = some (.cells #[.int .i64 h, .int .i64 l, .slice (some ⟨g, 0, none⟩) W.length c] 65 (0, 0))
  o : w.ownsRow B 3 1 (.slice (some ⟨g, 0, none⟩) W.length c) W.length (vals W)
  ge : 16 ≤ W.length
  le : W.length ≤ 1000
section
variable {B : Nat} {w w' : World} {b g c : Nat} {h l : Int} {W : List Int}
theorem HIs.lt (k : HIs B w b h l W g c) : b < w.heap.size := by
  have hb := k.blk
  rcases Nat.lt_or_ge b w.heap.size with q | q
  · exact q
  · simp [Array.getElem?_eq_none q] at hb
theorem HIs.cs (k : HIs B w b h l W g c) : w.cell? ⟨b, 0, none⟩ = some (.int .i64 h) ∧ w.cell? ⟨b, 1, none⟩ = some (.int .i64 l) ∧ w.cell? ⟨b, 2, none⟩ = some (.slice (some ⟨g, 0, none⟩) W.length c) := by
  have hb := k.blk
  refine ⟨?_, ?_, ?_⟩ <;> simp [World.cell?, hb]
theorem HIs.glt (k : HIs B w b h l W g c) : B ≤ g ∧ g < w.heap.size := k.o.lt g rfl
theorem HIs.of_blocks (k : HIs B w b h l W g c) (e : ∀ i, i = b ∨ i = g → w'.heap[i]? = w.heap[i]?) : HIs B w' b h l W g c :=
  ⟨k.hp, (e b (.inl rfl)).trans k.blk, hb_same k.o (fun i q => e i (.inr (by simp only [Value.ownBlock, Option.some.injEq] at q; exact q.symm))), k.ge, k.le⟩
theorem HIs.below (k : HIs B w b h l W g c) (x : Below w.heap.size w w') : HIs B w' b h l W g c := k.of_blocks fun i q => x.block i (by rcases q with rfl | rfl; exact k.lt; exact k.glt.2)
theorem HIs.at (k : HIs B w b h l W g c) {i : Nat} (hi : i < W.length) : w.cell? ⟨g, i, none⟩ = some (.int .i64 (W.getD i 0)) ∧ w.frozen? ⟨g, i, none⟩ = false := owns_cell k.o (hb_vals hi)
theorem HIs.ne (k : HIs B w b h l W g c) : g ≠ b := by
  rintro rfl
  obtain ⟨cur, hh⟩ := own_type k.o rfl
  have := k.blk
  rw [hh] at this
  simp only [Option.some.injEq, Obj.cells.injEq] at this
  exact absurd this.2.1 (by decide)
/-- A cell of it is another one. -/
theorem HIs.set (k : HIs B w b h l W g c) (i : Nat) (x : Int) : HIs B (w.setCell ⟨g, i, none⟩ (.int .i64 x)) b h l (W.set i x) g c := by
  refine ⟨k.hp, ?_, ?_, by rw [List.length_set]; exact k.ge, by rw [List.length_set]; exact k.le⟩
  · rw [List.length_set]
    exact (heap_setCell_other _ _ _ _ (fun e => k.ne e.symm)).trans k.blk
  · rw [List.length_set, vals, List.map_set]
    exact owns_set k.o i _

end
end Go.Proofs.YteijhbnnhadkhaaGreatDoor
-- HeapFine
/- The document's own heap: Fine, Right, Left, in. -/
namespace Go.Proofs.YteijhbnnhadkhaaGreatDoor
open Go.RowKit Sec
open Go.Proofs.YteijhbnnhadkhaaGreatDoor.Bk

theorem ge_base {h l sp : Int} (q : geOk h l = true) (hs : sp = 0 ∨ sp = 1) : geBase h l sp = 16 + sp * h := by
  rw [geBase, if_pos]
  rw [geHalf, q, Bool.true_and]
  exact decide_eq_true (by omega)
theorem fine_no0 {h l sp fr gc sc : Int} (q : geOk h l = false) : fineB h l sp fr gc sc = false := by rw [fineB, q]; rfl
theorem fine_no1 {h l sp fr gc sc : Int} (q : ¬ (0 ≤ sp ∧ sp ≤ 1 ∧ 0 ≤ gc ∧ gc ≤ 1)) : fineB h l sp fr gc sc = false := by rw [fineB, decide_eq_false q]; simp
theorem fine_mid {h l sp fr gc sc : Int} (q0 : geOk h l = true) (q : 0 ≤ sp ∧ sp ≤ 1 ∧ 0 ≤ gc ∧ gc ≤ 1) : fineB h l sp fr gc sc = (decide (16 + sp * h ≤ fr ∧ fr ≤ 16 + sp * h + h) && (decide (gc = 0 ∧ sc = 0) || decide (gc = 1 ∧ 16 + sp * h ≤ sc ∧ sc ≤ fr))) := by
  rw [fineB, q0, decide_eq_true q]
  simp
end Go.Proofs.YteijhbnnhadkhaaGreatDoor
-- HeapUse
/- The document's own heap: Right, Left, in. -/
namespace Go.Proofs.YteijhbnnhadkhaaGreatDoor
open Go.RowKit Sec
open Go.Proofs.YteijhbnnhadkhaaGreatDoor.Bk

section
variable {B : Nat} {w w' : World} {b g c : Nat} {h l : Int} {W : List Int}
end
end Go.Proofs.YteijhbnnhadkhaaGreatDoor
-- HeapNew
/- The document's own heap: New. -/
namespace Go.Proofs.YteijhbnnhadkhaaGreatDoor
open Go.RowKit Sec
open Go.Proofs.YteijhbnnhadkhaaGreatDoor.Bk

/-- n cells from a on are 0. -/
def zfill (W : List Int) (a : Nat) : Nat → List Int
  | 0 => W
  | n + 1 => (zfill W a n).set (a + n) 0
theorem zfill_len (W : List Int) (a : Nat) : ∀ n, (zfill W a n).length = W.length
  | 0 => rfl
  | n + 1 => by rw [zfill, List.length_set, zfill_len W a n]
theorem zfill_at (W : List Int) (a : Nat) (i : Nat) : ∀ n, (zfill W a n).getD i 0 = if a ≤ i ∧ i < a + n then 0 else W.getD i 0
  | 0 => by rw [zfill, if_neg (by omega)]
  | n + 1 => by
    rw [zfill, List.getD_eq_getElem?_getD, List.getElem?_set]
    by_cases e : a + n = i
    · rw [if_pos e, show (if a ≤ i ∧ i < a + (n + 1) then (0 : Int) else W.getD i 0) = 0 from if_pos (by omega)]
      split <;> rfl
    · rw [if_neg e, ← List.getD_eq_getElem?_getD, zfill_at W a i n]
      by_cases q : a ≤ i ∧ i < a + n
      · rw [if_pos q, if_pos (by omega)]
      · rw [if_neg q, if_neg (by omega)]
/-- What a call on the heap leaves: of what was there only its row of cells has turned. -/
structure HGo (B g : Nat) (w w' : World) : Prop where
  b : Below B w w'
  k : ∀ i, i < w.heap.size → i ≠ g → w'.heap[i]? = w.heap[i]?
section
variable {B : Nat} {w w' w'' : World} {b g c : Nat} {h l : Int} {W : List Int}
theorem HGo.trans (x : HGo B g w w') (y : HGo B g w' w'') : HGo B g w w'' := ⟨x.b.trans y.b, fun i hi hn => (y.k i (Nat.lt_of_lt_of_le hi x.b.size) hn).trans (x.k i hi hn)⟩
theorem HGo.set (hg : B ≤ g) (i : Nat) (v : Value) : HGo B g w (w.setCell ⟨g, i, none⟩ v) := ⟨(Below.refl B w).setCell (p := ⟨g, i, none⟩) hg v, fun j _ hn => heap_setCell_other _ _ _ _ hn⟩
/-- May an object of that shape be made? -/
def newE (h l : Int) (W : List Int) (s x : Int) : Int := if (hOk h l W && shOk s x) = true then (if 16 + hSp W * h + h - hFr W < 1 + s + x then 6 else 0) else 1
def newA (h l : Int) (W : List Int) (s x : Int) : Int := if newE h l W s x = 0 then hFr W else 0
def newW (h l : Int) (W : List Int) (s x : Int) : List Int := if newE h l W s x = 0 then ((zfill W (hFr W).toNat (1 + s + x).toNat).set (hFr W).toNat (hdI s x)).set 1 (hFr W + (1 + s + x)) else W
end
end Go.Proofs.YteijhbnnhadkhaaGreatDoor
