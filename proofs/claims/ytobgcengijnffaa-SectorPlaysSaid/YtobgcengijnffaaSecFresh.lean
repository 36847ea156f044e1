/- The two disks in a world that differs by fresh blocks alone: the op's own copy. -/
import Derived.Test.YtobgcengijnffaaSecOpenOps
namespace Go.Proofs.Ytobgcengijnffaa
open Go.RowKit

theorem Duo.fresh {B p q : Nat} {w w' : World} {D : Dsk} {R : Rsk} (h : Duo B w p q D R) (hs : w.heap.size ≤ w'.heap.size) (hb : ∀ b, b < w.heap.size → w'.heap[b]? = w.heap[b]?) : Duo B w' p q D R := by
  obtain ⟨y, z, e1, e2, i1, i2, b1, b2, hd⟩ := h
  exact ⟨y, z, e1, e2, i1.of_blocks hs (fun b q => hb b (i1.small b q)), i2.of_blocks hs (fun b q => hb b (i2.small b q)), b1, b2, hd⟩
theorem Duo.copy {B p q : Nat} {w : World} {D : Dsk} {R : Rsk} (h : Duo B w p q D R) (o : Obj) (j : Nat) (v : Value) : Duo B ((w.alloc o).setCell ⟨w.heap.size, j, none⟩ v) p q D R :=
  h.fresh (by rw [size_setCell']; simp) fun b hb => by rw [heap_setCell_ne _ _ _ _ (by show b ≠ w.heap.size; omega), Below.heap_alloc _ _ _ hb]
theorem Below.copy {B : Nat} {w0 w : World} (h : Below B w0 w) (hB : B ≤ w.heap.size) (o : Obj) (j : Nat) (v : Value) : Below B w0 ((w.alloc o).setCell ⟨w.heap.size, j, none⟩ v) :=
  h.trans ((((Only.refl (fun b => B ≤ b) w).alloc o).setCell (p := ⟨w.heap.size, j, none⟩) (.inl hB) v).below (fun _ q => q) hB)
end Go.Proofs.Ytobgcengijnffaa
