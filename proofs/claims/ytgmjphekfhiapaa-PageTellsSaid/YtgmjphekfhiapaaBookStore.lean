/- The book: a store into an owned row. -/
import Derived.Test.YtgmjphekfhiapaaBookSameI
namespace Go.Proofs.Ytgmjphekfhiapaa.Bk
open Go.RowKit

theorem owns_set {w : World} {base : Nat} {e : TypeId} {g n c : Nat} {xs : List Value} (h : w.ownsRow base e 1 (.slice (some ⟨g, 0, none⟩) n c) n xs) (k : Nat) (x : Value) : (w.setCell ⟨g, k, none⟩ x).ownsRow base e 1 (.slice (some ⟨g, 0, none⟩) n c) n (xs.set k x) := by
  refine ⟨by rw [List.length_set]; exact h.1, ?_⟩
  rcases h.2 with ⟨q, _⟩ | ⟨g', cap', cur, hv, hg, hh, h1, h2, h3, h4⟩
  · cases q
  · obtain ⟨rfl, rfl⟩ : g = g' ∧ c = cap' := by simpa using hv
    refine .inr ⟨g, c, cur.setIfInBounds k x, rfl, hg, ?_, h1, h2, by rw [Array.size_setIfInBounds]; exact h3, ?_⟩
    · have := heap_setCell_same w g k cur e x hh
      simpa using this
    · rw [Array.toList_setIfInBounds, ← h4, ← List.take_set]
theorem owns_cell {w : World} {base : Nat} {e : TypeId} {g n c : Nat} {xs : List Value} (h : w.ownsRow base e 1 (.slice (some ⟨g, 0, none⟩) n c) n xs) {k : Nat} {x : Value} (hk : xs[k]? = some x) : w.cell? ⟨g, k, none⟩ = some x ∧ w.frozen? ⟨g, k, none⟩ = false := by
  have hlt : k < n * 1 := by rw [← h.1]; exact (List.getElem?_eq_some_iff.1 hk).1
  refine ⟨by rw [h.cellAt k hlt, hk], ?_⟩
  rcases h.2 with ⟨q, _⟩ | ⟨g', cap', cur, hv, _, hh, _⟩
  · cases q
  · obtain ⟨rfl, rfl⟩ : g = g' ∧ c = cap' := by simpa using hv
    simp [World.frozen?, hh]
theorem owns_other {w : World} {base : Nat} {e : TypeId} {k : Nat} {v : Value} {m : Nat} {cs : List Value} (h : w.ownsRow base e k v m cs) {a : Addr} (hne : v.ownBlock ≠ some a.block) (x : Value) : (w.setCell a x).ownsRow base e k v m cs := by
  refine ⟨h.1, ?_⟩
  rcases h.2 with q | ⟨g, cap, cur, hv, hg, hh, r⟩
  · exact .inl q
  · refine .inr ⟨g, cap, cur, hv, hg, ?_, r⟩
    rw [heap_setCell_other _ _ _ _ (fun q => hne (by rw [hv, ← q]; rfl))]
    exact hh
theorem lies_other {w : World} {a : Option Addr} {cs : List Value} (h : LiesAt w a cs) {q : Addr} (hne : ∀ b : Addr, a = some b → b.block ≠ q.block) (x : Value) : LiesAt (w.setCell q x) a cs :=
  h.of_blocks (by simp) (fun b hb => heap_setCell_other _ _ _ _ (hne b hb))
end Go.Proofs.Ytgmjphekfhiapaa.Bk
