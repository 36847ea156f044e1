/- The book: owned rows: what stays; a store into one. Plain: no call of the program, and no type of the book. -/
import Derived.Test.YtngfijpdbjkpiaaBookSameI
namespace Go.Proofs.Ytngfijpdbjkpiaa.Bk
open Go.RowKit

theorem own_below {w w' : World} {base : Nat} {e : TypeId} {k : Nat} {v : Value} {n : Nat} {xs : List Value} (h : w.ownsRow base e k v n xs) (b : Below w.heap.size w w') : w'.ownsRow base e k v n xs :=
  h.kept (row := none) ⟨b.os, b.tape, b.output, b.size, fun k hk _ => b.block k hk⟩ (by cases hv : v.ownBlock <;> simp)
theorem owns_set {w : World} {base : Nat} {e : TypeId} {g n c : Nat} {xs : List Value} (h : w.ownsRow base e 1 (.slice (some ⟨g, 0, none⟩) n c) n xs) (k : Nat) (x : Value) : (w.setCell ⟨g, k, none⟩ x).ownsRow base e 1 (.slice (some ⟨g, 0, none⟩) n c) n (xs.set k x) := by
  refine ⟨by rw [List.length_set]; exact h.1, ?_⟩
  rcases h.2 with ⟨q, _⟩ | ⟨g', cap', cur, hv, hg, hh, h1, h2, h3, h4⟩
  · cases q
  · obtain ⟨rfl, rfl⟩ : g = g' ∧ c = cap' := by simpa using hv
    refine .inr ⟨g, c, cur.setIfInBounds k x, rfl, hg, ?_, h1, h2, by rw [Array.size_setIfInBounds]; exact h3, ?_⟩
    · have := heap_setCell_same w g k cur e x hh
      simpa using this
    · rw [Array.toList_setIfInBounds, ← h4, ← List.take_set]
theorem owns_cell {w : World} {base : Nat} {e : TypeId} {g n c : Nat} {xs : List Value} (h : w.ownsRow base e 1 (.slice (some ⟨g, 0, none⟩) n c) n xs) {k : Nat} {x : Value} (hk : xs[k]? = some x) : w.cell? ⟨g, k, none⟩ = some x ∧ w.frozen? ⟨g, k, none⟩ = false := by
  have hlt : k < n * 1 := by rw [← h.1]; exact (List.getElem?_eq_some_iff.1 hk).1
  refine ⟨by rw [h.cellAt k hlt, hk], ?_⟩
  rcases h.2 with ⟨q, _⟩ | ⟨g', cap', cur, hv, _, hh, _⟩
  · cases q
  · obtain ⟨rfl, rfl⟩ : g = g' ∧ c = cap' := by simpa using hv
    simp [World.frozen?, hh]
theorem owns_other {w : World} {base : Nat} {e : TypeId} {k : Nat} {v : Value} {m : Nat} {cs : List Value} (h : w.ownsRow base e k v m cs) {a : Addr} (hne : v.ownBlock ≠ some a.block) (x : Value) : (w.setCell a x).ownsRow base e k v m cs := by
  refine ⟨h.1, ?_⟩
  rcases h.2 with q | ⟨g, cap, cur, hv, hg, hh, r⟩
  · exact .inl q
  · refine .inr ⟨g, cap, cur, hv, hg, ?_, r⟩
    rw [heap_setCell_other _ _ _ _ (fun q => hne (by rw [hv, ← q]; rfl))]
    exact hh
theorem lies_other {w : World} {a : Option Addr} {cs : List Value} (h : LiesAt w a cs) {q : Addr} (hne : ∀ b : Addr, a = some b → b.block ≠ q.block) (x : Value) : LiesAt (w.setCell q x) a cs :=
  h.of_blocks (by simp) (fun b hb => heap_setCell_other _ _ _ _ (hne b hb))
theorem own_type {w : World} {base : Nat} {e : TypeId} {k : Nat} {v : Value} {m : Nat} {cs : List Value} (h : w.ownsRow base e k v m cs) {g : Nat} (hg : v.ownBlock = some g) : ∃ cur, w.heap[g]? = some (.cells cur e (0, 0)) := by
  rcases h.2 with ⟨q, _⟩ | ⟨g', cap, cur, hv, _, hh, _⟩
  · rw [q] at hg; cases hg
  · rw [hv] at hg
    obtain rfl : g' = g := by simpa [Value.ownBlock] using hg
    exact ⟨cur, hh⟩
/-- Blocks of a type. -/
def OfType (w : World) (T : TypeId) (g : Nat) : Prop := ∃ cs fr, w.heap[g]? = some (.cells cs T fr)
theorem not_type {w : World} {base : Nat} {e T : TypeId} {k : Nat} {v : Value} {m : Nat} {cs : List Value} (h : w.ownsRow base e k v m cs) (hne : e ≠ T) {g : Nat} (hg : v.ownBlock = some g) : ¬ OfType w T g := by
  rintro ⟨cs', fr, q⟩
  obtain ⟨cur, hh⟩ := own_type h hg
  rw [hh] at q
  simp only [Option.some.injEq, Obj.cells.injEq] at q
  exact hne q.2.1
theorem grown_block {w w' : World} {row : Option Nat} (h : w.grownBy w' row) {g : Nat} (hg : g < w.heap.size) (hn : row ≠ some g) : w'.heap[g]? = w.heap[g]? := h.block g hg (fun e => hn e.symm)
theorem owns_slice {w : World} {base : Nat} {e : TypeId} {k : Nat} {v : Value} {n : Nat} {xs : List Value} (h : w.ownsRow base e k v n xs) : ∃ a c, v = .slice a n c := by
  rcases h.2 with ⟨q, q2⟩ | ⟨g, cap, cur, hv, _⟩
  · exact ⟨none, 0, by rw [q, q2]⟩
  · exact ⟨_, _, hv⟩
theorem owns_base {w : World} {b b' : Nat} {e : TypeId} {k : Nat} {v : Value} {m : Nat} {cs : List Value} (hb : b ≤ b') (h : w.ownsRow b' e k v m cs) : w.ownsRow b e k v m cs := by
  refine ⟨h.1, ?_⟩
  rcases h.2 with q | ⟨g, cap, cur, hv, hg, r⟩
  · exact .inl q
  · exact .inr ⟨g, cap, cur, hv, Nat.le_trans hb hg, r⟩
theorem take_set_next {α : Type} {l m : List α} {k : Nat} {x : α} (h : l.take k = m.take k) (hl : k < l.length) (hm : m[k]? = some x) : (l.set k x).take (k + 1) = m.take (k + 1) := by
  obtain ⟨hk, rfl⟩ := List.getElem?_eq_some_iff.1 hm
  rw [List.take_succ_eq_append_getElem (by simpa using hl), List.take_succ_eq_append_getElem hk]
  simp [List.take_set_of_le, h]
theorem own_blk {w : World} {base : Nat} {e : TypeId} {v : Value} {n : Nat} {xs : List Value} (h : w.ownsRow base e 1 v n xs) (hn : 0 < n) : ∃ (g c : Nat), v = .slice (some ⟨g, 0, none⟩) n c ∧ n ≤ c ∧ base ≤ g ∧ g < w.heap.size := by
  rcases h.2 with ⟨_, q⟩ | ⟨g, cap, cur, hv, hg, hh, hc, r⟩
  · omega
  · exact ⟨g, cap, hv, hc, hg, (h.lt g (by rw [hv]; rfl)).2⟩
theorem owns_grown {w w' : World} {row : Option Nat} {base : Nat} {e : TypeId} {k : Nat} {v : Value} {m : Nat} {cs : List Value} (h : w.ownsRow base e k v m cs) (hg : w.grownBy w' row) (hn : ∀ g, v.ownBlock = some g → row ≠ some g) : w'.ownsRow base e k v m cs := by
  have hlt := h.lt
  refine ⟨h.1, ?_⟩
  rcases h.2 with q | ⟨g, cap, cur, hv, hb, hh, r⟩
  · exact .inl q
  · have hb' : v.ownBlock = some g := by rw [hv]; rfl
    exact .inr ⟨g, cap, cur, hv, hb, by rw [grown_block hg (hlt g hb').2 (hn g hb')]; exact hh, r⟩
theorem below_none {w w' : World} (h : w.grownBy w' none) : Below w.heap.size w w' := ⟨h.os, h.tape, h.output, h.size, fun k hk => h.block k hk (fun q => by cases q)⟩
end Go.Proofs.Ytngfijpdbjkpiaa.Bk
