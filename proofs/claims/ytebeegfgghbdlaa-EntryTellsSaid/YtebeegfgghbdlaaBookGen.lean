/- The book: what a step may turn, and what stays; a store into an owned row; small laws on rows. Plain: no call of the program. -/
import Derived.Test.YtebeegfgghbdlaaBookBase
namespace Go.Proofs.Ytebeegfgghbdlaa.Bk
open Go.RowKit

/-- The book's own block. -/
def BookB (w : World) (p : Nat) : Prop := ∃ cs : Array Value, w.heap[p]? = some (.cells cs 43 (0, 0)) ∧ cs.size = 12
theorem BookB.lt {w : World} {p : Nat} (h : BookB w p) : p < w.heap.size := by
  obtain ⟨cs, hb, _⟩ := h
  rcases Nat.lt_or_ge p w.heap.size with q | q
  · exact q
  · simp [Array.getElem?_eq_none q] at hb
theorem BookB.frozen {w : World} {p : Nat} (h : BookB w p) (j : Nat) : w.frozen? ⟨p, j, none⟩ = false := by
  obtain ⟨cs, hb, _⟩ := h
  simp [World.frozen?, hb]
/-- What a step leaves: of the blocks that were there only p and those that R names may have turned; of p's cells only those that J names. -/
structure Turn (w w' : World) (p : Nat) (J R : Nat → Prop) : Prop where
  size : w.heap.size ≤ w'.heap.size
  block : ∀ g, g < w.heap.size → g ≠ p → ¬ R g → w'.heap[g]? = w.heap[g]?
  cell : ∀ j, ¬ J j → w'.cell? ⟨p, j, none⟩ = w.cell? ⟨p, j, none⟩
  book : BookB w p → BookB w' p
theorem Turn.refl (w : World) (p : Nat) (J R : Nat → Prop) : Turn w w p J R := ⟨Nat.le_refl _, fun _ _ _ _ => rfl, fun _ _ => rfl, id⟩
theorem Turn.trans {w w1 w2 : World} {p : Nat} {J R : Nat → Prop} (h : Turn w w1 p J R) (k : Turn w1 w2 p J R) : Turn w w2 p J R :=
  ⟨Nat.le_trans h.size k.size, fun g hg hp hr => (k.block g (Nat.lt_of_lt_of_le hg h.size) hp hr).trans (h.block g hg hp hr), fun j hj => (k.cell j hj).trans (h.cell j hj), fun q => k.book (h.book q)⟩
theorem Turn.mono {w w' : World} {p : Nat} {J R J' R' : Nat → Prop} (h : Turn w w' p J R) (hJ : ∀ j, J j → J' j) (hR : ∀ g, g < w.heap.size → R g → R' g) : Turn w w' p J' R' :=
  ⟨h.size, fun g hg hp hr => h.block g hg hp (fun q => hr (hR g hg q)), fun j hj => h.cell j (fun q => hj (hJ j q)), h.book⟩
theorem book_of_block {w w' : World} {p : Nat} (hb : w'.heap[p]? = w.heap[p]?) (h : BookB w p) : BookB w' p := by
  obtain ⟨cs, h1, h2⟩ := h
  exact ⟨cs, by rw [hb]; exact h1, h2⟩
theorem Turn.of_below {w w' : World} {p : Nat} {J R : Nat → Prop} (h : Below w.heap.size w w') (hp : p < w.heap.size) : Turn w w' p J R :=
  ⟨h.size, fun g hg _ _ => h.block g hg, fun j _ => World.cell?_of_block (w := w) (a := ⟨p, j, none⟩) (h.block p hp), fun q => book_of_block (h.block p hp) q⟩
theorem Turn.grown {w w' : World} {p : Nat} {J R : Nat → Prop} {row : Option Nat} (h : w.grownBy w' row) (hp : p < w.heap.size) (hr : ∀ g, row = some g → g ≠ p ∧ R g) : Turn w w' p J R := by
  have hb : w'.heap[p]? = w.heap[p]? := h.block p hp (fun e => (hr p e.symm).1 rfl)
  exact ⟨h.size, fun g hg _ hn => h.block g hg (fun e => hn (hr g e.symm).2), fun j _ => World.cell?_of_block (w := w) (a := ⟨p, j, none⟩) hb, fun q => book_of_block hb q⟩
theorem Turn.set {w : World} {p : Nat} {J R : Nat → Prop} (j : Nat) (v : Value) (hJ : J j) : Turn w (w.setCell ⟨p, j, none⟩ v) p J R := by
  refine ⟨by simp, fun g _ hg _ => heap_setCell_other _ _ _ _ hg, fun i hi => ?_, fun q => ?_⟩
  · rw [World.cell?_setCell_other]
    intro e
    have : j = i := by simpa using e
    exact hi (this ▸ hJ)
  · obtain ⟨cs, h1, h2⟩ := q
    exact ⟨_, heap_setCell_same w p j cs _ v h1, by simpa using h2⟩
theorem owns_turn {w w' : World} {p base : Nat} {J R : Nat → Prop} {e : TypeId} {k : Nat} {v : Value} {m : Nat} {cs : List Value} (h : w.ownsRow base e k v m cs) (t : Turn w w' p J R) (hn : ∀ g, v.ownBlock = some g → g ≠ p ∧ ¬ R g) : w'.ownsRow base e k v m cs := by
  have hlt := h.lt
  refine ⟨h.1, ?_⟩
  rcases h.2 with q | ⟨g, cap, cur, hv, hg, hh, r⟩
  · exact .inl q
  · have hb : v.ownBlock = some g := by rw [hv]; rfl
    exact .inr ⟨g, cap, cur, hv, hg, by rw [t.block g (hlt g hb).2 (hn g hb).1 (hn g hb).2]; exact hh, r⟩
theorem not_book {w : World} {base p : Nat} {e : TypeId} {k : Nat} {v : Value} {m : Nat} {cs : List Value} (hb : BookB w p) (h : w.ownsRow base e k v m cs) (hne : e ≠ 43) {g : Nat} (hg : v.ownBlock = some g) : g ≠ p := by
  rintro rfl
  obtain ⟨cs', q, _⟩ := hb
  exact not_type h hne hg ⟨cs', _, q⟩
/-- A row of another type stays. -/
theorem owns_typed {w w' : World} {p base : Nat} {J : Nat → Prop} {e T : TypeId} {k : Nat} {v : Value} {m : Nat} {cs : List Value} (h : w.ownsRow base e k v m cs) (hb : BookB w p) (t : Turn w w' p J (OfType w T)) (h1 : e ≠ T) (h2 : e ≠ 43) : w'.ownsRow base e k v m cs :=
  owns_turn h t (fun _ hg => ⟨not_book hb h h2 hg, not_type h h1 hg⟩)
theorem type_turn {w w' : World} {p : Nat} {J : Nat → Prop} {R : Nat → Prop} {T : TypeId} (t : Turn w w' p J R) {g : Nat} (hg : g < w.heap.size) (hp : g ≠ p) (hr : ¬ R g) : OfType w' T g ↔ OfType w T g := by
  unfold OfType
  rw [t.block g hg hp hr]
/-- One element more behind a row, and the row's new slice into the book's field. -/
theorem pushed {w u w4 : World} {base p j g cap n : Nat} {O : TypeId} {v c : Value} {xs : List Value} {J : Nat → Prop} (hb : BookB w p) (hp : base ≤ p) (hu : Below w.heap.size w u) (ho : w.ownsRow base O 1 v n xs)
    (hown : w4.ownsRow base O 1 (.slice (some ⟨g, 0, none⟩) (n + 1) cap) (n + 1) (xs ++ [c])) (hgr : u.grownBy w4 v.ownBlock) (hat : v.ownBlock = some g ∨ g = u.heap.size) (hO : O ≠ 43) (hJ : J j) {old : Value} (hd : w4.cell? ⟨p, j, none⟩ = some old) :
    Below base w (w4.setCell ⟨p, j, none⟩ (.slice (some ⟨g, 0, none⟩) (n + 1) cap)) ∧ Turn w (w4.setCell ⟨p, j, none⟩ (.slice (some ⟨g, 0, none⟩) (n + 1) cap)) p J (fun i => v.ownBlock = some i) ∧
    Turn u (w4.setCell ⟨p, j, none⟩ (.slice (some ⟨g, 0, none⟩) (n + 1) cap)) p J (fun i => v.ownBlock = some i) ∧
    (w4.setCell ⟨p, j, none⟩ (.slice (some ⟨g, 0, none⟩) (n + 1) cap)).ownsRow base O 1 (.slice (some ⟨g, 0, none⟩) (n + 1) cap) (n + 1) (xs ++ [c]) ∧
    (w4.setCell ⟨p, j, none⟩ (.slice (some ⟨g, 0, none⟩) (n + 1) cap)).cell? ⟨p, j, none⟩ = some (.slice (some ⟨g, 0, none⟩) (n + 1) cap) ∧ (v.ownBlock = some g ∨ w.heap.size ≤ g) ∧ g ≠ p := by
  have hpl := hb.lt
  have hpu : p < u.heap.size := Nat.lt_of_lt_of_le hpl hu.size
  have t2 : Turn u w4 p J (fun i => v.ownBlock = some i) := Turn.grown hgr hpu (fun i hi => ⟨not_book hb ho hO hi, hi⟩)
  have t3 : Turn w4 (w4.setCell ⟨p, j, none⟩ (.slice (some ⟨g, 0, none⟩) (n + 1) cap)) p J (fun i => v.ownBlock = some i) := Turn.set j _ hJ
  have t1 : Turn w u p J (fun i => v.ownBlock = some i) := Turn.of_below hu hpl
  have hb4 := t2.book (t1.book hb)
  have hgp : g ≠ p := not_book hb4 hown hO rfl
  refine ⟨((hu.mono (Nat.le_trans hp (Nat.le_of_lt hpl))).grown hgr (by have := hu.size; omega) (fun k hk => (ho.lt k hk).1)).setCell (p := ⟨p, j, none⟩) hp _, (t1.trans t2).trans t3, t2.trans t3, owns_other hown (fun e => hgp (by simpa [Value.ownBlock] using e)) _, by rw [World.cell?_setCell_same _ _ _ hd], ?_, hgp⟩
  rcases hat with q | q
  · exact .inl q
  · exact .inr (by rw [q]; exact hu.size)
theorem Turn.store {w : World} {p g j : Nat} {J R : Nat → Prop} (v : Value) (hb : BookB w p) (hg : g ≠ p) (hr : R g) : Turn w (w.setCell ⟨g, j, none⟩ v) p J R := by
  refine ⟨by simp, fun i _ _ hn => heap_setCell_other _ _ _ _ (fun e => hn (by rw [show i = g from e]; exact hr)), fun i _ => ?_, fun _ => book_of_block (heap_setCell_other _ _ _ _ (fun e => hg e.symm)) hb⟩
  rw [World.cell?_setCell_other]
  intro e
  exact hg (by simpa using congrArg Addr.block e)
theorem Turn.more {w wr w' : World} {p : Nat} {J R : Nat → Prop} {row : Option Nat} (t : Turn w wr p J R) (h : wr.grownBy w' row) (hp : p < wr.heap.size) (hr : ∀ g, row = some g → g ≠ p ∧ (R g ∨ w.heap.size ≤ g)) : Turn w w' p J R := by
  have hb : w'.heap[p]? = wr.heap[p]? := h.block p hp (fun e => (hr p e.symm).1 rfl)
  refine ⟨Nat.le_trans t.size h.size, fun g hg hgp hn => ?_, fun j hj => (World.cell?_of_block (w := wr) (a := ⟨p, j, none⟩) hb).trans (t.cell j hj), fun q => book_of_block hb (t.book q)⟩
  rw [h.block g (Nat.lt_of_lt_of_le hg t.size) (fun e => by
    rcases (hr g e.symm).2 with q | q
    · exact hn q
    · omega)]
  exact t.block g hg hgp hn
end Go.Proofs.Ytebeegfgghbdlaa.Bk
