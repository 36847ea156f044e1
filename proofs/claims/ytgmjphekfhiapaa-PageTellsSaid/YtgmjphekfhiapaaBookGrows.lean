/- The book: growing: what is kept. -/
import Derived.Test.YtgmjphekfhiapaaBookGrow
namespace Go.Proofs.Ytgmjphekfhiapaa.Bk
open Go.RowKit

theorem Turn.more {w wr w' : World} {p : Nat} {J R : Nat → Prop} {row : Option Nat} (t : Turn w wr p J R) (h : wr.grownBy w' row) (hp : p < wr.heap.size) (hr : ∀ g, row = some g → g ≠ p ∧ (R g ∨ w.heap.size ≤ g)) : Turn w w' p J R := by
  have hb : w'.heap[p]? = wr.heap[p]? := h.block p hp (fun e => (hr p e.symm).1 rfl)
  refine ⟨Nat.le_trans t.size h.size, fun g hg hgp hn => ?_, fun j hj => (World.cell?_of_block (w := wr) (a := ⟨p, j, none⟩) hb).trans (t.cell j hj), fun q => book_of_block hb (t.book q)⟩
  rw [h.block g (Nat.lt_of_lt_of_le hg t.size) (fun e => by
    rcases (hr g e.symm).2 with q | q
    · exact hn q
    · omega)]
  exact t.block g hg hgp hn

structure GrowTexts (w wr : World) (base p : Nat) (L : List TL) (C : Nat → List ByteArray) (N : Nat) (Lo : List TL) (vo : Value) : Prop where
  below : Below base w wr
  turn : Turn w wr p (fun _ => False) (OfType w 9)
  book : BookB wr p
  held : HeldTexts wr base p L C
  out : wr.ownsRow w.heap.size 34 1 vo Lo.length (Lo.map TL.cell)
  lo : ∀ (i : Nat) (y : TL), Lo[i]? = some y → wr.ownsRow base 9 1 y.cell y.l.length (txts y.l) ∧ y.l = marksT i 0 y.l.length ∧ y.l.length ≤ 2000 ∧ (∀ g, y.cell.ownBlock = some g → g < N ∧ ∀ (j : Nat) (x : TL), i ≠ j → L[j]? = some x → x.cell.ownBlock ≠ some g)
  N : w.heap.size ≤ N ∧ N ≤ wr.heap.size
theorem GrowTexts.next {w wr w' : World} {base p N : Nat} {L Lo : List TL} {C : Nat → List ByteArray} {vo : Value} (h : GrowTexts w wr base p L C N Lo vo) (hp : base ≤ p) (b : Below wr.heap.size wr w') : GrowTexts w w' base p L C N Lo vo :=
  ⟨h.below.trans (b.mono (Nat.le_trans hp (Nat.le_of_lt h.book.lt))), h.turn.trans (Turn.of_below b h.book.lt), book_of_block (b.block p h.book.lt) h.book, h.held.below h.book b, own_below h.out b,
    fun i y hy => ⟨own_below (h.lo i y hy).1 b, (h.lo i y hy).2⟩, ⟨h.N.1, Nat.le_trans h.N.2 b.size⟩⟩
/-- A row of elements has grown where it was. -/
theorem GrowTexts.grown {w wr w' : World} {base p N g : Nat} {L Lo : List TL} {C : Nat → List ByteArray} {vo : Value} (h : GrowTexts w wr base p L C N Lo vo) (hp : base ≤ p) (hg : wr.grownBy w' (some g)) (c1 : g ≠ p) (c2 : OfType w 9 g ∨ w.heap.size ≤ g) (c3 : base ≤ g)
    (c4 : ∀ (i : Nat) (x : TL), L[i]? = some x → w'.ownsRow base 9 1 x.cell x.l.length (txts (C i))) (c5 : OfType wr 9 g) (c6 : ∀ (i : Nat) (y : TL), Lo[i]? = some y → y.cell.ownBlock ≠ some g) : GrowTexts w w' base p L C N Lo vo := by
  have hpl := h.book.lt
  have t := h.turn.more hg hpl (fun g' e => by
    obtain rfl : g = g' := by simpa using e
    exact ⟨c1, c2⟩)
  obtain ⟨ao, co, e0, o0⟩ := h.held.ex
  have nO : ∀ {b v m cs}, wr.ownsRow b 34 1 v m cs → ∀ g', v.ownBlock = some g' → some g ≠ some g' := fun ho g' e q => by
    obtain rfl : g = g' := by simpa using q
    exact not_type ho (show 34 ≠ 9 by decide) e c5
  have hbp : w'.heap[p]? = wr.heap[p]? := grown_block hg hpl (fun e => c1 (by simpa using e))
  refine ⟨h.below.grown hg (Nat.le_trans hp (Nat.le_of_lt hpl)) (fun k hk => by
      obtain rfl : g = k := by simpa using hk
      exact c3), t, book_of_block hbp h.book, ⟨⟨ao, co, (World.cell?_of_block (w := wr) (a := ⟨p, 0, none⟩) hbp).trans e0, owns_grown o0 hg (nO o0)⟩, c4, h.held.apart, h.held.small⟩, owns_grown h.out hg (nO h.out), fun i y hy => ⟨owns_grown (h.lo i y hy).1 hg (fun g' e q => ?_), (h.lo i y hy).2⟩, ⟨h.N.1, Nat.le_trans h.N.2 hg.size⟩⟩
  obtain rfl : g = g' := by simpa using q
  exact c6 i y hy e
/-- One append onto a list's row. -/
theorem GrowTexts.step {w wr w' : World} {base p N g cap k q m cl : Nat} {al : Option Addr} {L Lo : List TL} {C C0 : Nat → List ByteArray} {vo : Value} {x : TL} {xs ys : List ByteArray} (h : GrowTexts w wr base p L C N Lo vo) (hp : base ≤ p) (hw : HeldTexts w base p L C0)
    (hx : L[k]? = some x) (hk : k = Lo.length) (hv : wr.ownsRow base 9 1 (.slice al q cl) q (txts xs)) (hq : x.l.length ≤ q) (hblk : (al = x.a ∧ cl = x.c) ∨ ∀ g', Value.ownBlock (.slice al q cl) = some g' → N ≤ g')
    (hgr : Grew wr w' (.slice al q cl) q g cap) (hown : w'.ownsRow base 9 1 (.slice (some ⟨g, 0, none⟩) (q + m) cap) (q + m) (txts ys)) (hys : ys.take x.l.length = C k) :
    GrowTexts w w' base p L C N Lo vo ∧ ((some ⟨g, 0, none⟩ = x.a ∧ cap = x.c) ∨ ∀ g', Value.ownBlock (.slice (some ⟨g, 0, none⟩) (q + m) cap) = some g' → N ≤ g') := by
  rcases hgr with ⟨e, hg⟩ | ⟨e, hg⟩
  · obtain ⟨rfl, rfl⟩ : al = some ⟨g, 0, none⟩ ∧ cl = cap := by simpa using e
    have c5 : OfType wr 9 g := by
      obtain ⟨cur, hh⟩ := own_type hv rfl
      exact ⟨cur, _, hh⟩
    have c1 : g ≠ p := not_book h.book hv (by decide) rfl
    have c3 : base ≤ g := (hv.lt g rfl).1
    rcases hblk with ⟨b1, b2⟩ | hN
    · have hxg : x.cell.ownBlock = some g := by rw [TL.cell, ← b1]; rfl
      have c2 : OfType w 9 g := by
        obtain ⟨cur, hh⟩ := own_type (hw.each k x hx) hxg
        exact ⟨cur, _, hh⟩
      refine ⟨h.grown hp hg c1 (.inl c2) c3 (fun i y hy => ?_) c5 (fun i y hy => ?_), .inl ⟨b1, b2⟩⟩
      · by_cases hi : i = k
        · subst hi
          obtain rfl : x = y := by rw [hx] at hy; simpa using hy
          rw [TL.cell, ← b1, ← b2]
          exact owns_head hown (by omega) (by rw [← hys]; simp [txts])
        · exact owns_grown (h.held.each i y hy) hg (fun g' e q => by
            obtain rfl : g = g' := by simpa using q
            exact h.held.apart i k y x hi hy hx g e hxg)
      · intro e
        have hne : i ≠ k := by have := (List.getElem?_eq_some_iff.1 hy).1; omega
        exact ((h.lo i y hy).2.2.2 g e).2 k x hne hx hxg
    · have hNg := hN g rfl
      have hN0 := h.N.1
      refine ⟨h.grown hp hg c1 (.inr (by omega)) c3 (fun i y hy => ?_) c5 (fun i y hy e => ?_), .inr hN⟩
      · exact owns_grown (h.held.each i y hy) hg (fun g' e q => by
          obtain rfl : g = g' := by simpa using q
          have := ((hw.each i y hy).lt g e).2
          omega)
      · have := ((h.lo i y hy).2.2.2 g e).1
        omega
  · refine ⟨h.next hp (below_none hg), .inr (fun g' e' => ?_)⟩
    obtain rfl : g = g' := by simpa [Value.ownBlock] using e'
    exact Nat.le_trans h.N.2 e
/-- One list more stands in what is told. -/
theorem GrowTexts.push {w wr w' : World} {base p N g cap : Nat} {L Lo : List TL} {C C0 : Nat → List ByteArray} {vo : Value} {x y : TL} (h : GrowTexts w wr base p L C N Lo vo) (hp : base ≤ p) (hw : HeldTexts w base p L C0) (hwb : BookB w p) (hx : L[Lo.length]? = some x)
    (hy : wr.ownsRow base 9 1 y.cell y.l.length (txts y.l)) (hm : ∀ i, i = Lo.length → y.l = marksT i 0 y.l.length) (hs : y.l.length ≤ 2000) (hblk : (y.a = x.a ∧ y.c = x.c) ∨ ∀ g', y.cell.ownBlock = some g' → N ≤ g')
    (hgr : Grew wr w' vo Lo.length g cap) (hown : w'.ownsRow w.heap.size 34 1 (.slice (some ⟨g, 0, none⟩) (Lo.length + 1) cap) (Lo.length + 1) (Lo.map TL.cell ++ [y.cell])) :
    GrowTexts w w' base p L C w'.heap.size (Lo ++ [y]) (.slice (some ⟨g, 0, none⟩) (Lo.length + 1) cap) := by
  have hpl := h.book.lt
  have hsz : wr.heap.size ≤ w'.heap.size := by
    rcases hgr with ⟨_, q⟩ | ⟨_, q⟩ <;> exact q.size
  have hbw : base ≤ w.heap.size := Nat.le_trans hp (Nat.le_of_lt hwb.lt)
  have hrow : ∃ row, wr.grownBy w' row ∧ ∀ g', row = some g' → w.heap.size ≤ g' ∧ OfType wr 34 g' := by
    rcases hgr with ⟨e, q⟩ | ⟨_, q⟩
    · refine ⟨_, q, fun g' e' => ?_⟩
      obtain rfl : g = g' := by simpa using e'
      have hg : vo.ownBlock = some g := by rw [e]; rfl
      obtain ⟨cur, hh⟩ := own_type h.out hg
      exact ⟨(h.out.lt g hg).1, cur, _, hh⟩
    · exact ⟨_, q, fun g' e' => by cases e'⟩
  obtain ⟨row, hg, hr⟩ := hrow
  have nE : ∀ {v m cs}, wr.ownsRow base 9 1 v m cs → ∀ g', v.ownBlock = some g' → row ≠ some g' := fun ho g' e q => not_type ho (show 9 ≠ 34 by decide) e (hr g' q).2
  have hrp : ∀ g', row = some g' → g' ≠ p := fun g' e q => by
    have := (hr g' e).1
    have := hwb.lt
    omega
  have t := h.turn.more hg hpl (fun g' e => ⟨hrp g' e, .inr (hr g' e).1⟩)
  obtain ⟨ao, co, e0, o0⟩ := h.held.ex
  obtain ⟨ao', co', e0', o0'⟩ := hw.ex
  have hbp : w'.heap[p]? = wr.heap[p]? := grown_block hg hpl (fun e => hrp p e rfl)
  have hsame : Value.slice ao L.length co = .slice ao' L.length co' := by
    have := (h.turn.cell 0 id)
    rw [e0, e0'] at this
    simpa using this
  refine ⟨h.below.grown hg (Nat.le_trans hbw h.turn.size) (fun k hk => Nat.le_trans hbw (hr k hk).1), t, book_of_block hbp h.book, ⟨⟨ao, co, (World.cell?_of_block (w := wr) (a := ⟨p, 0, none⟩) hbp).trans e0, owns_grown o0 hg (fun g' e q => ?_)⟩, fun i z hz => owns_grown (h.held.each i z hz) hg (nE (h.held.each i z hz)), h.held.apart, h.held.small⟩, ?_, fun i z hz => ?_, ⟨Nat.le_trans h.turn.size hsz, Nat.le_refl _⟩⟩
  · rw [hsame] at e
    have := (o0'.lt g' e).2
    have := (hr g' q).1
    omega
  · simpa using hown
  · rcases Nat.lt_or_ge i Lo.length with e | e
    · rw [List.getElem?_append_left e] at hz
      obtain ⟨z1, z2, z3, z4⟩ := h.lo i z hz
      exact ⟨owns_grown z1 hg (nE z1), z2, z3, fun g' hg' => ⟨Nat.lt_of_lt_of_le (z1.lt g' hg').2 hsz, (z4 g' hg').2⟩⟩
    · rw [List.getElem?_append_right e] at hz
      have hi : i = Lo.length := by have := (List.getElem?_eq_some_iff.1 hz).1; simp at this; omega
      subst hi
      obtain rfl : y = z := by simpa using hz
      refine ⟨owns_grown hy hg (nE hy), hm _ rfl, hs, fun g' hg' => ⟨Nat.lt_of_lt_of_le (hy.lt g' hg').2 hsz, fun j u hj hu hug => ?_⟩⟩
      rcases hblk with ⟨b1, b2⟩ | hN
      · have hxg : x.cell.ownBlock = some g' := by
          rw [TL.cell, ← b1]
          rw [TL.cell] at hg'
          cases hya : y.a with
          | none => rw [hya] at hg'; cases hg'
          | some b => rw [hya] at hg'; exact hg'
        exact hw.apart Lo.length j x u hj hx hu g' hxg hug
      · have h1 := hN g' hg'
        have h2 := ((hw.each j u hu).lt g' hug).2
        have h3 := h.N.1
        omega
structure GrowInts (w wr : World) (base p : Nat) (L : List IL) (C : Nat → List Int) (N : Nat) (Lo : List IL) (vo : Value) : Prop where
  below : Below base w wr
  turn : Turn w wr p (fun _ => False) (OfType w 3)
  book : BookB wr p
  held : HeldInts wr base p L C
  out : wr.ownsRow w.heap.size 22 1 vo Lo.length (Lo.map IL.cell)
  lo : ∀ (i : Nat) (y : IL), Lo[i]? = some y → wr.ownsRow base 3 1 y.cell y.l.length (vals y.l) ∧ y.l = marksI (i : Int) 0 y.l.length ∧ y.l.length ≤ 2000 ∧ (∀ g, y.cell.ownBlock = some g → g < N ∧ ∀ (j : Nat) (x : IL), i ≠ j → L[j]? = some x → x.cell.ownBlock ≠ some g)
  N : w.heap.size ≤ N ∧ N ≤ wr.heap.size
theorem GrowInts.next {w wr w' : World} {base p N : Nat} {L Lo : List IL} {C : Nat → List Int} {vo : Value} (h : GrowInts w wr base p L C N Lo vo) (hp : base ≤ p) (b : Below wr.heap.size wr w') : GrowInts w w' base p L C N Lo vo :=
  ⟨h.below.trans (b.mono (Nat.le_trans hp (Nat.le_of_lt h.book.lt))), h.turn.trans (Turn.of_below b h.book.lt), book_of_block (b.block p h.book.lt) h.book, h.held.below h.book b, own_below h.out b,
    fun i y hy => ⟨own_below (h.lo i y hy).1 b, (h.lo i y hy).2⟩, ⟨h.N.1, Nat.le_trans h.N.2 b.size⟩⟩
/-- A row of elements has grown where it was. -/
theorem GrowInts.grown {w wr w' : World} {base p N g : Nat} {L Lo : List IL} {C : Nat → List Int} {vo : Value} (h : GrowInts w wr base p L C N Lo vo) (hp : base ≤ p) (hg : wr.grownBy w' (some g)) (c1 : g ≠ p) (c2 : OfType w 3 g ∨ w.heap.size ≤ g) (c3 : base ≤ g)
    (c4 : ∀ (i : Nat) (x : IL), L[i]? = some x → w'.ownsRow base 3 1 x.cell x.l.length (vals (C i))) (c5 : OfType wr 3 g) (c6 : ∀ (i : Nat) (y : IL), Lo[i]? = some y → y.cell.ownBlock ≠ some g) : GrowInts w w' base p L C N Lo vo := by
  have hpl := h.book.lt
  have t := h.turn.more hg hpl (fun g' e => by
    obtain rfl : g = g' := by simpa using e
    exact ⟨c1, c2⟩)
  obtain ⟨ao, co, e0, o0⟩ := h.held.ex
  have nO : ∀ {b v m cs}, wr.ownsRow b 22 1 v m cs → ∀ g', v.ownBlock = some g' → some g ≠ some g' := fun ho g' e q => by
    obtain rfl : g = g' := by simpa using q
    exact not_type ho (show 22 ≠ 3 by decide) e c5
  have hbp : w'.heap[p]? = wr.heap[p]? := grown_block hg hpl (fun e => c1 (by simpa using e))
  refine ⟨h.below.grown hg (Nat.le_trans hp (Nat.le_of_lt hpl)) (fun k hk => by
      obtain rfl : g = k := by simpa using hk
      exact c3), t, book_of_block hbp h.book, ⟨⟨ao, co, (World.cell?_of_block (w := wr) (a := ⟨p, 2, none⟩) hbp).trans e0, owns_grown o0 hg (nO o0)⟩, c4, h.held.apart, h.held.small⟩, owns_grown h.out hg (nO h.out), fun i y hy => ⟨owns_grown (h.lo i y hy).1 hg (fun g' e q => ?_), (h.lo i y hy).2⟩, ⟨h.N.1, Nat.le_trans h.N.2 hg.size⟩⟩
  obtain rfl : g = g' := by simpa using q
  exact c6 i y hy e
/-- One append onto a list's row. -/
theorem GrowInts.step {w wr w' : World} {base p N g cap k q m cl : Nat} {al : Option Addr} {L Lo : List IL} {C C0 : Nat → List Int} {vo : Value} {x : IL} {xs ys : List Int} (h : GrowInts w wr base p L C N Lo vo) (hp : base ≤ p) (hw : HeldInts w base p L C0)
    (hx : L[k]? = some x) (hk : k = Lo.length) (hv : wr.ownsRow base 3 1 (.slice al q cl) q (vals xs)) (hq : x.l.length ≤ q) (hblk : (al = x.a ∧ cl = x.c) ∨ ∀ g', Value.ownBlock (.slice al q cl) = some g' → N ≤ g')
    (hgr : Grew wr w' (.slice al q cl) q g cap) (hown : w'.ownsRow base 3 1 (.slice (some ⟨g, 0, none⟩) (q + m) cap) (q + m) (vals ys)) (hys : ys.take x.l.length = C k) :
    GrowInts w w' base p L C N Lo vo ∧ ((some ⟨g, 0, none⟩ = x.a ∧ cap = x.c) ∨ ∀ g', Value.ownBlock (.slice (some ⟨g, 0, none⟩) (q + m) cap) = some g' → N ≤ g') := by
  rcases hgr with ⟨e, hg⟩ | ⟨e, hg⟩
  · obtain ⟨rfl, rfl⟩ : al = some ⟨g, 0, none⟩ ∧ cl = cap := by simpa using e
    have c5 : OfType wr 3 g := by
      obtain ⟨cur, hh⟩ := own_type hv rfl
      exact ⟨cur, _, hh⟩
    have c1 : g ≠ p := not_book h.book hv (by decide) rfl
    have c3 : base ≤ g := (hv.lt g rfl).1
    rcases hblk with ⟨b1, b2⟩ | hN
    · have hxg : x.cell.ownBlock = some g := by rw [IL.cell, ← b1]; rfl
      have c2 : OfType w 3 g := by
        obtain ⟨cur, hh⟩ := own_type (hw.each k x hx) hxg
        exact ⟨cur, _, hh⟩
      refine ⟨h.grown hp hg c1 (.inl c2) c3 (fun i y hy => ?_) c5 (fun i y hy => ?_), .inl ⟨b1, b2⟩⟩
      · by_cases hi : i = k
        · subst hi
          obtain rfl : x = y := by rw [hx] at hy; simpa using hy
          rw [IL.cell, ← b1, ← b2]
          exact owns_head hown (by omega) (by rw [← hys]; simp [vals])
        · exact owns_grown (h.held.each i y hy) hg (fun g' e q => by
            obtain rfl : g = g' := by simpa using q
            exact h.held.apart i k y x hi hy hx g e hxg)
      · intro e
        have hne : i ≠ k := by have := (List.getElem?_eq_some_iff.1 hy).1; omega
        exact ((h.lo i y hy).2.2.2 g e).2 k x hne hx hxg
    · have hNg := hN g rfl
      have hN0 := h.N.1
      refine ⟨h.grown hp hg c1 (.inr (by omega)) c3 (fun i y hy => ?_) c5 (fun i y hy e => ?_), .inr hN⟩
      · exact owns_grown (h.held.each i y hy) hg (fun g' e q => by
          obtain rfl : g = g' := by simpa using q
          have := ((hw.each i y hy).lt g e).2
          omega)
      · have := ((h.lo i y hy).2.2.2 g e).1
        omega
  · refine ⟨h.next hp (below_none hg), .inr (fun g' e' => ?_)⟩
    obtain rfl : g = g' := by simpa [Value.ownBlock] using e'
    exact Nat.le_trans h.N.2 e
/-- One list more stands in what is told. -/
theorem GrowInts.push {w wr w' : World} {base p N g cap : Nat} {L Lo : List IL} {C C0 : Nat → List Int} {vo : Value} {x y : IL} (h : GrowInts w wr base p L C N Lo vo) (hp : base ≤ p) (hw : HeldInts w base p L C0) (hwb : BookB w p) (hx : L[Lo.length]? = some x)
    (hy : wr.ownsRow base 3 1 y.cell y.l.length (vals y.l)) (hm : ∀ i, i = Lo.length → y.l = marksI (i : Int) 0 y.l.length) (hs : y.l.length ≤ 2000) (hblk : (y.a = x.a ∧ y.c = x.c) ∨ ∀ g', y.cell.ownBlock = some g' → N ≤ g')
    (hgr : Grew wr w' vo Lo.length g cap) (hown : w'.ownsRow w.heap.size 22 1 (.slice (some ⟨g, 0, none⟩) (Lo.length + 1) cap) (Lo.length + 1) (Lo.map IL.cell ++ [y.cell])) :
    GrowInts w w' base p L C w'.heap.size (Lo ++ [y]) (.slice (some ⟨g, 0, none⟩) (Lo.length + 1) cap) := by
  have hpl := h.book.lt
  have hsz : wr.heap.size ≤ w'.heap.size := by
    rcases hgr with ⟨_, q⟩ | ⟨_, q⟩ <;> exact q.size
  have hbw : base ≤ w.heap.size := Nat.le_trans hp (Nat.le_of_lt hwb.lt)
  have hrow : ∃ row, wr.grownBy w' row ∧ ∀ g', row = some g' → w.heap.size ≤ g' ∧ OfType wr 22 g' := by
    rcases hgr with ⟨e, q⟩ | ⟨_, q⟩
    · refine ⟨_, q, fun g' e' => ?_⟩
      obtain rfl : g = g' := by simpa using e'
      have hg : vo.ownBlock = some g := by rw [e]; rfl
      obtain ⟨cur, hh⟩ := own_type h.out hg
      exact ⟨(h.out.lt g hg).1, cur, _, hh⟩
    · exact ⟨_, q, fun g' e' => by cases e'⟩
  obtain ⟨row, hg, hr⟩ := hrow
  have nE : ∀ {v m cs}, wr.ownsRow base 3 1 v m cs → ∀ g', v.ownBlock = some g' → row ≠ some g' := fun ho g' e q => not_type ho (show 3 ≠ 22 by decide) e (hr g' q).2
  have hrp : ∀ g', row = some g' → g' ≠ p := fun g' e q => by
    have := (hr g' e).1
    have := hwb.lt
    omega
  have t := h.turn.more hg hpl (fun g' e => ⟨hrp g' e, .inr (hr g' e).1⟩)
  obtain ⟨ao, co, e0, o0⟩ := h.held.ex
  obtain ⟨ao', co', e0', o0'⟩ := hw.ex
  have hbp : w'.heap[p]? = wr.heap[p]? := grown_block hg hpl (fun e => hrp p e rfl)
  have hsame : Value.slice ao L.length co = .slice ao' L.length co' := by
    have := (h.turn.cell 2 id)
    rw [e0, e0'] at this
    simpa using this
  refine ⟨h.below.grown hg (Nat.le_trans hbw h.turn.size) (fun k hk => Nat.le_trans hbw (hr k hk).1), t, book_of_block hbp h.book, ⟨⟨ao, co, (World.cell?_of_block (w := wr) (a := ⟨p, 2, none⟩) hbp).trans e0, owns_grown o0 hg (fun g' e q => ?_)⟩, fun i z hz => owns_grown (h.held.each i z hz) hg (nE (h.held.each i z hz)), h.held.apart, h.held.small⟩, ?_, fun i z hz => ?_, ⟨Nat.le_trans h.turn.size hsz, Nat.le_refl _⟩⟩
  · rw [hsame] at e
    have := (o0'.lt g' e).2
    have := (hr g' q).1
    omega
  · simpa using hown
  · rcases Nat.lt_or_ge i Lo.length with e | e
    · rw [List.getElem?_append_left e] at hz
      obtain ⟨z1, z2, z3, z4⟩ := h.lo i z hz
      exact ⟨owns_grown z1 hg (nE z1), z2, z3, fun g' hg' => ⟨Nat.lt_of_lt_of_le (z1.lt g' hg').2 hsz, (z4 g' hg').2⟩⟩
    · rw [List.getElem?_append_right e] at hz
      have hi : i = Lo.length := by have := (List.getElem?_eq_some_iff.1 hz).1; simp at this; omega
      subst hi
      obtain rfl : y = z := by simpa using hz
      refine ⟨owns_grown hy hg (nE hy), hm _ rfl, hs, fun g' hg' => ⟨Nat.lt_of_lt_of_le (hy.lt g' hg').2 hsz, fun j u hj hu hug => ?_⟩⟩
      rcases hblk with ⟨b1, b2⟩ | hN
      · have hxg : x.cell.ownBlock = some g' := by
          rw [IL.cell, ← b1]
          rw [IL.cell] at hg'
          cases hya : y.a with
          | none => rw [hya] at hg'; cases hg'
          | some b => rw [hya] at hg'; exact hg'
        exact hw.apart Lo.length j x u hj hx hu g' hxg hug
      · have h1 := hN g' hg'
        have h2 := ((hw.each j u hu).lt g' hug).2
        have h3 := h.N.1
        omega
end Go.Proofs.Ytgmjphekfhiapaa.Bk
