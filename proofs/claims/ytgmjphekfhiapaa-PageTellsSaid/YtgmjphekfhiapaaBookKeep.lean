/- The book: a list is kept: what may turn, and what stays. -/
import Derived.Test.YtgmjphekfhiapaaBookStill
import Derived.Test.YtgmjphekfhiapaaBookStore
namespace Go.Proofs.Ytgmjphekfhiapaa.Bk
open Go.RowKit

/-- The book's own block. -/
def BookB (w : World) (p : Nat) : Prop := ∃ cs : Array Value, w.heap[p]? = some (.cells cs 33 (0, 0)) ∧ cs.size = 12
theorem BookB.lt {w : World} {p : Nat} (h : BookB w p) : p < w.heap.size := by
  obtain ⟨cs, hb, _⟩ := h
  rcases Nat.lt_or_ge p w.heap.size with q | q
  · exact q
  · simp [Array.getElem?_eq_none q] at hb
theorem BookB.frozen {w : World} {p : Nat} (h : BookB w p) (j : Nat) : w.frozen? ⟨p, j, none⟩ = false := by
  obtain ⟨cs, hb, _⟩ := h
  simp [World.frozen?, hb]
/-- What a step leaves: of the blocks that were there only p and those that R names may have turned; of p's cells only those that J names. -/
structure Turn (w w' : World) (p : Nat) (J R : Nat → Prop) : Prop where
  size : w.heap.size ≤ w'.heap.size
  block : ∀ g, g < w.heap.size → g ≠ p → ¬ R g → w'.heap[g]? = w.heap[g]?
  cell : ∀ j, ¬ J j → w'.cell? ⟨p, j, none⟩ = w.cell? ⟨p, j, none⟩
  book : BookB w p → BookB w' p
theorem Turn.refl (w : World) (p : Nat) (J R : Nat → Prop) : Turn w w p J R := ⟨Nat.le_refl _, fun _ _ _ _ => rfl, fun _ _ => rfl, id⟩
theorem Turn.trans {w w1 w2 : World} {p : Nat} {J R : Nat → Prop} (h : Turn w w1 p J R) (k : Turn w1 w2 p J R) : Turn w w2 p J R :=
  ⟨Nat.le_trans h.size k.size, fun g hg hp hr => (k.block g (Nat.lt_of_lt_of_le hg h.size) hp hr).trans (h.block g hg hp hr), fun j hj => (k.cell j hj).trans (h.cell j hj), fun q => k.book (h.book q)⟩
theorem Turn.mono {w w' : World} {p : Nat} {J R J' R' : Nat → Prop} (h : Turn w w' p J R) (hJ : ∀ j, J j → J' j) (hR : ∀ g, g < w.heap.size → R g → R' g) : Turn w w' p J' R' :=
  ⟨h.size, fun g hg hp hr => h.block g hg hp (fun q => hr (hR g hg q)), fun j hj => h.cell j (fun q => hj (hJ j q)), h.book⟩
theorem book_of_block {w w' : World} {p : Nat} (hb : w'.heap[p]? = w.heap[p]?) (h : BookB w p) : BookB w' p := by
  obtain ⟨cs, h1, h2⟩ := h
  exact ⟨cs, by rw [hb]; exact h1, h2⟩
theorem Turn.of_below {w w' : World} {p : Nat} {J R : Nat → Prop} (h : Below w.heap.size w w') (hp : p < w.heap.size) : Turn w w' p J R :=
  ⟨h.size, fun g hg _ _ => h.block g hg, fun j _ => World.cell?_of_block (w := w) (a := ⟨p, j, none⟩) (h.block p hp), fun q => book_of_block (h.block p hp) q⟩
theorem Turn.grown {w w' : World} {p : Nat} {J R : Nat → Prop} {row : Option Nat} (h : w.grownBy w' row) (hp : p < w.heap.size) (hr : ∀ g, row = some g → g ≠ p ∧ R g) : Turn w w' p J R := by
  have hb : w'.heap[p]? = w.heap[p]? := h.block p hp (fun e => (hr p e.symm).1 rfl)
  exact ⟨h.size, fun g hg _ hn => h.block g hg (fun e => hn (hr g e.symm).2), fun j _ => World.cell?_of_block (w := w) (a := ⟨p, j, none⟩) hb, fun q => book_of_block hb q⟩
theorem Turn.set {w : World} {p : Nat} {J R : Nat → Prop} (j : Nat) (v : Value) (hJ : J j) : Turn w (w.setCell ⟨p, j, none⟩ v) p J R := by
  refine ⟨by simp, fun g _ hg _ => heap_setCell_other _ _ _ _ hg, fun i hi => ?_, fun q => ?_⟩
  · rw [World.cell?_setCell_other]
    intro e
    have : j = i := by simpa using e
    exact hi (this ▸ hJ)
  · obtain ⟨cs, h1, h2⟩ := q
    exact ⟨_, heap_setCell_same w p j cs _ v h1, by simpa using h2⟩
theorem own_type {w : World} {base : Nat} {e : TypeId} {k : Nat} {v : Value} {m : Nat} {cs : List Value} (h : w.ownsRow base e k v m cs) {g : Nat} (hg : v.ownBlock = some g) : ∃ cur, w.heap[g]? = some (.cells cur e (0, 0)) := by
  rcases h.2 with ⟨q, _⟩ | ⟨g', cap, cur, hv, _, hh, _⟩
  · rw [q] at hg; cases hg
  · rw [hv] at hg
    obtain rfl : g' = g := by simpa [Value.ownBlock] using hg
    exact ⟨cur, hh⟩
theorem owns_turn {w w' : World} {p base : Nat} {J R : Nat → Prop} {e : TypeId} {k : Nat} {v : Value} {m : Nat} {cs : List Value} (h : w.ownsRow base e k v m cs) (t : Turn w w' p J R) (hn : ∀ g, v.ownBlock = some g → g ≠ p ∧ ¬ R g) : w'.ownsRow base e k v m cs := by
  have hlt := h.lt
  refine ⟨h.1, ?_⟩
  rcases h.2 with q | ⟨g, cap, cur, hv, hg, hh, r⟩
  · exact .inl q
  · have hb : v.ownBlock = some g := by rw [hv]; rfl
    exact .inr ⟨g, cap, cur, hv, hg, by rw [t.block g (hlt g hb).2 (hn g hb).1 (hn g hb).2]; exact hh, r⟩
/-- Blocks of a type. -/
def OfType (w : World) (T : TypeId) (g : Nat) : Prop := ∃ cs fr, w.heap[g]? = some (.cells cs T fr)
theorem not_type {w : World} {base : Nat} {e T : TypeId} {k : Nat} {v : Value} {m : Nat} {cs : List Value} (h : w.ownsRow base e k v m cs) (hne : e ≠ T) {g : Nat} (hg : v.ownBlock = some g) : ¬ OfType w T g := by
  rintro ⟨cs', fr, q⟩
  obtain ⟨cur, hh⟩ := own_type h hg
  rw [hh] at q
  simp only [Option.some.injEq, Obj.cells.injEq] at q
  exact hne q.2.1
theorem not_book {w : World} {base p : Nat} {e : TypeId} {k : Nat} {v : Value} {m : Nat} {cs : List Value} (hb : BookB w p) (h : w.ownsRow base e k v m cs) (hne : e ≠ 33) {g : Nat} (hg : v.ownBlock = some g) : g ≠ p := by
  rintro rfl
  obtain ⟨cs', q, _⟩ := hb
  exact not_type h hne hg ⟨cs', _, q⟩
/-- A row of another type stays. -/
theorem owns_typed {w w' : World} {p base : Nat} {J : Nat → Prop} {e T : TypeId} {k : Nat} {v : Value} {m : Nat} {cs : List Value} (h : w.ownsRow base e k v m cs) (hb : BookB w p) (t : Turn w w' p J (OfType w T)) (h1 : e ≠ T) (h2 : e ≠ 33) : w'.ownsRow base e k v m cs :=
  owns_turn h t (fun _ hg => ⟨not_book hb h h2 hg, not_type h h1 hg⟩)
theorem type_turn {w w' : World} {p : Nat} {J : Nat → Prop} {R : Nat → Prop} {T : TypeId} (t : Turn w w' p J R) {g : Nat} (hg : g < w.heap.size) (hp : g ≠ p) (hr : ¬ R g) : OfType w' T g ↔ OfType w T g := by
  unfold OfType
  rw [t.block g hg hp hr]

set_option maxHeartbeats 400000 in
theorem copyInts_is (a : Option Addr) (l : List Int) (c : Nat) (w : World) (h : LiesAt w a (vals l)) (hl : l.length < 2 ^ 40) :
    Calls Try.prog 19 #[.slice a l.length c] w fun e w' => ∃ v, e = .returned v ∧ Below w.heap.size w w' ∧ w'.ownsRow w.heap.size 3 1 v l.length (vals l) := by
  obtain ⟨i0, hi, hz0, hz1, hz2⟩ := info_parts intInfo
  have HI := Lib.hid (And.intro hi (And.intro hz0 (And.intro hz1 hz2)))
  clear hi hz0 hz1 hz2
  have H := Lib.hid h
  clear h
  go_enter Try.func19, Try.ntmps19
  go_wp2_with (refine wpList_append_copy rfl (.tmp 3) 22 rfl 3 i0 _ 1 8 Try.underlying22 HI.out.1 HI.out.2.1 HI.out.2.2.1 HI.out.2.2.2 rfl (by omega) (by omega) a l.length c (vals l) rfl (fun j u hu => by obtain ⟨b, q1, _, q3⟩ := H.out j u hu; exact ⟨b, q1, q3⟩) (by simp [vals]) vals_one hl ?_
               intro v w1 b1 o1
               have HX := Lib.hid (And.intro b1 o1)
               clear b1 o1)
  go_ret
  exact ⟨_, rfl, HX.out.1, HX.out.2⟩
end Go.Proofs.Ytgmjphekfhiapaa.Bk
