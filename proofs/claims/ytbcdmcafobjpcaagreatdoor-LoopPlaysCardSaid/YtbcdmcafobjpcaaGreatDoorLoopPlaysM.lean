-- BookBase BookGen BookWMark BookWMarked BookWAdd BookWPut BookWGrow BookWFin BookNil BookApartC LoopBook SecAlive SecOrder SecClone SecArm LoopDiskB BookWLent LoopPl LoopFine EntryOpen EntryOpenL BookOpen LoopOpen LoopNil
import Derived.Test.YtbcdmcafobjpcaaGreatDoorBookSameI
import Derived.Test.YtbcdmcafobjpcaaGreatDoorWideGrow
import Derived.Test.YtbcdmcafobjpcaaGreatDoorWideSame
import Derived.OwnWalk
import Derived.Deep.RegionHeld3
import Derived.Test.YtbcdmcafobjpcaaGreatDoorSecAt
import Derived.Test.YtbcdmcafobjpcaaGreatDoorLoopDisk
import Derived.Test.YtbcdmcafobjpcaaGreatDoorLoopFall
import Derived.Test.YtbcdmcafobjpcaaGreatDoorSealRPut
import Derived.Test.YtbcdmcafobjpcaaGreatDoorWide
import Derived.ChangeArms
import Derived.ChangeMaps5
import Derived.OpenShut
import Derived.Deep.Slices
import Derived.Test.YtbcdmcafobjpcaaGreatDoorLaw
import Derived.SliceStrings
import Derived.Test.YtbcdmcafobjpcaaGreatDoorLoopApp
-- BookBase
/- The book: owned rows: what stays; a store into one. Plain: no call of the program, and no type of the book. -/
namespace Go.Proofs.YtbcdmcafobjpcaaGreatDoor.Bk
open Go.RowKit

theorem own_below {w w' : World} {base : Nat} {e : TypeId} {k : Nat} {v : Value} {n : Nat} {xs : List Value} (h : w.ownsRow base e k v n xs) (b : Below w.heap.size w w') : w'.ownsRow base e k v n xs :=
  h.kept (row := none) ⟨b.os, b.tape, b.output, b.size, fun k hk _ => b.block k hk⟩ (by cases hv : v.ownBlock <;> simp)
theorem owns_set {w : World} {base : Nat} {e : TypeId} {g n c : Nat} {xs : List Value} (h : w.ownsRow base e 1 (.slice (some ⟨g, 0, none⟩) n c) n xs) (k : Nat) (x : Value) : (w.setCell ⟨g, k, none⟩ x).ownsRow base e 1 (.slice (some ⟨g, 0, none⟩) n c) n (xs.set k x) := by
  refine ⟨by rw [List.length_set]; exact h.1, ?_⟩
  rcases h.2 with ⟨q, _⟩ | ⟨g', cap', cur, hv, hg, hh, h1, h2, h3, h4⟩
  · cases q
  · obtain ⟨rfl, rfl⟩ : g = g' ∧ c = cap' := by simpa using hv
    refine .inr ⟨g, c, cur.setIfInBounds k x, rfl, hg, ?_, h1, h2, by rw [Array.size_setIfInBounds]; exact h3, ?_⟩
    · have := heap_setCell_same w g k cur e x hh
      simpa using this
    · rw [Array.toList_setIfInBounds, ← h4, ← List.take_set]
theorem owns_cell {w : World} {base : Nat} {e : TypeId} {g n c : Nat} {xs : List Value} (h : w.ownsRow base e 1 (.slice (some ⟨g, 0, none⟩) n c) n xs) {k : Nat} {x : Value} (hk : xs[k]? = some x) : w.cell? ⟨g, k, none⟩ = some x ∧ w.frozen? ⟨g, k, none⟩ = false := by
  have hlt : k < n * 1 := by rw [← h.1]; exact (List.getElem?_eq_some_iff.1 hk).1
  refine ⟨by rw [h.cellAt k hlt, hk], ?_⟩
  rcases h.2 with ⟨q, _⟩ | ⟨g', cap', cur, hv, _, hh, _⟩
  · cases q
  · obtain ⟨rfl, rfl⟩ : g = g' ∧ c = cap' := by simpa using hv
    simp [World.frozen?, hh]
theorem owns_other {w : World} {base : Nat} {e : TypeId} {k : Nat} {v : Value} {m : Nat} {cs : List Value} (h : w.ownsRow base e k v m cs) {a : Addr} (hne : v.ownBlock ≠ some a.block) (x : Value) : (w.setCell a x).ownsRow base e k v m cs := by
  refine ⟨h.1, ?_⟩
  rcases h.2 with q | ⟨g, cap, cur, hv, hg, hh, r⟩
  · exact .inl q
  · refine .inr ⟨g, cap, cur, hv, hg, ?_, r⟩
    rw [heap_setCell_other _ _ _ _ (fun q => hne (by rw [hv, ← q]; rfl))]
    exact hh
theorem lies_other {w : World} {a : Option Addr} {cs : List Value} (h : LiesAt w a cs) {q : Addr} (hne : ∀ b : Addr, a = some b → b.block ≠ q.block) (x : Value) : LiesAt (w.setCell q x) a cs :=
  h.of_blocks (by simp) (fun b hb => heap_setCell_other _ _ _ _ (hne b hb))
theorem own_type {w : World} {base : Nat} {e : TypeId} {k : Nat} {v : Value} {m : Nat} {cs : List Value} (h : w.ownsRow base e k v m cs) {g : Nat} (hg : v.ownBlock = some g) : ∃ cur, w.heap[g]? = some (.cells cur e (0, 0)) := by
  rcases h.2 with ⟨q, _⟩ | ⟨g', cap, cur, hv, _, hh, _⟩
  · rw [q] at hg; cases hg
  · rw [hv] at hg
    obtain rfl : g' = g := by simpa [Value.ownBlock] using hg
    exact ⟨cur, hh⟩
/-- Blocks of a type. -/
def OfType (w : World) (T : TypeId) (g : Nat) : Prop := ∃ cs fr, w.heap[g]? = some (.cells cs T fr)
theorem not_type {w : World} {base : Nat} {e T : TypeId} {k : Nat} {v : Value} {m : Nat} {cs : List Value} (h : w.ownsRow base e k v m cs) (hne : e ≠ T) {g : Nat} (hg : v.ownBlock = some g) : ¬ OfType w T g := by
  rintro ⟨cs', fr, q⟩
  obtain ⟨cur, hh⟩ := own_type h hg
  rw [hh] at q
  simp only [Option.some.injEq, Obj.cells.injEq] at q
  exact hne q.2.1
theorem grown_block {w w' : World} {row : Option Nat} (h : w.grownBy w' row) {g : Nat} (hg : g < w.heap.size) (hn : row ≠ some g) : w'.heap[g]? = w.heap[g]? := h.block g hg (fun e => hn e.symm)
theorem owns_slice {w : World} {base : Nat} {e : TypeId} {k : Nat} {v : Value} {n : Nat} {xs : List Value} (h : w.ownsRow base e k v n xs) : ∃ a c, v = .slice a n c := by
  rcases h.2 with ⟨q, q2⟩ | ⟨g, cap, cur, hv, _⟩
  · exact ⟨none, 0, by rw [q, q2]⟩
  · exact ⟨_, _, hv⟩
theorem owns_base {w : World} {b b' : Nat} {e : TypeId} {k : Nat} {v : Value} {m : Nat} {cs : List Value} (hb : b ≤ b') (h : w.ownsRow b' e k v m cs) : w.ownsRow b e k v m cs := by
  refine ⟨h.1, ?_⟩
  rcases h.2 with q | ⟨g, cap, cur, hv, hg, r⟩
  · exact .inl q
  · exact .inr ⟨g, cap, cur, hv, Nat.le_trans hb hg, r⟩
theorem take_set_next {α : Type} {l m : List α} {k : Nat} {x : α} (h : l.take k = m.take k) (hl : k < l.length) (hm : m[k]? = some x) : (l.set k x).take (k + 1) = m.take (k + 1) := by
  obtain ⟨hk, rfl⟩ := List.getElem?_eq_some_iff.1 hm
  rw [List.take_succ_eq_append_getElem (by simpa using hl), List.take_succ_eq_append_getElem hk]
  simp [List.take_set_of_le, h]
theorem own_blk {w : World} {base : Nat} {e : TypeId} {v : Value} {n : Nat} {xs : List Value} (h : w.ownsRow base e 1 v n xs) (hn : 0 < n) : ∃ (g c : Nat), v = .slice (some ⟨g, 0, none⟩) n c ∧ n ≤ c ∧ base ≤ g ∧ g < w.heap.size := by
  rcases h.2 with ⟨_, q⟩ | ⟨g, cap, cur, hv, hg, hh, hc, r⟩
  · omega
  · exact ⟨g, cap, hv, hc, hg, (h.lt g (by rw [hv]; rfl)).2⟩
theorem owns_grown {w w' : World} {row : Option Nat} {base : Nat} {e : TypeId} {k : Nat} {v : Value} {m : Nat} {cs : List Value} (h : w.ownsRow base e k v m cs) (hg : w.grownBy w' row) (hn : ∀ g, v.ownBlock = some g → row ≠ some g) : w'.ownsRow base e k v m cs := by
  have hlt := h.lt
  refine ⟨h.1, ?_⟩
  rcases h.2 with q | ⟨g, cap, cur, hv, hb, hh, r⟩
  · exact .inl q
  · have hb' : v.ownBlock = some g := by rw [hv]; rfl
    exact .inr ⟨g, cap, cur, hv, hb, by rw [grown_block hg (hlt g hb').2 (hn g hb')]; exact hh, r⟩
theorem below_none {w w' : World} (h : w.grownBy w' none) : Below w.heap.size w w' := ⟨h.os, h.tape, h.output, h.size, fun k hk => h.block k hk (fun q => by cases q)⟩
end Go.Proofs.YtbcdmcafobjpcaaGreatDoor.Bk
-- BookGen
/- The book: what a step may turn, and what stays; a store into an owned row; small laws on rows. Plain: no call of the program. -/
namespace Go.Proofs.YtbcdmcafobjpcaaGreatDoor.Bk
open Go.RowKit

/-- The book's own block. -/
def BookB (w : World) (p : Nat) : Prop := ∃ cs : Array Value, w.heap[p]? = some (.cells cs 37 (0, 0)) ∧ cs.size = 12
theorem BookB.lt {w : World} {p : Nat} (h : BookB w p) : p < w.heap.size := by
  obtain ⟨cs, hb, _⟩ := h
  rcases Nat.lt_or_ge p w.heap.size with q | q
  · exact q
  · simp [Array.getElem?_eq_none q] at hb
theorem BookB.frozen {w : World} {p : Nat} (h : BookB w p) (j : Nat) : w.frozen? ⟨p, j, none⟩ = false := by
  obtain ⟨cs, hb, _⟩ := h
  simp [World.frozen?, hb]
/-- What a step leaves: of the blocks that were there only p and those that R names may have turned; of p's cells only those that J names. -/
structure Turn (w w' : World) (p : Nat) (J R : Nat → Prop) : Prop where
  size : w.heap.size ≤ w'.heap.size
  block : ∀ g, g < w.heap.size → g ≠ p → ¬ R g → w'.heap[g]? = w.heap[g]?
  cell : ∀ j, ¬ J j → w'.cell? ⟨p, j, none⟩ = w.cell? ⟨p, j, none⟩
  book : BookB w p → BookB w' p
theorem Turn.refl (w : World) (p : Nat) (J R : Nat → Prop) : Turn w w p J R := ⟨Nat.le_refl _, fun _ _ _ _ => rfl, fun _ _ => rfl, id⟩
theorem Turn.trans {w w1 w2 : World} {p : Nat} {J R : Nat → Prop} (h : Turn w w1 p J R) (k : Turn w1 w2 p J R) : Turn w w2 p J R :=
  ⟨Nat.le_trans h.size k.size, fun g hg hp hr => (k.block g (Nat.lt_of_lt_of_le hg h.size) hp hr).trans (h.block g hg hp hr), fun j hj => (k.cell j hj).trans (h.cell j hj), fun q => k.book (h.book q)⟩
theorem Turn.mono {w w' : World} {p : Nat} {J R J' R' : Nat → Prop} (h : Turn w w' p J R) (hJ : ∀ j, J j → J' j) (hR : ∀ g, g < w.heap.size → R g → R' g) : Turn w w' p J' R' :=
  ⟨h.size, fun g hg hp hr => h.block g hg hp (fun q => hr (hR g hg q)), fun j hj => h.cell j (fun q => hj (hJ j q)), h.book⟩
theorem book_of_block {w w' : World} {p : Nat} (hb : w'.heap[p]? = w.heap[p]?) (h : BookB w p) : BookB w' p := by
  obtain ⟨cs, h1, h2⟩ := h
  exact ⟨cs, by rw [hb]; exact h1, h2⟩
theorem Turn.of_below {w w' : World} {p : Nat} {J R : Nat → Prop} (h : Below w.heap.size w w') (hp : p < w.heap.size) : Turn w w' p J R :=
  ⟨h.size, fun g hg _ _ => h.block g hg, fun j _ => World.cell?_of_block (w := w) (a := ⟨p, j, none⟩) (h.block p hp), fun q => book_of_block (h.block p hp) q⟩
theorem Turn.grown {w w' : World} {p : Nat} {J R : Nat → Prop} {row : Option Nat} (h : w.grownBy w' row) (hp : p < w.heap.size) (hr : ∀ g, row = some g → g ≠ p ∧ R g) : Turn w w' p J R := by
  have hb : w'.heap[p]? = w.heap[p]? := h.block p hp (fun e => (hr p e.symm).1 rfl)
  exact ⟨h.size, fun g hg _ hn => h.block g hg (fun e => hn (hr g e.symm).2), fun j _ => World.cell?_of_block (w := w) (a := ⟨p, j, none⟩) hb, fun q => book_of_block hb q⟩
theorem Turn.set {w : World} {p : Nat} {J R : Nat → Prop} (j : Nat) (v : Value) (hJ : J j) : Turn w (w.setCell ⟨p, j, none⟩ v) p J R := by
  refine ⟨by simp, fun g _ hg _ => heap_setCell_other _ _ _ _ hg, fun i hi => ?_, fun q => ?_⟩
  · rw [World.cell?_setCell_other]
    intro e
    have : j = i := by simpa using e
    exact hi (this ▸ hJ)
  · obtain ⟨cs, h1, h2⟩ := q
    exact ⟨_, heap_setCell_same w p j cs _ v h1, by simpa using h2⟩
theorem owns_turn {w w' : World} {p base : Nat} {J R : Nat → Prop} {e : TypeId} {k : Nat} {v : Value} {m : Nat} {cs : List Value} (h : w.ownsRow base e k v m cs) (t : Turn w w' p J R) (hn : ∀ g, v.ownBlock = some g → g ≠ p ∧ ¬ R g) : w'.ownsRow base e k v m cs := by
  have hlt := h.lt
  refine ⟨h.1, ?_⟩
  rcases h.2 with q | ⟨g, cap, cur, hv, hg, hh, r⟩
  · exact .inl q
  · have hb : v.ownBlock = some g := by rw [hv]; rfl
    exact .inr ⟨g, cap, cur, hv, hg, by rw [t.block g (hlt g hb).2 (hn g hb).1 (hn g hb).2]; exact hh, r⟩
theorem not_book {w : World} {base p : Nat} {e : TypeId} {k : Nat} {v : Value} {m : Nat} {cs : List Value} (hb : BookB w p) (h : w.ownsRow base e k v m cs) (hne : e ≠ 37) {g : Nat} (hg : v.ownBlock = some g) : g ≠ p := by
  rintro rfl
  obtain ⟨cs', q, _⟩ := hb
  exact not_type h hne hg ⟨cs', _, q⟩
/-- A row of another type stays. -/
theorem owns_typed {w w' : World} {p base : Nat} {J : Nat → Prop} {e T : TypeId} {k : Nat} {v : Value} {m : Nat} {cs : List Value} (h : w.ownsRow base e k v m cs) (hb : BookB w p) (t : Turn w w' p J (OfType w T)) (h1 : e ≠ T) (h2 : e ≠ 37) : w'.ownsRow base e k v m cs :=
  owns_turn h t (fun _ hg => ⟨not_book hb h h2 hg, not_type h h1 hg⟩)
theorem type_turn {w w' : World} {p : Nat} {J : Nat → Prop} {R : Nat → Prop} {T : TypeId} (t : Turn w w' p J R) {g : Nat} (hg : g < w.heap.size) (hp : g ≠ p) (hr : ¬ R g) : OfType w' T g ↔ OfType w T g := by
  unfold OfType
  rw [t.block g hg hp hr]
/-- One element more behind a row, and the row's new slice into the book's field. -/
theorem pushed {w u w4 : World} {base p j g cap n : Nat} {O : TypeId} {v c : Value} {xs : List Value} {J : Nat → Prop} (hb : BookB w p) (hp : base ≤ p) (hu : Below w.heap.size w u) (ho : w.ownsRow base O 1 v n xs)
    (hown : w4.ownsRow base O 1 (.slice (some ⟨g, 0, none⟩) (n + 1) cap) (n + 1) (xs ++ [c])) (hgr : u.grownBy w4 v.ownBlock) (hat : v.ownBlock = some g ∨ g = u.heap.size) (hO : O ≠ 37) (hJ : J j) {old : Value} (hd : w4.cell? ⟨p, j, none⟩ = some old) :
    Below base w (w4.setCell ⟨p, j, none⟩ (.slice (some ⟨g, 0, none⟩) (n + 1) cap)) ∧ Turn w (w4.setCell ⟨p, j, none⟩ (.slice (some ⟨g, 0, none⟩) (n + 1) cap)) p J (fun i => v.ownBlock = some i) ∧
    Turn u (w4.setCell ⟨p, j, none⟩ (.slice (some ⟨g, 0, none⟩) (n + 1) cap)) p J (fun i => v.ownBlock = some i) ∧
    (w4.setCell ⟨p, j, none⟩ (.slice (some ⟨g, 0, none⟩) (n + 1) cap)).ownsRow base O 1 (.slice (some ⟨g, 0, none⟩) (n + 1) cap) (n + 1) (xs ++ [c]) ∧
    (w4.setCell ⟨p, j, none⟩ (.slice (some ⟨g, 0, none⟩) (n + 1) cap)).cell? ⟨p, j, none⟩ = some (.slice (some ⟨g, 0, none⟩) (n + 1) cap) ∧ (v.ownBlock = some g ∨ w.heap.size ≤ g) ∧ g ≠ p := by
  have hpl := hb.lt
  have hpu : p < u.heap.size := Nat.lt_of_lt_of_le hpl hu.size
  have t2 : Turn u w4 p J (fun i => v.ownBlock = some i) := Turn.grown hgr hpu (fun i hi => ⟨not_book hb ho hO hi, hi⟩)
  have t3 : Turn w4 (w4.setCell ⟨p, j, none⟩ (.slice (some ⟨g, 0, none⟩) (n + 1) cap)) p J (fun i => v.ownBlock = some i) := Turn.set j _ hJ
  have t1 : Turn w u p J (fun i => v.ownBlock = some i) := Turn.of_below hu hpl
  have hb4 := t2.book (t1.book hb)
  have hgp : g ≠ p := not_book hb4 hown hO rfl
  refine ⟨((hu.mono (Nat.le_trans hp (Nat.le_of_lt hpl))).grown hgr (by have := hu.size; omega) (fun k hk => (ho.lt k hk).1)).setCell (p := ⟨p, j, none⟩) hp _, (t1.trans t2).trans t3, t2.trans t3, owns_other hown (fun e => hgp (by simpa [Value.ownBlock] using e)) _, by rw [World.cell?_setCell_same _ _ _ hd], ?_, hgp⟩
  rcases hat with q | q
  · exact .inl q
  · exact .inr (by rw [q]; exact hu.size)
theorem Turn.store {w : World} {p g j : Nat} {J R : Nat → Prop} (v : Value) (hb : BookB w p) (hg : g ≠ p) (hr : R g) : Turn w (w.setCell ⟨g, j, none⟩ v) p J R := by
  refine ⟨by simp, fun i _ _ hn => heap_setCell_other _ _ _ _ (fun e => hn (by rw [show i = g from e]; exact hr)), fun i _ => ?_, fun _ => book_of_block (heap_setCell_other _ _ _ _ (fun e => hg e.symm)) hb⟩
  rw [World.cell?_setCell_other]
  intro e
  exact hg (by simpa using congrArg Addr.block e)
theorem Turn.more {w wr w' : World} {p : Nat} {J R : Nat → Prop} {row : Option Nat} (t : Turn w wr p J R) (h : wr.grownBy w' row) (hp : p < wr.heap.size) (hr : ∀ g, row = some g → g ≠ p ∧ (R g ∨ w.heap.size ≤ g)) : Turn w w' p J R := by
  have hb : w'.heap[p]? = wr.heap[p]? := h.block p hp (fun e => (hr p e.symm).1 rfl)
  refine ⟨Nat.le_trans t.size h.size, fun g hg hgp hn => ?_, fun j hj => (World.cell?_of_block (w := wr) (a := ⟨p, j, none⟩) hb).trans (t.cell j hj), fun q => book_of_block hb (t.book q)⟩
  rw [h.block g (Nat.lt_of_lt_of_le hg t.size) (fun e => by
    rcases (hr g e.symm).2 with q | q
    · exact hn q
    · omega)]
  exact t.block g hg hgp hn
end Go.Proofs.YtbcdmcafobjpcaaGreatDoor.Bk
-- BookWMark
/- The book: lists of structs: copies, and marks. -/
namespace Go.Proofs.YtbcdmcafobjpcaaGreatDoor.Bk
open Go.RowKit

/-- The i-th list's mark at place k. -/
def markC (i k : Int) : Int := -1000 * i - k - 1

def Chg.mark (v : Int) : Chg := ⟨v, 0⟩
theorem Chg.mark_cells (v : Int) : (Chg.mark v).cells = [.int .i64 v, .int .i64 0] := rfl
def marksChanges (i : Int) (f n : Nat) : List Chg := (List.range n).map fun k => Chg.mark (markC i ((f + k : Nat) : Int))
theorem marksChanges_len (i : Int) (f n : Nat) : (marksChanges i f n).length = n := by simp [marksChanges]
theorem marksChanges_snoc (i : Int) (f n : Nat) : marksChanges i f (n + 1) = marksChanges i f n ++ [Chg.mark (markC i ((f + n : Nat) : Int))] := by simp [marksChanges, List.range_succ]
theorem marksChanges_add (i : Int) (n m : Nat) : marksChanges i 0 (n + m) = marksChanges i 0 n ++ marksChanges i n m := by
  induction m with
  | zero => rw [Nat.add_zero, show marksChanges i n 0 = [] from rfl, List.append_nil]
  | succ m ih => rw [← Nat.add_assoc, marksChanges_snoc, ih, marksChanges_snoc, List.append_assoc, Nat.zero_add]
theorem marksChanges_take (i : Int) (n m : Nat) : (marksChanges i 0 (n + m)).take n = marksChanges i 0 n := by
  rw [marksChanges_add, List.take_left' (marksChanges_len _ _ _)]

set_option maxHeartbeats 400000 in
theorem copyChanges_is (a : Option Addr) (l : List Chg) (c : Nat) (w : World) (h : LiesAt w a (flat Chg.cells l)) (hl : l.length < 2 ^ 40) :
    Calls Tryz.prog 24 #[.slice a l.length c] w fun e w' => ∃ v, e = .returned v ∧ Below w.heap.size w w' ∧ w'.ownsRow w.heap.size 55 2 v l.length (flat Chg.cells l) := by
  obtain ⟨i0, hi, hz0, hz1, hz2⟩ := info_parts chgInfo
  have HI := Lib.hid (And.intro hi (And.intro hz0 (And.intro hz1 hz2)))
  clear hi hz0 hz1 hz2
  have H := Lib.hid h
  clear h
  go_enter Tryz.func24, Tryz.ntmps24
  go_wp2_with (refine wpList_append_copy rfl (.tmp 3) 28 rfl 55 i0 _ 2 16 Tryz.underlying28 HI.out.1 HI.out.2.1 HI.out.2.2.1 HI.out.2.2.2 rfl (by omega) (by omega) a l.length c (flat Chg.cells l) rfl (fun j u hu => by obtain ⟨b, q1, _, q3⟩ := H.out j u hu; exact ⟨b, q1, q3⟩) (flat_len Chg.len l) (flat_all Chg.one l) hl ?_
               intro v w1 b1 o1
               have HX := Lib.hid (And.intro b1 o1)
               clear b1 o1)
  go_ret
  exact ⟨_, rfl, HX.out.1, HX.out.2⟩

set_option maxRecDepth 100000 in
set_option maxHeartbeats 1000000 in
theorem markChanges_is (i : Int) (f n : Nat) (w : World) (hi0 : 0 ≤ i) (hi1 : i ≤ 1000) (hf : f < 2 ^ 40) (hn : n < 2 ^ 40) :
    Calls Tryz.prog 73 #[.int .i64 i, .int .i64 (f : Int), .int .i64 (n : Int)] w fun e w' => ∃ v, e = .returned v ∧ Below w.heap.size w w' ∧ w'.ownsRow w.heap.size 55 2 v n (flat Chg.cells (marksChanges i f n)) := by
  obtain ⟨i0, hi, hz0, hz1, hz2⟩ := info_parts chgInfo
  have HI := Lib.hid (And.intro hi (And.intro hz0 (And.intro hz1 hz2)))
  clear hi hz0 hz1 hz2
  have HB := Lib.hid (And.intro hf hn)
  have hf0 : (f : Int) ≤ 1099511627776 := by omega
  have hn0 : (n : Int) ≤ 1099511627776 := by omega
  clear hf hn
  go_enter Tryz.func73, Tryz.ntmps73
  go_wp2
  go_loopw [7, 8] (fun v k wr => ∃ j q : Nat, j ≤ n ∧ Hid (q = f + j) ∧ k = .int .i64 (q : Int) ∧ Below w.heap.size w wr ∧ wr.ownsRow w.heap.size 55 2 v j (flat Chg.cells (marksChanges i f j))) (fun _ k _ => f + n - (intOf k).toNat)
  case atStart => exact ⟨0, f, Nat.zero_le _, Lib.hid rfl, rfl, Below.refl _ _, World.ownsRow_nil _ _ _ _⟩
  case round =>
    obtain ⟨j, q, hj, hq, rfl, hb, ho⟩ := hrel
    by_cases hlt : j < n
    · have HR := Lib.hid (And.intro hb ho)
      have hk : (q : Int) < (f : Int) + (n : Int) := by have := hq.out; omega
      have hq0 : (q : Int) ≤ 2199023255552 := by omega
      have hsz := hb.size
      clear hb ho
      go_wp2_with (at_builtin
                   go_loud (refine wpList_append_lies _ rfl (.tmp 17) (.tmp 24) 28 rfl w.heap.size 55 i0 _ 2 16 Tryz.underlying28 HI.out.1 HI.out.2.1 HI.out.2.2.1 HI.out.2.2.2 rfl (by omega) u7 j (flat Chg.cells (marksChanges i f j)) rfl (HR.out.2.alloc _) _ 1 1 [.int .i64 (markC i (q : Int)), .int .i64 0] rfl rfl ?ba7 ?ba8 ?ba9 ?bb1 ?bb2 ?bb3 _ rfl ?bb5)
                   case ba7 => exact World.news_of_block (heap_alloc_last _ _)
                   case ba8 => exact Chg.one (Chg.mark (markC i (q : Int)))
                   case ba9 => omega
                   case bb1 => unfold maxLen; have := HB.out; omega
                   case bb2 => have := HB.out; omega
                   case bb3 => simp; omega
                   intro g cap w4 hown4 hgr4 hat4 hlt4
                   have HX := Lib.hid (And.intro hown4 hgr4)
                   clear hown4 hgr4 hat4 hlt4)
      have e : marksChanges i f (j + 1) = marksChanges i f j ++ [Chg.mark (markC i (q : Int))] := by rw [marksChanges_snoc, ← hq.out]
      refine ⟨⟨j + 1, q + 1, by omega, Lib.hid (by have := hq.out; omega), by go_num, (HR.out.1.alloc hsz _).grown HX.out.2 (by simp; omega) (fun b hb => (HR.out.2.lt b hb).1), ?_⟩, by have := hq.out; simp [intOf]; omega⟩
      rw [e, flat_app, flat_one]
      exact HX.out.1
    · obtain rfl : j = n := by omega
      have HR := Lib.hid (And.intro hb ho)
      have hk : ¬ (q : Int) < (f : Int) + (j : Int) := by have := hq.out; omega
      have hq0 : (q : Int) ≤ 2199023255552 := by have := hq.out; omega
      clear hb ho hlt hj
      go_wp2
      go_ret
      exact ⟨_, rfl, HR.out.1, HR.out.2⟩
def Ent.mark (v : Int) : Ent := ⟨v, 0, 0, 0, 0⟩
theorem Ent.mark_cells (v : Int) : (Ent.mark v).cells = [.int .i64 v, .int .i64 0, .int .i64 0, .int .i64 0, .int .i64 0] := rfl
def marksEntries (i : Int) (f n : Nat) : List Ent := (List.range n).map fun k => Ent.mark (markC i ((f + k : Nat) : Int))
theorem marksEntries_len (i : Int) (f n : Nat) : (marksEntries i f n).length = n := by simp [marksEntries]
theorem marksEntries_snoc (i : Int) (f n : Nat) : marksEntries i f (n + 1) = marksEntries i f n ++ [Ent.mark (markC i ((f + n : Nat) : Int))] := by simp [marksEntries, List.range_succ]
theorem marksEntries_add (i : Int) (n m : Nat) : marksEntries i 0 (n + m) = marksEntries i 0 n ++ marksEntries i n m := by
  induction m with
  | zero => rw [Nat.add_zero, show marksEntries i n 0 = [] from rfl, List.append_nil]
  | succ m ih => rw [← Nat.add_assoc, marksEntries_snoc, ih, marksEntries_snoc, List.append_assoc, Nat.zero_add]
theorem marksEntries_take (i : Int) (n m : Nat) : (marksEntries i 0 (n + m)).take n = marksEntries i 0 n := by
  rw [marksEntries_add, List.take_left' (marksEntries_len _ _ _)]

set_option maxRecDepth 100000 in
set_option maxHeartbeats 1000000 in
theorem markEntries_is (i : Int) (f n : Nat) (w : World) (hi0 : 0 ≤ i) (hi1 : i ≤ 1000) (hf : f < 2 ^ 40) (hn : n < 2 ^ 40) :
    Calls Tryz.prog 74 #[.int .i64 i, .int .i64 (f : Int), .int .i64 (n : Int)] w fun e w' => ∃ v, e = .returned v ∧ Below w.heap.size w w' ∧ w'.ownsRow w.heap.size 101 5 v n (flat Ent.cells (marksEntries i f n)) := by
  obtain ⟨i0, hi, hz0, hz1, hz2⟩ := info_parts entInfo
  have HI := Lib.hid (And.intro hi (And.intro hz0 (And.intro hz1 hz2)))
  clear hi hz0 hz1 hz2
  have HB := Lib.hid (And.intro hf hn)
  have hf0 : (f : Int) ≤ 1099511627776 := by omega
  have hn0 : (n : Int) ≤ 1099511627776 := by omega
  clear hf hn
  go_enter Tryz.func74, Tryz.ntmps74
  go_wp2
  go_loopw [7, 8] (fun v k wr => ∃ j q : Nat, j ≤ n ∧ Hid (q = f + j) ∧ k = .int .i64 (q : Int) ∧ Below w.heap.size w wr ∧ wr.ownsRow w.heap.size 101 5 v j (flat Ent.cells (marksEntries i f j))) (fun _ k _ => f + n - (intOf k).toNat)
  case atStart => exact ⟨0, f, Nat.zero_le _, Lib.hid rfl, rfl, Below.refl _ _, World.ownsRow_nil _ _ _ _⟩
  case round =>
    obtain ⟨j, q, hj, hq, rfl, hb, ho⟩ := hrel
    by_cases hlt : j < n
    · have HR := Lib.hid (And.intro hb ho)
      have hk : (q : Int) < (f : Int) + (n : Int) := by have := hq.out; omega
      have hq0 : (q : Int) ≤ 2199023255552 := by omega
      have hsz := hb.size
      clear hb ho
      go_wp2_with (at_builtin
                   go_loud (refine wpList_append_lies _ rfl (.tmp 17) (.tmp 24) 69 rfl w.heap.size 101 i0 _ 5 40 Tryz.underlying69 HI.out.1 HI.out.2.1 HI.out.2.2.1 HI.out.2.2.2 rfl (by omega) u7 j (flat Ent.cells (marksEntries i f j)) rfl (HR.out.2.alloc _) _ 1 1 [.int .i64 (markC i (q : Int)), .int .i64 0, .int .i64 0, .int .i64 0, .int .i64 0] rfl rfl ?ba7 ?ba8 ?ba9 ?bb1 ?bb2 ?bb3 _ rfl ?bb5)
                   case ba7 => exact World.news_of_block (heap_alloc_last _ _)
                   case ba8 => exact Ent.one (Ent.mark (markC i (q : Int)))
                   case ba9 => omega
                   case bb1 => unfold maxLen; have := HB.out; omega
                   case bb2 => have := HB.out; omega
                   case bb3 => simp; omega
                   intro g cap w4 hown4 hgr4 hat4 hlt4
                   have HX := Lib.hid (And.intro hown4 hgr4)
                   clear hown4 hgr4 hat4 hlt4)
      have e : marksEntries i f (j + 1) = marksEntries i f j ++ [Ent.mark (markC i (q : Int))] := by rw [marksEntries_snoc, ← hq.out]
      refine ⟨⟨j + 1, q + 1, by omega, Lib.hid (by have := hq.out; omega), by go_num, (HR.out.1.alloc hsz _).grown HX.out.2 (by simp; omega) (fun b hb => (HR.out.2.lt b hb).1), ?_⟩, by have := hq.out; simp [intOf]; omega⟩
      rw [e, flat_app, flat_one]
      exact HX.out.1
    · obtain rfl : j = n := by omega
      have HR := Lib.hid (And.intro hb ho)
      have hk : ¬ (q : Int) < (f : Int) + (j : Int) := by have := hq.out; omega
      have hq0 : (q : Int) ≤ 2199023255552 := by have := hq.out; omega
      clear hb ho hlt hj
      go_wp2
      go_ret
      exact ⟨_, rfl, HR.out.1, HR.out.2⟩
end Go.Proofs.YtbcdmcafobjpcaaGreatDoor.Bk
-- BookWMarked
/- The book: lists of structs: are all marked? is each what it was? -/
namespace Go.Proofs.YtbcdmcafobjpcaaGreatDoor.Bk
open Go.RowKit

structure CL where
  a : Option Addr
  l : List Chg
  c : Nat
def CL.cell (x : CL) : Value := .slice x.a x.l.length x.c
structure OutChanges (w : World) (ao : Option Addr) (L : List CL) : Prop where
  row : LiesAt w ao (L.map CL.cell)
  each : ∀ x ∈ L, LiesAt w x.a (flat Chg.cells x.l)
  len : ∀ x ∈ L, x.l.length < 2 ^ 40
theorem OutChanges.below {w w' : World} {ao : Option Addr} {L : List CL} (h : OutChanges w ao L) (b : Below w.heap.size w w') : OutChanges w' ao L :=
  ⟨h.row.below b, fun x hx => (h.each x hx).below b, h.len⟩
def MarkedChanges (L : List CL) : Prop := ∀ (i : Nat) (x : CL), L[i]? = some x → x.l = marksChanges (i : Int) 0 x.l.length

set_option maxRecDepth 100000 in
set_option maxHeartbeats 1000000 in
theorem markedChanges_is (ao : Option Addr) (L : List CL) (co : Nat) (w : World) (h : OutChanges w ao L) (hm : MarkedChanges L) (hL : L.length ≤ 1000) :
    Calls Tryz.prog 53 #[.slice ao L.length co] w fun e w' => e = .returned (.bool true) ∧ Below w.heap.size w w' := by
  have H := Lib.hid (And.intro h hm)
  have hLi : (L.length : Int) ≤ 1000 := by omega
  clear h hm hL
  go_enter Tryz.func53, Tryz.ntmps53
  go_wp2
  go_loopw [3] (fun i wr => ∃ k : Nat, k ≤ L.length ∧ i = .int .i64 (k : Int) ∧ Below w.heap.size w wr) (fun i _ => L.length - (intOf i).toNat)
  case atStart => exact ⟨0, Nat.zero_le _, rfl, Below.refl _ _⟩
  case round =>
    obtain ⟨k, hk, rfl, hb⟩ := hrel
    by_cases hlt : k < L.length
    · have hx : L[k]? = some L[k] := List.getElem?_eq_getElem hlt
      have hin : L[k] ∈ L := List.getElem_mem hlt
      have hO := H.out.1.below hb
      obtain ⟨b, rfl, hbl, hc⟩ := hO.row k L[k].cell (by rw [List.getElem?_map, hx]; rfl)
      have hmk := H.out.2 k _ hx
      have hel := hO.each _ hin
      have hle := H.out.1.len _ hin
      generalize L[k] = x at *
      have c0 : wr.cell? (b.add k) = some (.slice x.a x.l.length x.c) := hc
      have hi1 : (k : Int) < (L.length : Int) := by omega
      have hk1 : (k : Int) ≤ 1000 := by omega
      have HB := Lib.hid (And.intro hb (And.intro hbl (And.intro hmk (And.intro hel hle))))
      clear hb hbl hmk hel hle hO hc hx hin
      go_wp2_with fail
      go_region_held3 (fun u => u.cell? (b.add k) = some (.slice x.a x.l.length x.c)) (first | assumption | (simp only [World.cell?_drew]; assumption) | go_simp) (first
        | (go_at_call 73
           refine (markChanges_is (k : Int) 0 x.l.length _ (by omega) hk1 (by decide) HB.out.2.2.2.2).mono ?_
           rintro e w2 ⟨v, rfl, b2, o2⟩
           rw [← HB.out.2.2.1] at o2
           obtain ⟨a2, c2, rfl, h2, _⟩ := own_formK o2
           have d2 : w2.cell? (b.add k) = some (.slice x.a x.l.length x.c) := by
             rw [b2.cell (by rw [add_block]; exact HB.out.2.1)]
             exact c0
           have b2' : Below wr.heap.size wr w2 := (Below.refl wr.heap.size wr).drew.trans b2
           have HX := Lib.hid (And.intro b2' h2)
           clear b2 b2' o2 h2)
        | (go_at_call 14
           refine (SameChanges_is x.l x.l x.a a2 x.c c2 _ (HB.out.2.2.2.1.below HX.out.1) HX.out.2 (by have := HB.out.2.2.2.2; unfold maxLen; omega) (by have := HB.out.2.2.2.2; unfold maxLen; omega) true ⟨fun _ => rfl, fun _ => rfl⟩).mono ?_
           rintro e w3 ⟨rfl, m3, rfl⟩))
      all_goals
        go_wp2
        exact ⟨⟨k + 1, by omega, by go_num, bel_drewN (below_next HB.out.1 HX.out.1) _⟩, by simp [intOf]; omega⟩
    · obtain rfl : k = L.length := by omega
      have hn : ¬ (L.length : Int) < (L.length : Int) := by omega
      have HB := Lib.hid hb
      clear hlt hk hb
      go_wp2
      go_ret
      exact ⟨rfl, HB.out⟩

/-- The lists of a kind, and the copies beside them. -/
structure BothChanges (w : World) (p : Nat) (L M : List CL) (ao am : Option Addr) (co cm : Nat) : Prop where
  cl : w.cell? ⟨p, 4, none⟩ = some (.slice ao L.length co)
  cm : w.cell? ⟨p, 5, none⟩ = some (.slice am M.length cm)
  ol : OutChanges w ao L
  om : OutChanges w am M
  len : L.length = M.length
  same : ∀ (i : Nat) (x y : CL), L[i]? = some x → M[i]? = some y → x.l = y.l

set_option maxRecDepth 100000 in
set_option maxHeartbeats 1000000 in
theorem stillChanges_is (p : Nat) (L M : List CL) (ao am : Option Addr) (co cm : Nat) (w : World) (h : BothChanges w p L M ao am co cm) (hL : L.length ≤ 1000) :
    Calls Tryz.prog 35 #[.pointer (some ⟨p, 0, none⟩)] w fun e w' => e = .returned (.bool true) ∧ ∃ m, w' = w.drewN m := by
  have H := Lib.hid h
  have hLi : (L.length : Int) ≤ 1000 := by omega
  have f1 := h.cl
  have f2 := h.cm
  clear h hL
  go_enter Tryz.func35, Tryz.ntmps35
  go_wp2
  go_loopw [3] (fun i wr => ∃ k m : Nat, k ≤ L.length ∧ i = .int .i64 (k : Int) ∧ wr = w.drewN m) (fun i _ => L.length - (intOf i).toNat)
  case atStart => exact ⟨0, 0, Nat.zero_le _, rfl, rfl⟩
  case round =>
    obtain ⟨k, m, hk, rfl, rfl⟩ := hrel
    by_cases hlt : k < L.length
    · have hltM : k < M.length := by have := H.out.len; omega
      have hx : L[k]? = some L[k] := List.getElem?_eq_getElem hlt
      have hy : M[k]? = some M[k] := List.getElem?_eq_getElem hltM
      obtain ⟨b, rfl, _, hc⟩ := H.out.ol.row k L[k].cell (by rw [List.getElem?_map, hx]; rfl)
      obtain ⟨b', rfl, _, hc'⟩ := H.out.om.row k M[k].cell (by rw [List.getElem?_map, hy]; rfl)
      have hs := H.out.same k _ _ hx hy
      have hex := H.out.ol.each _ (List.getElem_mem hlt)
      have hey := H.out.om.each _ (List.getElem_mem hltM)
      have hle := H.out.ol.len _ (List.getElem_mem hlt)
      generalize L[k] = x at *
      generalize M[k] = y at *
      have c0 : w.cell? (b.add k) = some (.slice x.a x.l.length x.c) := hc
      have c1 : w.cell? (b'.add k) = some (.slice y.a y.l.length y.c) := hc'
      rw [← hs] at c1 hey
      have hi1 : (k : Int) < (L.length : Int) := by omega
      have hi2 : (k : Int) < (M.length : Int) := by omega
      have HB := Lib.hid (And.intro hex (And.intro hey hle))
      clear hex hey hle hs hc hc' hx hy
      go_wp2_with fail
      go_region_held3 (fun u => u.cell? ⟨p, 4, none⟩ = some (.slice (some b) L.length co) ∧ u.cell? ⟨p, 5, none⟩ = some (.slice (some b') M.length cm) ∧ u.cell? (b.add k) = some (.slice x.a x.l.length x.c) ∧ u.cell? (b'.add k) = some (.slice y.a x.l.length y.c)) (first
        | (exact ⟨f1, f2, c0, c1⟩)) (first
        | (go_at_call 14
           refine (SameChanges_is x.l x.l x.a y.a x.c y.c _ (HB.out.1.below (bel_drewN (Below.refl _ _) _)) (HB.out.2.1.below (bel_drewN (Below.refl _ _) _)) (by have := HB.out.2.2; unfold maxLen; omega) (by have := HB.out.2.2; unfold maxLen; omega) true ⟨fun _ => rfl, fun _ => rfl⟩).mono ?_
           rintro e w3 ⟨rfl, m3, rfl⟩))
      all_goals
        go_wp2
        exact ⟨⟨k + 1, _, by omega, by go_num, rfl⟩, by simp [intOf]; omega⟩
    · obtain rfl : k = L.length := by omega
      have hn : ¬ (L.length : Int) < (L.length : Int) := by omega
      clear hlt hk
      go_wp2
      go_ret
      exact ⟨rfl, _, rfl⟩
structure EL where
  a : Option Addr
  l : List Ent
  c : Nat
def EL.cell (x : EL) : Value := .slice x.a x.l.length x.c
structure OutEntries (w : World) (ao : Option Addr) (L : List EL) : Prop where
  row : LiesAt w ao (L.map EL.cell)
  each : ∀ x ∈ L, LiesAt w x.a (flat Ent.cells x.l)
  len : ∀ x ∈ L, x.l.length < 2 ^ 40
theorem OutEntries.below {w w' : World} {ao : Option Addr} {L : List EL} (h : OutEntries w ao L) (b : Below w.heap.size w w') : OutEntries w' ao L :=
  ⟨h.row.below b, fun x hx => (h.each x hx).below b, h.len⟩
def MarkedEntries (L : List EL) : Prop := ∀ (i : Nat) (x : EL), L[i]? = some x → x.l = marksEntries (i : Int) 0 x.l.length

set_option maxRecDepth 100000 in
set_option maxHeartbeats 1000000 in
theorem markedEntries_is (ao : Option Addr) (L : List EL) (co : Nat) (w : World) (h : OutEntries w ao L) (hm : MarkedEntries L) (hL : L.length ≤ 1000) :
    Calls Tryz.prog 54 #[.slice ao L.length co] w fun e w' => e = .returned (.bool true) ∧ Below w.heap.size w w' := by
  have H := Lib.hid (And.intro h hm)
  have hLi : (L.length : Int) ≤ 1000 := by omega
  clear h hm hL
  go_enter Tryz.func54, Tryz.ntmps54
  go_wp2
  go_loopw [3] (fun i wr => ∃ k : Nat, k ≤ L.length ∧ i = .int .i64 (k : Int) ∧ Below w.heap.size w wr) (fun i _ => L.length - (intOf i).toNat)
  case atStart => exact ⟨0, Nat.zero_le _, rfl, Below.refl _ _⟩
  case round =>
    obtain ⟨k, hk, rfl, hb⟩ := hrel
    by_cases hlt : k < L.length
    · have hx : L[k]? = some L[k] := List.getElem?_eq_getElem hlt
      have hin : L[k] ∈ L := List.getElem_mem hlt
      have hO := H.out.1.below hb
      obtain ⟨b, rfl, hbl, hc⟩ := hO.row k L[k].cell (by rw [List.getElem?_map, hx]; rfl)
      have hmk := H.out.2 k _ hx
      have hel := hO.each _ hin
      have hle := H.out.1.len _ hin
      generalize L[k] = x at *
      have c0 : wr.cell? (b.add k) = some (.slice x.a x.l.length x.c) := hc
      have hi1 : (k : Int) < (L.length : Int) := by omega
      have hk1 : (k : Int) ≤ 1000 := by omega
      have HB := Lib.hid (And.intro hb (And.intro hbl (And.intro hmk (And.intro hel hle))))
      clear hb hbl hmk hel hle hO hc hx hin
      go_wp2_with fail
      go_region_held3 (fun u => u.cell? (b.add k) = some (.slice x.a x.l.length x.c)) (first | assumption | (simp only [World.cell?_drew]; assumption) | go_simp) (first
        | (go_at_call 74
           refine (markEntries_is (k : Int) 0 x.l.length _ (by omega) hk1 (by decide) HB.out.2.2.2.2).mono ?_
           rintro e w2 ⟨v, rfl, b2, o2⟩
           rw [← HB.out.2.2.1] at o2
           obtain ⟨a2, c2, rfl, h2, _⟩ := own_formK o2
           have d2 : w2.cell? (b.add k) = some (.slice x.a x.l.length x.c) := by
             rw [b2.cell (by rw [add_block]; exact HB.out.2.1)]
             exact c0
           have b2' : Below wr.heap.size wr w2 := (Below.refl wr.heap.size wr).drew.trans b2
           have HX := Lib.hid (And.intro b2' h2)
           clear b2 b2' o2 h2)
        | (go_at_call 67
           refine (SameEntries_is x.l x.l x.a a2 x.c c2 _ (HB.out.2.2.2.1.below HX.out.1) HX.out.2 (by have := HB.out.2.2.2.2; unfold maxLen; omega) (by have := HB.out.2.2.2.2; unfold maxLen; omega) true ⟨fun _ => rfl, fun _ => rfl⟩).mono ?_
           rintro e w3 ⟨rfl, m3, rfl⟩))
      all_goals
        go_wp2
        exact ⟨⟨k + 1, by omega, by go_num, bel_drewN (below_next HB.out.1 HX.out.1) _⟩, by simp [intOf]; omega⟩
    · obtain rfl : k = L.length := by omega
      have hn : ¬ (L.length : Int) < (L.length : Int) := by omega
      have HB := Lib.hid hb
      clear hlt hk hb
      go_wp2
      go_ret
      exact ⟨rfl, HB.out⟩

/-- The lists of a kind, and the copies beside them. -/
structure BothEntries (w : World) (p : Nat) (L M : List EL) (ao am : Option Addr) (co cm : Nat) : Prop where
  cl : w.cell? ⟨p, 6, none⟩ = some (.slice ao L.length co)
  cm : w.cell? ⟨p, 7, none⟩ = some (.slice am M.length cm)
  ol : OutEntries w ao L
  om : OutEntries w am M
  len : L.length = M.length
  same : ∀ (i : Nat) (x y : EL), L[i]? = some x → M[i]? = some y → x.l = y.l

set_option maxRecDepth 100000 in
set_option maxHeartbeats 1000000 in
theorem stillEntries_is (p : Nat) (L M : List EL) (ao am : Option Addr) (co cm : Nat) (w : World) (h : BothEntries w p L M ao am co cm) (hL : L.length ≤ 1000) :
    Calls Tryz.prog 36 #[.pointer (some ⟨p, 0, none⟩)] w fun e w' => e = .returned (.bool true) ∧ ∃ m, w' = w.drewN m := by
  have H := Lib.hid h
  have hLi : (L.length : Int) ≤ 1000 := by omega
  have f1 := h.cl
  have f2 := h.cm
  clear h hL
  go_enter Tryz.func36, Tryz.ntmps36
  go_wp2
  go_loopw [3] (fun i wr => ∃ k m : Nat, k ≤ L.length ∧ i = .int .i64 (k : Int) ∧ wr = w.drewN m) (fun i _ => L.length - (intOf i).toNat)
  case atStart => exact ⟨0, 0, Nat.zero_le _, rfl, rfl⟩
  case round =>
    obtain ⟨k, m, hk, rfl, rfl⟩ := hrel
    by_cases hlt : k < L.length
    · have hltM : k < M.length := by have := H.out.len; omega
      have hx : L[k]? = some L[k] := List.getElem?_eq_getElem hlt
      have hy : M[k]? = some M[k] := List.getElem?_eq_getElem hltM
      obtain ⟨b, rfl, _, hc⟩ := H.out.ol.row k L[k].cell (by rw [List.getElem?_map, hx]; rfl)
      obtain ⟨b', rfl, _, hc'⟩ := H.out.om.row k M[k].cell (by rw [List.getElem?_map, hy]; rfl)
      have hs := H.out.same k _ _ hx hy
      have hex := H.out.ol.each _ (List.getElem_mem hlt)
      have hey := H.out.om.each _ (List.getElem_mem hltM)
      have hle := H.out.ol.len _ (List.getElem_mem hlt)
      generalize L[k] = x at *
      generalize M[k] = y at *
      have c0 : w.cell? (b.add k) = some (.slice x.a x.l.length x.c) := hc
      have c1 : w.cell? (b'.add k) = some (.slice y.a y.l.length y.c) := hc'
      rw [← hs] at c1 hey
      have hi1 : (k : Int) < (L.length : Int) := by omega
      have hi2 : (k : Int) < (M.length : Int) := by omega
      have HB := Lib.hid (And.intro hex (And.intro hey hle))
      clear hex hey hle hs hc hc' hx hy
      go_wp2_with fail
      go_region_held3 (fun u => u.cell? ⟨p, 6, none⟩ = some (.slice (some b) L.length co) ∧ u.cell? ⟨p, 7, none⟩ = some (.slice (some b') M.length cm) ∧ u.cell? (b.add k) = some (.slice x.a x.l.length x.c) ∧ u.cell? (b'.add k) = some (.slice y.a x.l.length y.c)) (first
        | (exact ⟨f1, f2, c0, c1⟩)) (first
        | (go_at_call 67
           refine (SameEntries_is x.l x.l x.a y.a x.c y.c _ (HB.out.1.below (bel_drewN (Below.refl _ _) _)) (HB.out.2.1.below (bel_drewN (Below.refl _ _) _)) (by have := HB.out.2.2; unfold maxLen; omega) (by have := HB.out.2.2; unfold maxLen; omega) true ⟨fun _ => rfl, fun _ => rfl⟩).mono ?_
           rintro e w3 ⟨rfl, m3, rfl⟩))
      all_goals
        go_wp2
        exact ⟨⟨k + 1, _, by omega, by go_num, rfl⟩, by simp [intOf]; omega⟩
    · obtain rfl : k = L.length := by omega
      have hn : ¬ (L.length : Int) < (L.length : Int) := by omega
      clear hlt hk
      go_wp2
      go_ret
      exact ⟨rfl, _, rfl⟩
end Go.Proofs.YtbcdmcafobjpcaaGreatDoor.Bk
-- BookWAdd
/- The book: lists of structs: one list more. -/
namespace Go.Proofs.YtbcdmcafobjpcaaGreatDoor.Bk
open Go.RowKit

theorem outInfoChanges : (Tryz.prog.info? 28).map (fun i => (i.zero, i.size, i.bytes)) = some (some (.slice none 0 0), 1, 24) := by kernel_rfl
theorem cells_oneChanges {l : List CL} : ∀ u ∈ l.map CL.cell, u.oneCell' = true := fun u hu => by
  obtain ⟨x, _, rfl⟩ := List.mem_map.1 hu
  rfl
/-- The lists of a kind that were kept, and their copies. -/
structure KeepChanges (w : World) (base p : Nat) (L M : List CL) : Prop where
  ex : ∃ vO vM, w.cell? ⟨p, 4, none⟩ = some vO ∧ w.cell? ⟨p, 5, none⟩ = some vM ∧ w.ownsRow base 28 1 vO L.length (L.map CL.cell) ∧ w.ownsRow base 28 1 vM M.length (M.map CL.cell) ∧ (∀ g, vO.ownBlock = some g → vM.ownBlock ≠ some g)
  each : ∀ x ∈ L, w.ownsRow base 55 2 x.cell x.l.length (flat Chg.cells x.l)
  copy : ∀ x ∈ M, w.ownsRow base 55 2 x.cell x.l.length (flat Chg.cells x.l)
  len : L.length = M.length
  same : ∀ (i : Nat) (x y : CL), L[i]? = some x → M[i]? = some y → x.l = y.l
  apart : L.Pairwise (fun x y => ∀ g, x.cell.ownBlock = some g → y.cell.ownBlock ≠ some g)
  small : ∀ x ∈ L, x.l.length ≤ 1000
/-- What steps on other kinds leave. -/
theorem KeepChanges.other {w w' : World} {base p : Nat} {L M : List CL} (h : KeepChanges w base p L M) (hb : BookB w p) {J : Nat → Prop} {T : TypeId} (t : Turn w w' p J (OfType w T)) (hJ : ¬ J 4 ∧ ¬ J 5) (h1 : 55 ≠ T) (h2 : 28 ≠ T) : KeepChanges w' base p L M := by
  obtain ⟨vO, vM, c0, c1, o0, o1, ha⟩ := h.ex
  exact ⟨⟨vO, vM, by rw [t.cell _ hJ.1]; exact c0, by rw [t.cell _ hJ.2]; exact c1, owns_typed o0 hb t h2 (by decide), owns_typed o1 hb t h2 (by decide), ha⟩,
    fun x hx => owns_typed (h.each x hx) hb t h1 (by decide), fun x hx => owns_typed (h.copy x hx) hb t h1 (by decide), h.len, h.same, h.apart, h.small⟩
theorem KeepChanges.below {w w' : World} {base p : Nat} {L M : List CL} (h : KeepChanges w base p L M) (hb : BookB w p) (b : Below w.heap.size w w') : KeepChanges w' base p L M := by
  obtain ⟨vO, vM, c0, c1, o0, o1, ha⟩ := h.ex
  have t : Turn w w' p (fun _ => False) (fun _ => False) := Turn.of_below b hb.lt
  exact ⟨⟨vO, vM, by rw [t.cell _ id]; exact c0, by rw [t.cell _ id]; exact c1, own_belowK o0 b, own_belowK o1 b, ha⟩,
    fun x hx => own_belowK (h.each x hx) b, fun x hx => own_belowK (h.copy x hx) b, h.len, h.same, h.apart, h.small⟩

set_option maxRecDepth 100000 in
set_option maxHeartbeats 2000000 in
theorem keepChanges_is (base p : Nat) (L M : List CL) (x : CL) (w : World) (hb : BookB w p) (hp : base ≤ p) (h : KeepChanges w base p L M) (hx : w.ownsRow base 55 2 x.cell x.l.length (flat Chg.cells x.l))
    (hap : ∀ y ∈ L, ∀ g, y.cell.ownBlock = some g → x.cell.ownBlock ≠ some g) (hs : x.l.length ≤ 1000) (hL : L.length ≤ 100) :
    Calls Tryz.prog 17 #[.pointer (some ⟨p, 0, none⟩), .slice x.a x.l.length x.c] w fun e w' => e = .returned (.tuple #[]) ∧ Below base w w' ∧ Turn w w' p (fun j => j = 4 ∨ j = 5) (OfType w 28) ∧ ∃ y : CL, KeepChanges w' base p (L ++ [x]) (M ++ [y]) := by
  obtain ⟨i0, hi, hz0, hz1, hz2⟩ := info_parts outInfoChanges
  have HI := Lib.hid (And.intro hi (And.intro hz0 (And.intro hz1 hz2)))
  clear hi hz0 hz1 hz2
  obtain ⟨vO, vM, c0, c1, o0, o1, hne⟩ := h.ex
  obtain ⟨ao, co, rfl⟩ := owns_slice o0
  obtain ⟨am, cm, rfl⟩ := owns_slice o1
  have hpl := hb.lt
  have f0 := hb.frozen 4
  have f1 := hb.frozen 5
  have hLi : (L.length : Int) < 250 := by omega
  have n0 : ∀ g, Value.ownBlock (.slice ao L.length co) = some g → g ≠ p := fun g hg => not_book hb o0 (by decide) hg
  have n1 : ∀ g, Value.ownBlock (.slice am M.length cm) = some g → g ≠ p := fun g hg => not_book hb o1 (by decide) hg
  have HK := Lib.hid (And.intro hb (And.intro h (And.intro hx (And.intro o0 (And.intro o1 (And.intro hne (And.intro n0 n1)))))))
  have hM100 : M.length ≤ 100 := by have := h.len; omega
  clear hb h hx o0 o1 hne n0 n1
  go_enter Tryz.func17, Tryz.ntmps17
  go_wp2_with (refine wpList_append_lies _ rfl (.tmp 14) (.tmp 16) 32 rfl base 28 i0 _ 1 24 Tryz.underlying32 HI.out.1 HI.out.2.1 HI.out.2.2.1 HI.out.2.2.2 rfl (by omega) (.slice ao L.length co) L.length (L.map CL.cell) rfl (HK.out.2.2.2.1.alloc _) _ 1 1 [x.cell] rfl rfl (by exact World.news_of_block (heap_alloc_last _ _)) (by intro u hu; simp at hu; rw [hu]; rfl) (by omega) (by unfold maxLen; omega) (by omega) (by simp; omega) _ rfl ?_
               intro g4 cap4 w4 hown4 hgr4 hat4 hlt4
               have b4 := (grown_block hgr4 (show p < _ by simp; omega) (fun e => (HK.out.2.2.2.2.2.2.1 p e) rfl)).trans (heap_alloc_old w _ hpl)
               have d4 : w4.cell? ⟨p, 4, none⟩ = some (.slice ao L.length co) := (World.cell?_of_block (a := ⟨p, 4, none⟩) b4).trans c0
               have g5 : w4.frozen? ⟨p, 4, none⟩ = false := (World.frozen?_of_block (a := ⟨p, 4, none⟩) b4).trans f0)
  have hpush := pushed (J := fun j => j = 4) HK.out.1 hp ((Below.refl w.heap.size w).alloc (Nat.le_refl _) _) HK.out.2.2.2.1 hown4 hgr4 hat4 (by decide) rfl d4
  clear hown4 hgr4 hat4 hlt4 b4 d4 g5 c0 f0
  generalize w4.setCell ⟨p, 4, none⟩ (.slice (some ⟨g4, 0, none⟩) (L.length + 1) cap4) = w5 at *
  obtain ⟨q1, q2, _, q4, q5, q6, q7⟩ := hpush
  have hb5 := q2.book HK.out.1
  have k5 : w5.ownsRow base 28 1 (.slice am M.length cm) M.length (M.map CL.cell) := owns_turn HK.out.2.2.2.2.1 q2 (fun g hg => ⟨HK.out.2.2.2.2.2.2.2 g hg, fun e => HK.out.2.2.2.2.2.1 g e hg⟩)
  have x5 : w5.ownsRow base 55 2 x.cell x.l.length (flat Chg.cells x.l) := owns_turn HK.out.2.2.1 q2 (fun g hg => ⟨not_book HK.out.1 HK.out.2.2.1 (by decide) hg, fun e => not_type HK.out.2.2.1 (show 55 ≠ 28 by decide) hg (by
    obtain ⟨cur, hh⟩ := own_type HK.out.2.2.2.1 e
    exact ⟨cur, _, hh⟩)⟩)
  have c5 : w5.cell? ⟨p, 5, none⟩ = some (.slice am M.length cm) := (q2.cell 5 (by decide)).trans c1
  have f5 := hb5.frozen 5
  have hp5 := hb5.lt
  have lx : LiesAt w5 x.a (flat Chg.cells x.l) := by
    obtain ⟨a', c', hv, hl, _⟩ := own_formK x5
    obtain ⟨rfl, rfl⟩ : x.a = a' ∧ x.c = c' := by simpa [CL.cell] using hv
    exact hl
  have HQ := Lib.hid (And.intro q1 (And.intro q2 (And.intro q4 (And.intro q5 (And.intro q6 (And.intro q7 (And.intro hb5 (And.intro k5 (And.intro x5 lx)))))))))
  clear q1 q2 q4 q5 q6 q7 hb5 k5 x5 lx c1 f1
  go_region_law (first
    | (refine step_append_lies _ rfl (.tmp 24) (.tmp 27) 32 rfl base 28 i0 _ 1 24 Tryz.underlying32 HI.out.1 HI.out.2.1 HI.out.2.2.1 HI.out.2.2.2 (by rfl) (by omega) (.slice am M.length cm) M.length (M.map CL.cell) rfl ((own_belowK HQ.out.2.2.2.2.2.2.2.1 H6.out.1).alloc _) _ 1 1 [.slice a6 x.l.length c6] rfl rfl (by exact World.news_of_block (heap_alloc_last _ _)) (by intro u hu; simp at hu; rw [hu]; rfl) (by omega) (by unfold maxLen; omega) (by omega) (by have := H6.out.1.size; have := HQ.out.1.size; have := HK.out.1.lt; simp; omega) _ rfl ?_
       intro g7 cap7 w7 hown7 hgr7 hat7 hlt7
       have b7 := (grown_block hgr7 (show p < _ by have := H6.out.1.size; simp; omega) (fun e => (HK.out.2.2.2.2.2.2.2 p e) rfl)).trans (heap_alloc_old w6 _ (show p < w6.heap.size by have := H6.out.1.size; omega))
       have d7 : w7.cell? ⟨p, 5, none⟩ = some (.slice am M.length cm) := (World.cell?_of_block (a := ⟨p, 5, none⟩) b7).trans d6
       have f7 : w7.frozen? ⟨p, 5, none⟩ = false := (World.frozen?_of_block (a := ⟨p, 5, none⟩) b7).trans f6)
    | (go_simp
       go_at_call 24
       refine (copyChanges_is x.a x.l x.c _ (HQ.out.2.2.2.2.2.2.2.2.2.below (Below.refl _ _).drew) (by omega)).mono ?_
       rintro e w6 ⟨v6, rfl, b6, o6⟩
       obtain ⟨a6, c6, rfl⟩ := owns_slice o6
       have b6' : Below w5.heap.size w5 w6 := (Below.refl w5.heap.size w5).drew.trans b6
       have d6 : w6.cell? ⟨p, 5, none⟩ = some (.slice am M.length cm) := (b6'.cell (p := ⟨p, 5, none⟩) hp5).trans c5
       have f6 : w6.frozen? ⟨p, 5, none⟩ = false := (b6'.frozen (p := ⟨p, 5, none⟩) hp5).trans f5
       have hp6 : p < w6.heap.size := Nat.lt_of_lt_of_le hp5 b6'.size
       have H6 := Lib.hid (And.intro b6' o6)
       clear b6 b6' o6))
  all_goals
    obtain ⟨q1, q2, q4, q5, q6, q7, hb5, k5, x5, lx⟩ := HQ.out
    obtain ⟨hb, hk, hx, o0, o1, hne, n0, n1⟩ := HK.out
    obtain ⟨r1, r2, r3, r4, r5, r6, r7⟩ := pushed (J := fun j => j = 5) hb5 hp (H6.out.1.alloc H6.out.1.size _) k5 hown7 hgr7 hat7 (by decide) rfl d7
    have tt := (q2.mono (J' := fun j => j = 4 ∨ j = 5) (R' := OfType w 28) (fun j e => Or.inl e) (fun g _ e => by
      obtain ⟨cur, hh⟩ := own_type o0 e
      exact ⟨cur, _, hh⟩)).trans (r2.mono (fun j e => Or.inr e) (fun g _ e => by
      obtain ⟨cur, hh⟩ := own_type o1 e
      exact ⟨cur, _, hh⟩))
    have hvM : ∀ g, Value.ownBlock (.slice am M.length cm) = some g → g < w.heap.size := fun g hg => (o1.lt g hg).2
    have h45 : ∀ g, Value.ownBlock (.slice am M.length cm) = some g → g4 ≠ g := fun g hg => by
      rcases q6 with e | e
      · rintro rfl
        exact hne _ e hg
      · have := hvM g hg
        omega
    have h47 : g4 ≠ g7 := by
      rcases r6 with e | e
      · exact h45 _ e
      · have := (q4.lt g4 rfl).2
        omega
    have bu : Below w6.heap.size w6 (w6.alloc (.cells #[.slice a6 x.l.length c6] 28)) := (Below.refl _ _).alloc (Nat.le_refl _) _
    have bb : base ≤ (w5.drew).heap.size := Nat.le_trans hp (Nat.le_of_lt hb5.lt)
    have y6 := owns_base bb (own_belowK H6.out.2 bu)
    have m6 := own_belowK (own_belowK k5 H6.out.1) bu
    have hb6 : BookB (w6.alloc (.cells #[.slice a6 x.l.length c6] 28)) p := book_of_block (bu.block p (Nat.lt_of_lt_of_le hb5.lt H6.out.1.size)) (book_of_block (H6.out.1.block p hb5.lt) hb5)
    have y7 := owns_turn y6 r3 (fun g hg => ⟨not_book hb6 y6 (by decide) hg, fun e => not_type y6 (show 55 ≠ 28 by decide) hg (by
      obtain ⟨cur, hh⟩ := own_type m6 e
      exact ⟨cur, _, hh⟩)⟩)
    have fin : KeepChanges _ base p (L ++ [x]) (M ++ [⟨a6, x.l, c6⟩]) := {
      ex := ⟨_, _, (r2.cell 4 (by decide)).trans q5, r5, by simpa using owns_turn q4 r2 (fun g hg => by
          obtain rfl : g4 = g := by simpa [Value.ownBlock] using hg
          exact ⟨q7, fun e => h45 _ e rfl⟩), by simpa [CL.cell] using r4, fun g hg e => by
          obtain rfl : g4 = g := by simpa [Value.ownBlock] using hg
          obtain rfl : g7 = g4 := by simpa [Value.ownBlock] using e
          exact h47 rfl⟩
      each := fun z hz => by
        rcases List.mem_append.1 hz with e | e
        · exact owns_typed (hk.each z e) hb tt (by decide) (by decide)
        · obtain rfl : z = x := by simpa using e
          exact owns_typed hx hb tt (by decide) (by decide)
      copy := fun z hz => by
        rcases List.mem_append.1 hz with e | e
        · exact owns_typed (hk.copy z e) hb tt (by decide) (by decide)
        · obtain rfl : z = ⟨a6, x.l, c6⟩ := by simpa using e
          exact y7
      len := by simp [hk.len]
      same := fun i z y hz hy => by
        rcases Nat.lt_or_ge i L.length with e | e
        · rw [List.getElem?_append_left e] at hz
          rw [List.getElem?_append_left (by rw [← hk.len]; exact e)] at hy
          exact hk.same i z y hz hy
        · rw [List.getElem?_append_right e] at hz
          rw [List.getElem?_append_right (by rw [← hk.len]; exact e), ← hk.len] at hy
          have : i - L.length = 0 := by have := (List.getElem?_eq_some_iff.1 hz).1; simp at this; omega
          rw [this] at hz hy
          obtain rfl : x = z := by simpa using hz
          obtain rfl : (⟨a6, x.l, c6⟩ : CL) = y := by simpa using hy
          rfl
      apart := List.pairwise_append.2 ⟨hk.apart, List.pairwise_singleton _ _, fun y hy z hz => by
        obtain rfl : z = x := by simpa using hz
        exact hap y hy⟩
      small := fun z hz => by
        rcases List.mem_append.1 hz with e | e
        · exact hk.small z e
        · obtain rfl : z = x := by simpa using e
          exact hs }
    exact bodyPost_end (results_none rfl _ _ _) rfl ⟨rfl, q1.trans r1, tt, _, fin⟩
theorem outInfoEntries : (Tryz.prog.info? 69).map (fun i => (i.zero, i.size, i.bytes)) = some (some (.slice none 0 0), 1, 24) := by kernel_rfl
theorem cells_oneEntries {l : List EL} : ∀ u ∈ l.map EL.cell, u.oneCell' = true := fun u hu => by
  obtain ⟨x, _, rfl⟩ := List.mem_map.1 hu
  rfl
/-- The lists of a kind that were kept, and their copies. -/
structure KeepEntries (w : World) (base p : Nat) (L M : List EL) : Prop where
  ex : ∃ vO vM, w.cell? ⟨p, 6, none⟩ = some vO ∧ w.cell? ⟨p, 7, none⟩ = some vM ∧ w.ownsRow base 69 1 vO L.length (L.map EL.cell) ∧ w.ownsRow base 69 1 vM M.length (M.map EL.cell) ∧ (∀ g, vO.ownBlock = some g → vM.ownBlock ≠ some g)
  each : ∀ x ∈ L, w.ownsRow base 101 5 x.cell x.l.length (flat Ent.cells x.l)
  copy : ∀ x ∈ M, w.ownsRow base 101 5 x.cell x.l.length (flat Ent.cells x.l)
  len : L.length = M.length
  same : ∀ (i : Nat) (x y : EL), L[i]? = some x → M[i]? = some y → x.l = y.l
  apart : L.Pairwise (fun x y => ∀ g, x.cell.ownBlock = some g → y.cell.ownBlock ≠ some g)
  small : ∀ x ∈ L, x.l.length ≤ 1000
/-- What steps on other kinds leave. -/
theorem KeepEntries.other {w w' : World} {base p : Nat} {L M : List EL} (h : KeepEntries w base p L M) (hb : BookB w p) {J : Nat → Prop} {T : TypeId} (t : Turn w w' p J (OfType w T)) (hJ : ¬ J 6 ∧ ¬ J 7) (h1 : 101 ≠ T) (h2 : 69 ≠ T) : KeepEntries w' base p L M := by
  obtain ⟨vO, vM, c0, c1, o0, o1, ha⟩ := h.ex
  exact ⟨⟨vO, vM, by rw [t.cell _ hJ.1]; exact c0, by rw [t.cell _ hJ.2]; exact c1, owns_typed o0 hb t h2 (by decide), owns_typed o1 hb t h2 (by decide), ha⟩,
    fun x hx => owns_typed (h.each x hx) hb t h1 (by decide), fun x hx => owns_typed (h.copy x hx) hb t h1 (by decide), h.len, h.same, h.apart, h.small⟩
theorem KeepEntries.below {w w' : World} {base p : Nat} {L M : List EL} (h : KeepEntries w base p L M) (hb : BookB w p) (b : Below w.heap.size w w') : KeepEntries w' base p L M := by
  obtain ⟨vO, vM, c0, c1, o0, o1, ha⟩ := h.ex
  have t : Turn w w' p (fun _ => False) (fun _ => False) := Turn.of_below b hb.lt
  exact ⟨⟨vO, vM, by rw [t.cell _ id]; exact c0, by rw [t.cell _ id]; exact c1, own_belowK o0 b, own_belowK o1 b, ha⟩,
    fun x hx => own_belowK (h.each x hx) b, fun x hx => own_belowK (h.copy x hx) b, h.len, h.same, h.apart, h.small⟩

end Go.Proofs.YtbcdmcafobjpcaaGreatDoor.Bk
-- BookWPut
/- The book: lists of structs: all are marked. -/
namespace Go.Proofs.YtbcdmcafobjpcaaGreatDoor.Bk
open Go.RowKit

theorem Turn.stores {w : World} {p g j : Nat} {J R : Nat → Prop} (vs : List Value) (hb : BookB w p) (hg : g ≠ p) (hr : R g) : Turn w (w.setCells g j vs) p J R := by
  refine ⟨Nat.le_of_eq (size_sets _ _ _ _).symm, fun i _ _ hn => heap_sets _ _ _ _ _ (fun e => hn (by rw [e]; exact hr)), fun i _ => World.cell?_of_block (w := w) (a := ⟨p, i, none⟩) (heap_sets _ _ _ _ _ (fun e => hg e.symm)), fun _ => book_of_block (heap_sets _ _ _ _ _ (fun e => hg e.symm)) hb⟩

/-- The lists of a kind, whatever is in them now. -/
structure HeldChanges (w : World) (base p : Nat) (L : List CL) (C : Nat → List Chg) : Prop where
  ex : ∃ ao co, w.cell? ⟨p, 4, none⟩ = some (.slice ao L.length co) ∧ w.ownsRow base 28 1 (.slice ao L.length co) L.length (L.map CL.cell)
  each : ∀ (i : Nat) (x : CL), L[i]? = some x → w.ownsRow base 55 2 x.cell x.l.length (flat Chg.cells (C i))
  apart : ∀ (i j : Nat) (x y : CL), i ≠ j → L[i]? = some x → L[j]? = some y → ∀ g, x.cell.ownBlock = some g → y.cell.ownBlock ≠ some g
  small : ∀ x ∈ L, x.l.length ≤ 1000
theorem KeepChanges.held {w : World} {base p : Nat} {L M : List CL} (h : KeepChanges w base p L M) : HeldChanges w base p L (fun i => (L[i]?.map (·.l)).getD []) := by
  obtain ⟨vO, vM, c0, _, o0, _, _⟩ := h.ex
  obtain ⟨ao, co, rfl⟩ := owns_slice o0
  refine ⟨⟨ao, co, c0, o0⟩, fun i x hx => by rw [hx]; exact h.each x (List.mem_of_getElem? hx), fun i j x y hij hx hy => ?_, h.small⟩
  have hp := List.pairwise_iff_getElem.1 h.apart
  obtain ⟨hi, rfl⟩ := List.getElem?_eq_some_iff.1 hx
  obtain ⟨hj, rfl⟩ := List.getElem?_eq_some_iff.1 hy
  rcases Nat.lt_or_gt_of_ne hij with q | q
  · exact hp i j hi hj q
  · exact fun g e1 e2 => hp j i hj hi q g e2 e1
theorem HeldChanges.below {w w' : World} {base p : Nat} {L : List CL} {C : Nat → List Chg} (h : HeldChanges w base p L C) (hb : BookB w p) (b : Below w.heap.size w w') : HeldChanges w' base p L C := by
  obtain ⟨ao, co, c0, o0⟩ := h.ex
  have t : Turn w w' p (fun _ => False) (fun _ => False) := Turn.of_below b hb.lt
  exact ⟨⟨ao, co, by rw [t.cell _ id]; exact c0, own_belowK o0 b⟩, fun i x hx => own_belowK (h.each i x hx) b, h.apart, h.small⟩
theorem HeldChanges.other {w w' : World} {base p : Nat} {L : List CL} {C : Nat → List Chg} (h : HeldChanges w base p L C) (hb : BookB w p) {J : Nat → Prop} {T : TypeId} (t : Turn w w' p J (OfType w T)) (hJ : ¬ J 4) (h1 : 55 ≠ T) (h2 : 28 ≠ T) : HeldChanges w' base p L C := by
  obtain ⟨ao, co, c0, o0⟩ := h.ex
  exact ⟨⟨ao, co, by rw [t.cell _ hJ]; exact c0, owns_typed o0 hb t h2 (by decide)⟩, fun i x hx => owns_typed (h.each i x hx) hb t h1 (by decide), h.apart, h.small⟩
/-- A store into one of them. -/
theorem HeldChanges.store {w : World} {base p : Nat} {L : List CL} {C : Nat → List Chg} (h : HeldChanges w base p L C) (hb : BookB w p) {k : Nat} {x : CL} (hk : L[k]? = some x) {g c : Nat} (hx : x.cell = .slice (some ⟨g, 0, none⟩) x.l.length c) (j : Nat) (hj : j < (C k).length) (v : Chg) :
    HeldChanges (w.setCells g (j * 2) v.cells) base p L (fun i => if i = k then (C k).set j v else C i) ∧ Below base w (w.setCells g (j * 2) v.cells) ∧ BookB (w.setCells g (j * 2) v.cells) p ∧ g ≠ p ∧ g < w.heap.size := by
  have ok := h.each k x hk
  have hg : x.cell.ownBlock = some g := by rw [hx]; rfl
  have hgp := not_book hb ok (by decide) hg
  have hbp := heap_sets g v.cells (j * 2) w p (fun e => hgp e.symm)
  obtain ⟨ao, co, c0, o0⟩ := h.ex
  refine ⟨⟨⟨ao, co, (World.cell?_of_block (w := w) (a := ⟨p, 4, none⟩) hbp).trans c0, owns_otherB o0 (fun g' e => heap_sets _ _ _ _ _ (fun q => ?_))⟩, fun i y hy => ?_, h.apart, h.small⟩, below_sets (ok.lt g hg).1 _ _ (Below.refl _ _), book_of_block hbp hb, hgp, (ok.lt g hg).2⟩
  · subst q
    obtain ⟨cur, hh⟩ := own_type o0 e
    exact not_type ok (show 55 ≠ 28 by decide) hg ⟨cur, _, hh⟩
  · by_cases hi : i = k
    · subst hi
      obtain rfl : x = y := by rw [hk] at hy; simpa using hy
      rw [if_pos rfl, flat_set Chg.len _ _ hj]
      rw [hx] at ok ⊢
      exact owns_setRun _ _ ok
    · rw [if_neg hi]
      exact owns_otherB (h.each i y hy) (fun g' e => heap_sets _ _ _ _ _ (fun q => h.apart i k y x hi hy hk g (by rw [← q]; exact e) hg))

/-- So far lists are marked. -/
structure PuttingChanges (w wr : World) (base p : Nat) (L : List CL) (k : Nat) (C : Nat → List Chg) : Prop where
  below : Below base w wr
  turn : Turn w wr p (fun _ => False) (OfType w 55)
  book : BookB wr p
  held : HeldChanges wr base p L C
  done : ∀ (k' : Nat) (x : CL), k' < k → L[k']? = some x → C k' = marksChanges (k' : Int) 0 x.l.length

theorem PuttingChanges.next {w wr wx : World} {base p : Nat} {L : List CL} {k : Nat} {C : Nat → List Chg} (h : PuttingChanges w wr base p L k C) (hp : base ≤ p) (b : Below wr.heap.size wr wx) : PuttingChanges w wx base p L k C :=
  ⟨h.below.trans (b.mono (Nat.le_trans hp (Nat.le_of_lt h.book.lt))), h.turn.trans (Turn.of_below b h.book.lt), book_of_block (b.block p h.book.lt) h.book, h.held.below h.book b, h.done⟩
set_option maxRecDepth 100000 in
set_option maxHeartbeats 2000000 in
theorem putChanges_is (base p : Nat) (L : List CL) (C : Nat → List Chg) (w : World) (hb : BookB w p) (hp : base ≤ p) (h : HeldChanges w base p L C) (hL : L.length ≤ 100) :
    Calls Tryz.prog 42 #[.pointer (some ⟨p, 0, none⟩)] w fun e w' => e = .returned (.tuple #[]) ∧ ∃ C', PuttingChanges w w' base p L L.length C' := by
  have HS : Hid (PuttingChanges w w base p L 0 C) := Lib.hid ⟨Below.refl _ _, Turn.refl _ _ _ _, hb, h, fun _ _ q => absurd q (Nat.not_lt_zero _)⟩
  have HB := Lib.hid h
  have hLi : (L.length : Int) ≤ 100 := by omega
  clear h hb
  go_enter Tryz.func42, Tryz.ntmps42
  go_wp2
  go_loopw [2] (fun i wr => ∃ k : Nat, k ≤ L.length ∧ i = .int .i64 (k : Int) ∧ Hid (∃ C', PuttingChanges w wr base p L k C')) (fun i _ => L.length - (intOf i).toNat)
  case atStart => exact ⟨0, Nat.zero_le _, rfl, Lib.hid ⟨C, HS.out⟩⟩
  case round =>
    obtain ⟨k, hk, rfl, HP⟩ := hrel
    obtain ⟨C1, hP⟩ := HP.out
    obtain ⟨ao, co, c0, o0⟩ := hP.held.ex
    by_cases hlt : k < L.length
    · have hx : L[k]? = some L[k] := List.getElem?_eq_getElem hlt
      obtain ⟨go, co', hv, hrow, _⟩ := own_blkK o0 (by omega)
      obtain ⟨rfl, rfl⟩ : ao = some ⟨go, 0, none⟩ ∧ co = co' := by simpa using hv
      have r0 := (owns_cell o0 (k := k) (x := L[k].cell) (by rw [List.getElem?_map, hx]; rfl)).1
      have hsm := hP.held.small _ (List.getElem_mem hlt)
      generalize L[k] = x at *
      have r1 : wr.cell? ⟨go, k, none⟩ = some (.slice x.a x.l.length x.c) := r0
      have hi1 : (k : Int) < (L.length : Int) := by omega
      have hk1 : (k : Int) ≤ 1000 := by omega
      have hgo : go < wr.heap.size := (o0.lt go rfl).2
      have HQ := Lib.hid (And.intro hP (And.intro hx (And.intro hsm (And.intro hgo o0))))
      clear hP hx r0 hv hrow o0 HP
      go_wp2_with (go_at_call 73
                   refine (markChanges_is (k : Int) 0 x.l.length _ (by omega) hk1 (by decide) (by have := HQ.out.2.2.1; omega)).mono ?_
                   rintro e w2 ⟨vm, rfl, b2, o2⟩
                   obtain ⟨am, cm, rfl, l2, hform⟩ := own_formK o2
                   have H2 := Lib.hid (And.intro b2 (And.intro o2 (And.intro l2 hform)))
                   clear b2 o2 l2 hform)
      have hml : (marksChanges (k : Int) 0 x.l.length).length = x.l.length := by simp [marksChanges]
      generalize hme : marksChanges (k : Int) 0 x.l.length = md at *
      have HME := Lib.hid hme.symm
      clear hme
      have HI0 : Hid (∃ C', PuttingChanges w w2 base p L k C' ∧ (C' k).take 0 = md.take 0 ∧ LiesAt w2 am (flat Chg.cells md)) := Lib.hid ⟨C1, ⟨HQ.out.1.below.trans (H2.out.1.mono (Nat.le_trans hp (Nat.le_of_lt HQ.out.1.book.lt))), HQ.out.1.turn.trans (Turn.of_below H2.out.1 HQ.out.1.book.lt), book_of_block (H2.out.1.block p HQ.out.1.book.lt) HQ.out.1.book, HQ.out.1.held.below HQ.out.1.book H2.out.1, HQ.out.1.done⟩, by simp, H2.out.2.2.1⟩
      have hgx : ∀ g, x.cell.ownBlock = some g → ∀ b : Addr, am = some b → b.block ≠ g := fun g hg b hb => by
        have h1 := ((HQ.out.1.held.each k x HQ.out.2.1).lt g hg).2
        rcases H2.out.2.2.2 with e | ⟨g', e, h2, _⟩
        · rw [e] at hb; cases hb
        · rw [hb] at e
          obtain rfl : b = ⟨g', 0, none⟩ := by simpa using e
          show g' ≠ g
          omega
      have HG := Lib.hid hgx
      clear hgx c0 r1
      go_loopw [4] (fun i wx => ∃ j : Nat, j ≤ x.l.length ∧ i = .int .i64 (j : Int) ∧ Hid (∃ C', PuttingChanges w wx base p L k C' ∧ (C' k).take j = md.take j ∧ LiesAt wx am (flat Chg.cells md))) (fun i _ => x.l.length - (intOf i).toNat)
      case atStart => exact ⟨0, Nat.zero_le _, rfl, HI0⟩
      case round =>
        obtain ⟨j, hj, rfl, HJ⟩ := hrel
        obtain ⟨C2, hS, hpart, hmd⟩ := HJ.out
        by_cases hjl : j < x.l.length
        · obtain ⟨ao', co2, c0, o0⟩ := hS.held.ex
          obtain ⟨go', co', hv, _⟩ := own_blkK o0 (by omega)
          obtain ⟨rfl, rfl⟩ : ao' = some ⟨go', 0, none⟩ ∧ co2 = co' := by simpa using hv
          have r1 : wr.cell? ⟨go', k, none⟩ = some (.slice x.a x.l.length x.c) := (owns_cell o0 (k := k) (x := x.cell) (by rw [List.getElem?_map, HQ.out.2.1]; rfl)).1
          have ok := hS.held.each k x HQ.out.2.1
          have hlen : (C2 k).length = x.l.length := by have := ok.1; rw [flat_len Chg.len] at this; omega
          obtain ⟨g, cx, hxc, _⟩ := own_blkK ok (by omega)
          have hst := hS.held.store hS.book HQ.out.2.1 hxc j (by omega) (md[j]'(by omega))
          rw [hxc] at ok
          obtain ⟨y0, y1, t0, q0, t1, q1⟩ := owns_there2 ok (show j < x.l.length by omega)
          obtain ⟨gm, om, hbm, hbl, hm1⟩ := hmd.elem Chg.len (by omega) (List.getElem?_eq_getElem (show j < md.length by omega))
          obtain rfl := hbm
          have hne := HG.out g (by rw [hxc]; rfl) ⟨gm, om, none⟩ rfl
          have hxa : x.a = some ⟨g, 0, none⟩ := by
            have e : x.a = some ⟨g, 0, none⟩ ∧ x.c = cx := by simpa [CL.cell] using hxc
            exact e.1
          rw [hxa] at r1
          have hmj : md[j]? = some (md[j]'(by omega)) := List.getElem?_eq_getElem _
          generalize md[j]'(by omega) = zv at *
          have m0 := hm1 0 _ rfl
          have m1 := hm1 1 _ rfl
          first | (have m2 := hm1 2 _ rfl) | skip
          first | (have m3 := hm1 3 _ rfl) | skip
          first | (have m4 := hm1 4 _ rfl) | skip
          rw [Nat.add_zero] at m0
          have hi2 : (j : Int) < (x.l.length : Int) := by omega
          have hgt := not_book hS.book (hS.held.each k x HQ.out.2.1) (by decide) (show x.cell.ownBlock = some g by rw [hxc]; rfl)
          have HN : Hid (∃ C', PuttingChanges w (wr.setCells g (j * 2) zv.cells) base p L k C' ∧ (C' k).take (j + 1) = md.take (j + 1) ∧ LiesAt (wr.setCells g (j * 2) zv.cells) (some ⟨gm, om, none⟩) (flat Chg.cells md)) := Lib.hid ⟨_, ⟨hS.below.trans hst.2.1, hS.turn.trans (Turn.stores _ hS.book hgt (by
            have hg0 : x.cell.ownBlock = some g := by rw [hxc]; rfl
            obtain ⟨cur, hh⟩ := own_type (HB.out.each k x HQ.out.2.1) hg0
            exact ⟨cur, _, hh⟩)), hst.2.2.1, hst.1, fun k' y hk' hy => by
              rw [if_neg (by omega)]
              exact hS.done k' y hk' hy⟩, by
              rw [if_pos rfl]
              exact take_set_next hpart (by omega) hmj, hmd.of_blocks (Nat.le_of_eq (size_sets _ _ _ _).symm) (fun b hb => heap_sets _ _ _ _ _ (by
                obtain rfl : ⟨gm, om, none⟩ = b := by simpa using hb
                exact hne))⟩
          clear hS hpart hmd ok hst hmj hne hbl hgt hlen o0 hv HJ HI0 hm1
          go_wp2_with fail
          go_region
          all_goals
            go_wp2
            obtain ⟨C', n1, n2, n3⟩ := HN.out
            exact ⟨⟨j + 1, by omega, by go_num, Lib.hid ⟨C', n1.next hp (Below.refl _ _).drew, n2, n3.below (Below.refl _ _).drew⟩⟩, by simp [intOf]; omega⟩
        · obtain rfl : j = x.l.length := by omega
          have hn : ¬ (x.l.length : Int) < (x.l.length : Int) := by omega
          have HN : Hid (∃ C', PuttingChanges w wr base p L (k + 1) C') := Lib.hid ⟨C2, ⟨hS.below, hS.turn, hS.book, hS.held, fun k' y hk' hy => by
            rcases Nat.lt_or_ge k' k with e | e
            · exact hS.done k' y e hy
            · obtain rfl : k' = k := by omega
              obtain rfl : x = y := by rw [HQ.out.2.1] at hy; simpa using hy
              have ok := hS.held.each k' x HQ.out.2.1
              have hlen : (C2 k').length = x.l.length := by have := ok.1; rw [flat_len Chg.len] at this; omega
              rw [List.take_of_length_le (by omega), List.take_of_length_le (by omega)] at hpart
              rw [hpart]
              exact HME.out⟩⟩
          clear hS hpart hmd HJ HI0 hjl hj
          go_wp2
          exact ⟨⟨k + 1, by omega, by go_num, HN⟩, by simp [intOf]; omega⟩
    · obtain rfl : k = L.length := by omega
      have hn : ¬ (L.length : Int) < (L.length : Int) := by omega
      clear hlt hk hP o0
      go_wp2
      exact bodyPost_end (results_none rfl _ _ _) rfl ⟨rfl, HP.out⟩
/-- The lists of a kind, whatever is in them now. -/
structure HeldEntries (w : World) (base p : Nat) (L : List EL) (C : Nat → List Ent) : Prop where
  ex : ∃ ao co, w.cell? ⟨p, 6, none⟩ = some (.slice ao L.length co) ∧ w.ownsRow base 69 1 (.slice ao L.length co) L.length (L.map EL.cell)
  each : ∀ (i : Nat) (x : EL), L[i]? = some x → w.ownsRow base 101 5 x.cell x.l.length (flat Ent.cells (C i))
  apart : ∀ (i j : Nat) (x y : EL), i ≠ j → L[i]? = some x → L[j]? = some y → ∀ g, x.cell.ownBlock = some g → y.cell.ownBlock ≠ some g
  small : ∀ x ∈ L, x.l.length ≤ 1000
theorem KeepEntries.held {w : World} {base p : Nat} {L M : List EL} (h : KeepEntries w base p L M) : HeldEntries w base p L (fun i => (L[i]?.map (·.l)).getD []) := by
  obtain ⟨vO, vM, c0, _, o0, _, _⟩ := h.ex
  obtain ⟨ao, co, rfl⟩ := owns_slice o0
  refine ⟨⟨ao, co, c0, o0⟩, fun i x hx => by rw [hx]; exact h.each x (List.mem_of_getElem? hx), fun i j x y hij hx hy => ?_, h.small⟩
  have hp := List.pairwise_iff_getElem.1 h.apart
  obtain ⟨hi, rfl⟩ := List.getElem?_eq_some_iff.1 hx
  obtain ⟨hj, rfl⟩ := List.getElem?_eq_some_iff.1 hy
  rcases Nat.lt_or_gt_of_ne hij with q | q
  · exact hp i j hi hj q
  · exact fun g e1 e2 => hp j i hj hi q g e2 e1
theorem HeldEntries.below {w w' : World} {base p : Nat} {L : List EL} {C : Nat → List Ent} (h : HeldEntries w base p L C) (hb : BookB w p) (b : Below w.heap.size w w') : HeldEntries w' base p L C := by
  obtain ⟨ao, co, c0, o0⟩ := h.ex
  have t : Turn w w' p (fun _ => False) (fun _ => False) := Turn.of_below b hb.lt
  exact ⟨⟨ao, co, by rw [t.cell _ id]; exact c0, own_belowK o0 b⟩, fun i x hx => own_belowK (h.each i x hx) b, h.apart, h.small⟩
theorem HeldEntries.other {w w' : World} {base p : Nat} {L : List EL} {C : Nat → List Ent} (h : HeldEntries w base p L C) (hb : BookB w p) {J : Nat → Prop} {T : TypeId} (t : Turn w w' p J (OfType w T)) (hJ : ¬ J 6) (h1 : 101 ≠ T) (h2 : 69 ≠ T) : HeldEntries w' base p L C := by
  obtain ⟨ao, co, c0, o0⟩ := h.ex
  exact ⟨⟨ao, co, by rw [t.cell _ hJ]; exact c0, owns_typed o0 hb t h2 (by decide)⟩, fun i x hx => owns_typed (h.each i x hx) hb t h1 (by decide), h.apart, h.small⟩
/-- A store into one of them. -/
theorem HeldEntries.store {w : World} {base p : Nat} {L : List EL} {C : Nat → List Ent} (h : HeldEntries w base p L C) (hb : BookB w p) {k : Nat} {x : EL} (hk : L[k]? = some x) {g c : Nat} (hx : x.cell = .slice (some ⟨g, 0, none⟩) x.l.length c) (j : Nat) (hj : j < (C k).length) (v : Ent) :
    HeldEntries (w.setCells g (j * 5) v.cells) base p L (fun i => if i = k then (C k).set j v else C i) ∧ Below base w (w.setCells g (j * 5) v.cells) ∧ BookB (w.setCells g (j * 5) v.cells) p ∧ g ≠ p ∧ g < w.heap.size := by
  have ok := h.each k x hk
  have hg : x.cell.ownBlock = some g := by rw [hx]; rfl
  have hgp := not_book hb ok (by decide) hg
  have hbp := heap_sets g v.cells (j * 5) w p (fun e => hgp e.symm)
  obtain ⟨ao, co, c0, o0⟩ := h.ex
  refine ⟨⟨⟨ao, co, (World.cell?_of_block (w := w) (a := ⟨p, 6, none⟩) hbp).trans c0, owns_otherB o0 (fun g' e => heap_sets _ _ _ _ _ (fun q => ?_))⟩, fun i y hy => ?_, h.apart, h.small⟩, below_sets (ok.lt g hg).1 _ _ (Below.refl _ _), book_of_block hbp hb, hgp, (ok.lt g hg).2⟩
  · subst q
    obtain ⟨cur, hh⟩ := own_type o0 e
    exact not_type ok (show 101 ≠ 69 by decide) hg ⟨cur, _, hh⟩
  · by_cases hi : i = k
    · subst hi
      obtain rfl : x = y := by rw [hk] at hy; simpa using hy
      rw [if_pos rfl, flat_set Ent.len _ _ hj]
      rw [hx] at ok ⊢
      exact owns_setRun _ _ ok
    · rw [if_neg hi]
      exact owns_otherB (h.each i y hy) (fun g' e => heap_sets _ _ _ _ _ (fun q => h.apart i k y x hi hy hk g (by rw [← q]; exact e) hg))

/-- So far lists are marked. -/
structure PuttingEntries (w wr : World) (base p : Nat) (L : List EL) (k : Nat) (C : Nat → List Ent) : Prop where
  below : Below base w wr
  turn : Turn w wr p (fun _ => False) (OfType w 101)
  book : BookB wr p
  held : HeldEntries wr base p L C
  done : ∀ (k' : Nat) (x : EL), k' < k → L[k']? = some x → C k' = marksEntries (k' : Int) 0 x.l.length

theorem PuttingEntries.next {w wr wx : World} {base p : Nat} {L : List EL} {k : Nat} {C : Nat → List Ent} (h : PuttingEntries w wr base p L k C) (hp : base ≤ p) (b : Below wr.heap.size wr wx) : PuttingEntries w wx base p L k C :=
  ⟨h.below.trans (b.mono (Nat.le_trans hp (Nat.le_of_lt h.book.lt))), h.turn.trans (Turn.of_below b h.book.lt), book_of_block (b.block p h.book.lt) h.book, h.held.below h.book b, h.done⟩
set_option maxRecDepth 100000 in
set_option maxHeartbeats 2000000 in
theorem putEntries_is (base p : Nat) (L : List EL) (C : Nat → List Ent) (w : World) (hb : BookB w p) (hp : base ≤ p) (h : HeldEntries w base p L C) (hL : L.length ≤ 100) :
    Calls Tryz.prog 43 #[.pointer (some ⟨p, 0, none⟩)] w fun e w' => e = .returned (.tuple #[]) ∧ ∃ C', PuttingEntries w w' base p L L.length C' := by
  have HS : Hid (PuttingEntries w w base p L 0 C) := Lib.hid ⟨Below.refl _ _, Turn.refl _ _ _ _, hb, h, fun _ _ q => absurd q (Nat.not_lt_zero _)⟩
  have HB := Lib.hid h
  have hLi : (L.length : Int) ≤ 100 := by omega
  clear h hb
  go_enter Tryz.func43, Tryz.ntmps43
  go_wp2
  go_loopw [2] (fun i wr => ∃ k : Nat, k ≤ L.length ∧ i = .int .i64 (k : Int) ∧ Hid (∃ C', PuttingEntries w wr base p L k C')) (fun i _ => L.length - (intOf i).toNat)
  case atStart => exact ⟨0, Nat.zero_le _, rfl, Lib.hid ⟨C, HS.out⟩⟩
  case round =>
    obtain ⟨k, hk, rfl, HP⟩ := hrel
    obtain ⟨C1, hP⟩ := HP.out
    obtain ⟨ao, co, c0, o0⟩ := hP.held.ex
    by_cases hlt : k < L.length
    · have hx : L[k]? = some L[k] := List.getElem?_eq_getElem hlt
      obtain ⟨go, co', hv, hrow, _⟩ := own_blkK o0 (by omega)
      obtain ⟨rfl, rfl⟩ : ao = some ⟨go, 0, none⟩ ∧ co = co' := by simpa using hv
      have r0 := (owns_cell o0 (k := k) (x := L[k].cell) (by rw [List.getElem?_map, hx]; rfl)).1
      have hsm := hP.held.small _ (List.getElem_mem hlt)
      generalize L[k] = x at *
      have r1 : wr.cell? ⟨go, k, none⟩ = some (.slice x.a x.l.length x.c) := r0
      have hi1 : (k : Int) < (L.length : Int) := by omega
      have hk1 : (k : Int) ≤ 1000 := by omega
      have hgo : go < wr.heap.size := (o0.lt go rfl).2
      have HQ := Lib.hid (And.intro hP (And.intro hx (And.intro hsm (And.intro hgo o0))))
      clear hP hx r0 hv hrow o0 HP
      go_wp2_with (go_at_call 74
                   refine (markEntries_is (k : Int) 0 x.l.length _ (by omega) hk1 (by decide) (by have := HQ.out.2.2.1; omega)).mono ?_
                   rintro e w2 ⟨vm, rfl, b2, o2⟩
                   obtain ⟨am, cm, rfl, l2, hform⟩ := own_formK o2
                   have H2 := Lib.hid (And.intro b2 (And.intro o2 (And.intro l2 hform)))
                   clear b2 o2 l2 hform)
      have hml : (marksEntries (k : Int) 0 x.l.length).length = x.l.length := by simp [marksEntries]
      generalize hme : marksEntries (k : Int) 0 x.l.length = md at *
      have HME := Lib.hid hme.symm
      clear hme
      have HI0 : Hid (∃ C', PuttingEntries w w2 base p L k C' ∧ (C' k).take 0 = md.take 0 ∧ LiesAt w2 am (flat Ent.cells md)) := Lib.hid ⟨C1, ⟨HQ.out.1.below.trans (H2.out.1.mono (Nat.le_trans hp (Nat.le_of_lt HQ.out.1.book.lt))), HQ.out.1.turn.trans (Turn.of_below H2.out.1 HQ.out.1.book.lt), book_of_block (H2.out.1.block p HQ.out.1.book.lt) HQ.out.1.book, HQ.out.1.held.below HQ.out.1.book H2.out.1, HQ.out.1.done⟩, by simp, H2.out.2.2.1⟩
      have hgx : ∀ g, x.cell.ownBlock = some g → ∀ b : Addr, am = some b → b.block ≠ g := fun g hg b hb => by
        have h1 := ((HQ.out.1.held.each k x HQ.out.2.1).lt g hg).2
        rcases H2.out.2.2.2 with e | ⟨g', e, h2, _⟩
        · rw [e] at hb; cases hb
        · rw [hb] at e
          obtain rfl : b = ⟨g', 0, none⟩ := by simpa using e
          show g' ≠ g
          omega
      have HG := Lib.hid hgx
      clear hgx c0 r1
      go_loopw [4] (fun i wx => ∃ j : Nat, j ≤ x.l.length ∧ i = .int .i64 (j : Int) ∧ Hid (∃ C', PuttingEntries w wx base p L k C' ∧ (C' k).take j = md.take j ∧ LiesAt wx am (flat Ent.cells md))) (fun i _ => x.l.length - (intOf i).toNat)
      case atStart => exact ⟨0, Nat.zero_le _, rfl, HI0⟩
      case round =>
        obtain ⟨j, hj, rfl, HJ⟩ := hrel
        obtain ⟨C2, hS, hpart, hmd⟩ := HJ.out
        by_cases hjl : j < x.l.length
        · obtain ⟨ao', co2, c0, o0⟩ := hS.held.ex
          obtain ⟨go', co', hv, _⟩ := own_blkK o0 (by omega)
          obtain ⟨rfl, rfl⟩ : ao' = some ⟨go', 0, none⟩ ∧ co2 = co' := by simpa using hv
          have r1 : wr.cell? ⟨go', k, none⟩ = some (.slice x.a x.l.length x.c) := (owns_cell o0 (k := k) (x := x.cell) (by rw [List.getElem?_map, HQ.out.2.1]; rfl)).1
          have ok := hS.held.each k x HQ.out.2.1
          have hlen : (C2 k).length = x.l.length := by have := ok.1; rw [flat_len Ent.len] at this; omega
          obtain ⟨g, cx, hxc, _⟩ := own_blkK ok (by omega)
          have hst := hS.held.store hS.book HQ.out.2.1 hxc j (by omega) (md[j]'(by omega))
          rw [hxc] at ok
          obtain ⟨y0, y1, y2, y3, y4, t0, q0, t1, q1, t2, q2, t3, q3, t4, q4⟩ := owns_there5 ok (show j < x.l.length by omega)
          obtain ⟨gm, om, hbm, hbl, hm1⟩ := hmd.elem Ent.len (by omega) (List.getElem?_eq_getElem (show j < md.length by omega))
          obtain rfl := hbm
          have hne := HG.out g (by rw [hxc]; rfl) ⟨gm, om, none⟩ rfl
          have hxa : x.a = some ⟨g, 0, none⟩ := by
            have e : x.a = some ⟨g, 0, none⟩ ∧ x.c = cx := by simpa [EL.cell] using hxc
            exact e.1
          rw [hxa] at r1
          have hmj : md[j]? = some (md[j]'(by omega)) := List.getElem?_eq_getElem _
          generalize md[j]'(by omega) = zv at *
          have m0 := hm1 0 _ rfl
          have m1 := hm1 1 _ rfl
          first | (have m2 := hm1 2 _ rfl) | skip
          first | (have m3 := hm1 3 _ rfl) | skip
          first | (have m4 := hm1 4 _ rfl) | skip
          rw [Nat.add_zero] at m0
          have hi2 : (j : Int) < (x.l.length : Int) := by omega
          have hgt := not_book hS.book (hS.held.each k x HQ.out.2.1) (by decide) (show x.cell.ownBlock = some g by rw [hxc]; rfl)
          have HN : Hid (∃ C', PuttingEntries w (wr.setCells g (j * 5) zv.cells) base p L k C' ∧ (C' k).take (j + 1) = md.take (j + 1) ∧ LiesAt (wr.setCells g (j * 5) zv.cells) (some ⟨gm, om, none⟩) (flat Ent.cells md)) := Lib.hid ⟨_, ⟨hS.below.trans hst.2.1, hS.turn.trans (Turn.stores _ hS.book hgt (by
            have hg0 : x.cell.ownBlock = some g := by rw [hxc]; rfl
            obtain ⟨cur, hh⟩ := own_type (HB.out.each k x HQ.out.2.1) hg0
            exact ⟨cur, _, hh⟩)), hst.2.2.1, hst.1, fun k' y hk' hy => by
              rw [if_neg (by omega)]
              exact hS.done k' y hk' hy⟩, by
              rw [if_pos rfl]
              exact take_set_next hpart (by omega) hmj, hmd.of_blocks (Nat.le_of_eq (size_sets _ _ _ _).symm) (fun b hb => heap_sets _ _ _ _ _ (by
                obtain rfl : ⟨gm, om, none⟩ = b := by simpa using hb
                exact hne))⟩
          clear hS hpart hmd ok hst hmj hne hbl hgt hlen o0 hv HJ HI0 hm1
          go_wp2_with fail
          go_region
          all_goals
            go_wp2
            obtain ⟨C', n1, n2, n3⟩ := HN.out
            exact ⟨⟨j + 1, by omega, by go_num, Lib.hid ⟨C', n1.next hp (Below.refl _ _).drew, n2, n3.below (Below.refl _ _).drew⟩⟩, by simp [intOf]; omega⟩
        · obtain rfl : j = x.l.length := by omega
          have hn : ¬ (x.l.length : Int) < (x.l.length : Int) := by omega
          have HN : Hid (∃ C', PuttingEntries w wr base p L (k + 1) C') := Lib.hid ⟨C2, ⟨hS.below, hS.turn, hS.book, hS.held, fun k' y hk' hy => by
            rcases Nat.lt_or_ge k' k with e | e
            · exact hS.done k' y e hy
            · obtain rfl : k' = k := by omega
              obtain rfl : x = y := by rw [HQ.out.2.1] at hy; simpa using hy
              have ok := hS.held.each k' x HQ.out.2.1
              have hlen : (C2 k').length = x.l.length := by have := ok.1; rw [flat_len Ent.len] at this; omega
              rw [List.take_of_length_le (by omega), List.take_of_length_le (by omega)] at hpart
              rw [hpart]
              exact HME.out⟩⟩
          clear hS hpart hmd HJ HI0 hjl hj
          go_wp2
          exact ⟨⟨k + 1, by omega, by go_num, HN⟩, by simp [intOf]; omega⟩
    · obtain rfl : k = L.length := by omega
      have hn : ¬ (L.length : Int) < (L.length : Int) := by omega
      clear hlt hk hP o0
      go_wp2
      exact bodyPost_end (results_none rfl _ _ _) rfl ⟨rfl, HP.out⟩
end Go.Proofs.YtbcdmcafobjpcaaGreatDoor.Bk
-- BookWGrow
/- The book: lists of structs: growing. -/
namespace Go.Proofs.YtbcdmcafobjpcaaGreatDoor.Bk
open Go.RowKit

structure GrowChanges (w wr : World) (base p : Nat) (L : List CL) (C : Nat → List Chg) (N : Nat) (Lo : List CL) (vo : Value) : Prop where
  below : Below base w wr
  turn : Turn w wr p (fun _ => False) (OfType w 55)
  book : BookB wr p
  held : HeldChanges wr base p L C
  out : wr.ownsRow w.heap.size 28 1 vo Lo.length (Lo.map CL.cell)
  lo : ∀ (i : Nat) (y : CL), Lo[i]? = some y → wr.ownsRow base 55 2 y.cell y.l.length (flat Chg.cells y.l) ∧ y.l = marksChanges (i : Int) 0 y.l.length ∧ y.l.length ≤ 2000 ∧ (∀ g, y.cell.ownBlock = some g → g < N ∧ ∀ (j : Nat) (x : CL), i ≠ j → L[j]? = some x → x.cell.ownBlock ≠ some g)
  N : w.heap.size ≤ N ∧ N ≤ wr.heap.size
theorem GrowChanges.next {w wr w' : World} {base p N : Nat} {L Lo : List CL} {C : Nat → List Chg} {vo : Value} (h : GrowChanges w wr base p L C N Lo vo) (hp : base ≤ p) (b : Below wr.heap.size wr w') : GrowChanges w w' base p L C N Lo vo :=
  ⟨h.below.trans (b.mono (Nat.le_trans hp (Nat.le_of_lt h.book.lt))), h.turn.trans (Turn.of_below b h.book.lt), book_of_block (b.block p h.book.lt) h.book, h.held.below h.book b, own_belowK h.out b,
    fun i y hy => ⟨own_belowK (h.lo i y hy).1 b, (h.lo i y hy).2⟩, ⟨h.N.1, Nat.le_trans h.N.2 b.size⟩⟩
/-- A row of elements has grown where it was. -/
theorem GrowChanges.grown {w wr w' : World} {base p N g : Nat} {L Lo : List CL} {C : Nat → List Chg} {vo : Value} (h : GrowChanges w wr base p L C N Lo vo) (hp : base ≤ p) (hg : wr.grownBy w' (some g)) (c1 : g ≠ p) (c2 : OfType w 55 g ∨ w.heap.size ≤ g) (c3 : base ≤ g)
    (c4 : ∀ (i : Nat) (x : CL), L[i]? = some x → w'.ownsRow base 55 2 x.cell x.l.length (flat Chg.cells (C i))) (c5 : OfType wr 55 g) (c6 : ∀ (i : Nat) (y : CL), Lo[i]? = some y → y.cell.ownBlock ≠ some g) : GrowChanges w w' base p L C N Lo vo := by
  have hpl := h.book.lt
  have t := h.turn.more hg hpl (fun g' e => by
    obtain rfl : g = g' := by simpa using e
    exact ⟨c1, c2⟩)
  obtain ⟨ao, co, e0, o0⟩ := h.held.ex
  have nO : ∀ {b v m cs}, wr.ownsRow b 28 1 v m cs → ∀ g', v.ownBlock = some g' → some g ≠ some g' := fun ho g' e q => by
    obtain rfl : g = g' := by simpa using q
    exact not_type ho (show 28 ≠ 55 by decide) e c5
  have hbp : w'.heap[p]? = wr.heap[p]? := grown_block hg hpl (fun e => c1 (by simpa using e))
  refine ⟨h.below.grown hg (Nat.le_trans hp (Nat.le_of_lt hpl)) (fun k hk => by
      obtain rfl : g = k := by simpa using hk
      exact c3), t, book_of_block hbp h.book, ⟨⟨ao, co, (World.cell?_of_block (w := wr) (a := ⟨p, 4, none⟩) hbp).trans e0, owns_grown o0 hg (nO o0)⟩, c4, h.held.apart, h.held.small⟩, owns_grown h.out hg (nO h.out), fun i y hy => ⟨owns_grown (h.lo i y hy).1 hg (fun g' e q => ?_), (h.lo i y hy).2⟩, ⟨h.N.1, Nat.le_trans h.N.2 hg.size⟩⟩
  obtain rfl : g = g' := by simpa using q
  exact c6 i y hy e
/-- One append onto a list's row. -/
theorem GrowChanges.step {w wr w' : World} {base p N g cap k q m cl : Nat} {al : Option Addr} {L Lo : List CL} {C C0 : Nat → List Chg} {vo : Value} {x : CL} {xs ys : List Chg} (h : GrowChanges w wr base p L C N Lo vo) (hp : base ≤ p) (hw : HeldChanges w base p L C0)
    (hx : L[k]? = some x) (hk : k = Lo.length) (hv : wr.ownsRow base 55 2 (.slice al q cl) q (flat Chg.cells xs)) (hq : x.l.length ≤ q) (hblk : (al = x.a ∧ cl = x.c) ∨ ∀ g', Value.ownBlock (.slice al q cl) = some g' → N ≤ g')
    (hgr : GrewK wr w' (.slice al q cl) q g cap) (hown : w'.ownsRow base 55 2 (.slice (some ⟨g, 0, none⟩) (q + m) cap) (q + m) (flat Chg.cells ys)) (hys : ys.take x.l.length = C k) :
    GrowChanges w w' base p L C N Lo vo ∧ ((some ⟨g, 0, none⟩ = x.a ∧ cap = x.c) ∨ ∀ g', Value.ownBlock (.slice (some ⟨g, 0, none⟩) (q + m) cap) = some g' → N ≤ g') := by
  rcases hgr with ⟨e, hg⟩ | ⟨e, hg⟩
  · obtain ⟨rfl, rfl⟩ : al = some ⟨g, 0, none⟩ ∧ cl = cap := by simpa using e
    have c5 : OfType wr 55 g := by
      obtain ⟨cur, hh⟩ := own_type hv rfl
      exact ⟨cur, _, hh⟩
    have c1 : g ≠ p := not_book h.book hv (by decide) rfl
    have c3 : base ≤ g := (hv.lt g rfl).1
    rcases hblk with ⟨b1, b2⟩ | hN
    · have hxg : x.cell.ownBlock = some g := by rw [CL.cell, ← b1]; rfl
      have c2 : OfType w 55 g := by
        obtain ⟨cur, hh⟩ := own_type (hw.each k x hx) hxg
        exact ⟨cur, _, hh⟩
      refine ⟨h.grown hp hg c1 (.inl c2) c3 (fun i y hy => ?_) c5 (fun i y hy => ?_), .inl ⟨b1, b2⟩⟩
      · by_cases hi : i = k
        · subst hi
          obtain rfl : x = y := by rw [hx] at hy; simpa using hy
          rw [CL.cell, ← b1, ← b2]
          exact owns_headK hown (by omega) (by rw [flat_take Chg.len, hys])
        · exact owns_grown (h.held.each i y hy) hg (fun g' e q => by
            obtain rfl : g = g' := by simpa using q
            exact h.held.apart i k y x hi hy hx g e hxg)
      · intro e
        have hne : i ≠ k := by have := (List.getElem?_eq_some_iff.1 hy).1; omega
        exact ((h.lo i y hy).2.2.2 g e).2 k x hne hx hxg
    · have hNg := hN g rfl
      have hN0 := h.N.1
      refine ⟨h.grown hp hg c1 (.inr (by omega)) c3 (fun i y hy => ?_) c5 (fun i y hy e => ?_), .inr hN⟩
      · exact owns_grown (h.held.each i y hy) hg (fun g' e q => by
          obtain rfl : g = g' := by simpa using q
          have := ((hw.each i y hy).lt g e).2
          omega)
      · have := ((h.lo i y hy).2.2.2 g e).1
        omega
  · refine ⟨h.next hp (below_none hg), .inr (fun g' e' => ?_)⟩
    obtain rfl : g = g' := by simpa [Value.ownBlock] using e'
    exact Nat.le_trans h.N.2 e
/-- One list more stands in what is told. -/
theorem GrowChanges.push {w wr w' : World} {base p N g cap : Nat} {L Lo : List CL} {C C0 : Nat → List Chg} {vo : Value} {x y : CL} (h : GrowChanges w wr base p L C N Lo vo) (hp : base ≤ p) (hw : HeldChanges w base p L C0) (hwb : BookB w p) (hx : L[Lo.length]? = some x)
    (hy : wr.ownsRow base 55 2 y.cell y.l.length (flat Chg.cells y.l)) (hm : ∀ i, i = Lo.length → y.l = marksChanges (i : Int) 0 y.l.length) (hs : y.l.length ≤ 2000) (hblk : (y.a = x.a ∧ y.c = x.c) ∨ ∀ g', y.cell.ownBlock = some g' → N ≤ g')
    (hgr : GrewK wr w' vo Lo.length g cap) (hown : w'.ownsRow w.heap.size 28 1 (.slice (some ⟨g, 0, none⟩) (Lo.length + 1) cap) (Lo.length + 1) (Lo.map CL.cell ++ [y.cell])) :
    GrowChanges w w' base p L C w'.heap.size (Lo ++ [y]) (.slice (some ⟨g, 0, none⟩) (Lo.length + 1) cap) := by
  have hpl := h.book.lt
  have hsz : wr.heap.size ≤ w'.heap.size := by
    rcases hgr with ⟨_, q⟩ | ⟨_, q⟩ <;> exact q.size
  have hbw : base ≤ w.heap.size := Nat.le_trans hp (Nat.le_of_lt hwb.lt)
  have hrow : ∃ row, wr.grownBy w' row ∧ ∀ g', row = some g' → w.heap.size ≤ g' ∧ OfType wr 28 g' := by
    rcases hgr with ⟨e, q⟩ | ⟨_, q⟩
    · refine ⟨_, q, fun g' e' => ?_⟩
      obtain rfl : g = g' := by simpa using e'
      have hg : vo.ownBlock = some g := by rw [e]; rfl
      obtain ⟨cur, hh⟩ := own_type h.out hg
      exact ⟨(h.out.lt g hg).1, cur, _, hh⟩
    · exact ⟨_, q, fun g' e' => by cases e'⟩
  obtain ⟨row, hg, hr⟩ := hrow
  have nE : ∀ {v m cs}, wr.ownsRow base 55 2 v m cs → ∀ g', v.ownBlock = some g' → row ≠ some g' := fun ho g' e q => not_type ho (show 55 ≠ 28 by decide) e (hr g' q).2
  have hrp : ∀ g', row = some g' → g' ≠ p := fun g' e q => by
    have := (hr g' e).1
    have := hwb.lt
    omega
  have t := h.turn.more hg hpl (fun g' e => ⟨hrp g' e, .inr (hr g' e).1⟩)
  obtain ⟨ao, co, e0, o0⟩ := h.held.ex
  obtain ⟨ao', co', e0', o0'⟩ := hw.ex
  have hbp : w'.heap[p]? = wr.heap[p]? := grown_block hg hpl (fun e => hrp p e rfl)
  have hsame : Value.slice ao L.length co = .slice ao' L.length co' := by
    have := (h.turn.cell 4 id)
    rw [e0, e0'] at this
    simpa using this
  refine ⟨h.below.grown hg (Nat.le_trans hbw h.turn.size) (fun k hk => Nat.le_trans hbw (hr k hk).1), t, book_of_block hbp h.book, ⟨⟨ao, co, (World.cell?_of_block (w := wr) (a := ⟨p, 4, none⟩) hbp).trans e0, owns_grown o0 hg (fun g' e q => ?_)⟩, fun i z hz => owns_grown (h.held.each i z hz) hg (nE (h.held.each i z hz)), h.held.apart, h.held.small⟩, ?_, fun i z hz => ?_, ⟨Nat.le_trans h.turn.size hsz, Nat.le_refl _⟩⟩
  · rw [hsame] at e
    have := (o0'.lt g' e).2
    have := (hr g' q).1
    omega
  · simpa using hown
  · rcases Nat.lt_or_ge i Lo.length with e | e
    · rw [List.getElem?_append_left e] at hz
      obtain ⟨z1, z2, z3, z4⟩ := h.lo i z hz
      exact ⟨owns_grown z1 hg (nE z1), z2, z3, fun g' hg' => ⟨Nat.lt_of_lt_of_le (z1.lt g' hg').2 hsz, (z4 g' hg').2⟩⟩
    · rw [List.getElem?_append_right e] at hz
      have hi : i = Lo.length := by have := (List.getElem?_eq_some_iff.1 hz).1; simp at this; omega
      subst hi
      obtain rfl : y = z := by simpa using hz
      refine ⟨owns_grown hy hg (nE hy), hm _ rfl, hs, fun g' hg' => ⟨Nat.lt_of_lt_of_le (hy.lt g' hg').2 hsz, fun j u hj hu hug => ?_⟩⟩
      rcases hblk with ⟨b1, b2⟩ | hN
      · have hxg : x.cell.ownBlock = some g' := by
          rw [CL.cell, ← b1]
          rw [CL.cell] at hg'
          cases hya : y.a with
          | none => rw [hya] at hg'; cases hg'
          | some b => rw [hya] at hg'; exact hg'
        exact hw.apart Lo.length j x u hj hx hu g' hxg hug
      · have h1 := hN g' hg'
        have h2 := ((hw.each j u hu).lt g' hug).2
        have h3 := h.N.1
        omega

theorem grow_startChanges {w : World} {base p : Nat} {L : List CL} {C : Nat → List Chg} (hb : BookB w p) (h : HeldChanges w base p L C) : GrowChanges w w base p L C w.heap.size [] (.slice none 0 0) :=
  ⟨Below.refl _ _, Turn.refl _ _ _ _, hb, h, World.ownsRow_nil _ _ _ _, fun i y hy => by simp at hy, ⟨Nat.le_refl _, Nat.le_refl _⟩⟩

set_option maxRecDepth 100000 in
set_option maxHeartbeats 4000000 in
theorem growChanges_is (base p : Nat) (L : List CL) (C : Nat → List Chg) (w : World) (hb : BookB w p) (hp : base ≤ p) (h : HeldChanges w base p L C) (hC : ∀ (k : Nat) (x : CL), L[k]? = some x → C k = marksChanges (k : Int) 0 x.l.length) (hL : L.length ≤ 100) :
    Calls Tryz.prog 47 #[.pointer (some ⟨p, 0, none⟩)] w fun e w' => ∃ N Lo vo, e = .returned vo ∧ Lo.length = L.length ∧ GrowChanges w w' base p L C N Lo vo := by
  obtain ⟨i0, hi, hz0, hz1, hz2⟩ := info_parts outInfoChanges
  have HI := Lib.hid (And.intro hi (And.intro hz0 (And.intro hz1 hz2)))
  clear hi hz0 hz1 hz2
  obtain ⟨i1, hi, hz0, hz1, hz2⟩ := info_parts chgInfo
  have HJ := Lib.hid (And.intro hi (And.intro hz0 (And.intro hz1 hz2)))
  clear hi hz0 hz1 hz2
  have HS := Lib.hid (grow_startChanges hb h)
  have HB := Lib.hid (And.intro hb (And.intro h hC))
  have hLi : (L.length : Int) ≤ 100 := by omega
  clear h hb hC
  go_enter Tryz.func47, Tryz.ntmps47
  go_wp2
  go_loopw [3, 4] (fun ov i wr => ∃ (k N : Nat) (Lo : List CL), k ≤ L.length ∧ i = .int .i64 (k : Int) ∧ Hid (Lo.length = k ∧ GrowChanges w wr base p L C N Lo ov)) (fun _ i _ => L.length - (intOf i).toNat)
  case atStart => exact ⟨0, _, [], Nat.zero_le _, rfl, Lib.hid ⟨rfl, HS.out⟩⟩
  case round =>
    obtain ⟨k, N, Lo, hk, rfl, HP⟩ := hrel
    obtain ⟨ao, co, c0, o0⟩ := HP.out.2.held.ex
    by_cases hlt : k < L.length
    · have hx : L[k]? = some L[k] := List.getElem?_eq_getElem hlt
      obtain ⟨go, co', hv, _, _, hgo⟩ := own_blkK o0 (by omega)
      obtain ⟨rfl, rfl⟩ : ao = some ⟨go, 0, none⟩ ∧ co = co' := by simpa using hv
      have r0 := (owns_cell o0 (k := k) (x := L[k].cell) (by rw [List.getElem?_map, hx]; rfl)).1
      have hsm := HP.out.2.held.small _ (List.getElem_mem hlt)
      have hCk := HB.out.2.2 k _ hx
      generalize L[k] = x at *
      have r1 : wr.cell? ⟨go, k, none⟩ = some (.slice x.a x.l.length x.c) := r0
      have hi1 : (k : Int) < (L.length : Int) := by omega
      have hk1 : (k : Int) ≤ 1000 := by omega
      have HQ := Lib.hid (And.intro hx hCk)
      have HR : Hid (GrowChanges w wr base p L C N Lo u3 ∧ wr.ownsRow base 55 2 (.slice x.a (x.l.length + 0) x.c) (x.l.length + 0) (flat Chg.cells (marksChanges (k : Int) 0 (x.l.length + 0))) ∧ ((x.a = x.a ∧ x.c = x.c) ∨ ∀ g', Value.ownBlock (.slice x.a (x.l.length + 0) x.c) = some g' → N ≤ g')) := Lib.hid ⟨HP.out.2, by
        have := HP.out.2.held.each k x hx
        rw [hCk] at this
        exact this, .inl ⟨rfl, rfl⟩⟩
      have HK := Lib.hid HP.out.1
      clear hx r0 hv o0 HP hCk
      go_wp2
      go_loopw [5, 6] (fun lv i wx => ∃ (q s cl : Nat) (al : Option Addr), q ≤ 12 ∧ s ≤ 1012 ∧ Hid (s = x.l.length + q) ∧ i = .int .i64 (q : Int) ∧ lv = .slice al s cl ∧ Hid (GrowChanges w wx base p L C N Lo u3 ∧ wx.ownsRow base 55 2 (.slice al s cl) s (flat Chg.cells (marksChanges (k : Int) 0 s)) ∧ ((al = x.a ∧ cl = x.c) ∨ ∀ g', Value.ownBlock (.slice al s cl) = some g' → N ≤ g'))) (fun _ i _ => 12 - (intOf i).toNat)
      case atStart => exact ⟨0, x.l.length, x.c, x.a, Nat.zero_le _, by omega, Lib.hid rfl, rfl, rfl, Lib.hid ⟨HR.out.1, HR.out.2.1, .inl ⟨rfl, rfl⟩⟩⟩
      case round =>
        obtain ⟨q, s, cl, al, hq, hs1, hs2, rfl, rfl, HT⟩ := hrel
        have hsi : (s : Int) ≤ 1012 := by omega
        by_cases hq12 : q < 12
        · have hi2 : (q : Int) < 12 := by omega
          have hbs := HT.out.1.book.lt
          go_wp2_with (first
            | (go_at_call 73
               refine (markChanges_is (k : Int) s 1 _ (by omega) hk1 (by omega) (by decide)).mono ?_
               rintro e w2 ⟨vm, rfl, b2, o2⟩
               obtain ⟨gm, cm, rfl, _⟩ := own_blkK o2 (by omega)
               have H2 := Lib.hid (And.intro b2 o2)
               clear b2 o2)
            | (refine wpList_append_twoK rfl (.tmp 27) (.tmp 31) 28 rfl base 55 i1 _ 2 16 Tryz.underlying28 HJ.out.1 HJ.out.2.1 HJ.out.2.2.1 HJ.out.2.2.2 rfl (by omega) (.slice al s cl) s (flat Chg.cells (marksChanges (k : Int) 0 s)) rfl (own_belowK HT.out.2.1 H2.out.1) _ 1 cm (flat Chg.cells (marksChanges (k : Int) s 1)) rfl (by rw [flat_len Chg.len, marksChanges_len]) (H2.out.2.cells (g := gm) rfl) (flat_all Chg.one _) (by omega) (by unfold maxLen; omega) (by omega) (by have := H2.out.1.size; omega) ?_
               intro g cap w4 hown4 hgr4 hb4 hlt4
               have H4 := Lib.hid (And.intro hown4 hgr4)
               clear hown4 hgr4 hb4 hlt4))
          have HN : Hid (GrowChanges w w4 base p L C N Lo u3 ∧ w4.ownsRow base 55 2 (.slice (some ⟨g, 0, none⟩) (s + 1) cap) (s + 1) (flat Chg.cells (marksChanges (k : Int) 0 (s + 1))) ∧ ((some ⟨g, 0, none⟩ = x.a ∧ cap = x.c) ∨ ∀ g', Value.ownBlock (.slice (some ⟨g, 0, none⟩) (s + 1) cap) = some g' → N ≤ g')) := Lib.hid (by
            have ho := H4.out.1
            rw [← flat_app, ← marksChanges_add] at ho
            obtain ⟨n1, n2⟩ := (HT.out.1.next hp H2.out.1).step hp HB.out.2.1 HQ.out.1 HK.out.symm (own_belowK HT.out.2.1 H2.out.1) (by have := hs2.out; omega) HT.out.2.2 H4.out.2 ho (by
              rw [hs2.out, Nat.add_assoc, marksChanges_take]
              exact HQ.out.2.symm)
            exact ⟨n1, ho, n2⟩)
          exact ⟨⟨q + 1, s + 1, cap, some ⟨g, 0, none⟩, by omega, by have := hs2.out; omega, Lib.hid (by have := hs2.out; omega), by go_num, rfl, HN⟩, by simp [intOf]; omega⟩
        · obtain rfl : q = 12 := by omega
          have hn2 : ¬ (12 : Int) < 12 := by omega
          have hbs := HT.out.1.book.lt
          have hLo := HK.out
          go_wp2_with (first
            | (go_at_call 73
               refine (markChanges_is (k : Int) s 60 _ (by omega) hk1 (by omega) (by decide)).mono ?_
               rintro e w2 ⟨vm, rfl, b2, o2⟩
               obtain ⟨gm, cm, rfl, _⟩ := own_blkK o2 (by omega)
               have H2 := Lib.hid (And.intro b2 o2)
               clear b2 o2)
            | (refine wpList_append_twoK rfl (.tmp 34) (.tmp 38) 28 rfl base 55 i1 _ 2 16 Tryz.underlying28 HJ.out.1 HJ.out.2.1 HJ.out.2.2.1 HJ.out.2.2.2 rfl (by omega) (.slice al s cl) s (flat Chg.cells (marksChanges (k : Int) 0 s)) rfl (own_belowK HT.out.2.1 H2.out.1) _ 60 cm (flat Chg.cells (marksChanges (k : Int) s 60)) rfl (by rw [flat_len Chg.len, marksChanges_len]) (H2.out.2.cells (g := gm) rfl) (flat_all Chg.one _) (by omega) (by unfold maxLen; omega) (by omega) (by have := H2.out.1.size; omega) ?_
               intro g cap w4 hown4 hgr4 hb4 hlt4
               have hsz4 : w.heap.size ≤ w4.heap.size := by
                 have h1 := HT.out.1.N
                 have h2 := H2.out.1.size
                 rcases hgr4 with ⟨_, e⟩ | ⟨_, e⟩
                 · have := e.size; omega
                 · have := e.size; omega
               have HG : Hid (GrowChanges w w4 base p L C N Lo u3 ∧ w4.ownsRow base 55 2 (.slice (some ⟨g, 0, none⟩) (s + 60) cap) (s + 60) (flat Chg.cells (marksChanges (k : Int) 0 (s + 60))) ∧ ((some ⟨g, 0, none⟩ = x.a ∧ cap = x.c) ∨ ∀ g', Value.ownBlock (.slice (some ⟨g, 0, none⟩) (s + 60) cap) = some g' → N ≤ g')) := Lib.hid (by
                 have ho := hown4
                 rw [← flat_app, ← marksChanges_add] at ho
                 obtain ⟨n1, n2⟩ := (HT.out.1.next hp H2.out.1).step hp HB.out.2.1 HQ.out.1 HK.out.symm (own_belowK HT.out.2.1 H2.out.1) (by have := hs2.out; omega) HT.out.2.2 hgr4 ho (by
                   rw [hs2.out, Nat.add_assoc, marksChanges_take]
                   exact HQ.out.2.symm)
                 exact ⟨n1, ho, n2⟩)
               clear hown4 hgr4 hb4 hlt4)
            | (refine wpList_append_twoK rfl (.tmp 33) (.tmp 40) 32 rfl w.heap.size 28 i0 _ 1 24 Tryz.underlying32 HI.out.1 HI.out.2.1 HI.out.2.2.1 HI.out.2.2.2 rfl (by omega) u3 Lo.length (Lo.map CL.cell) rfl (HG.out.1.out.alloc _) _ 1 1 [.slice (some ⟨g, 0, none⟩) (s + 60) cap] rfl rfl (by exact World.news_of_block (heap_alloc_last _ _)) (by intro u hu; simp at hu; rw [hu]; rfl) (by omega) (by unfold maxLen; omega) (by omega) (by simp; omega) ?_
               intro g6 cap6 w6 hown6 hgr6 hb6 hlt6
               have H6 := Lib.hid (And.intro hown6 hgr6)
               clear hown6 hgr6 hb6 hlt6))
          have HN : Hid (GrowChanges w w6 base p L C w6.heap.size (Lo ++ [⟨some ⟨g, 0, none⟩, marksChanges (k : Int) 0 (s + 60), cap⟩]) (.slice (some ⟨g6, 0, none⟩) (Lo.length + 1) cap6)) := Lib.hid (by
            obtain ⟨n1, n2, n3⟩ := HG.out
            have ec : CL.cell ⟨some ⟨g, 0, none⟩, marksChanges (k : Int) 0 (s + 60), cap⟩ = .slice (some ⟨g, 0, none⟩) (s + 60) cap := by
              rw [CL.cell, marksChanges_len]
            have el : (CL.l ⟨some ⟨g, 0, none⟩, marksChanges (k : Int) 0 (s + 60), cap⟩).length = s + 60 := by
              exact marksChanges_len _ _ _
            have ba := (Below.refl w4.heap.size w4).alloc (Nat.le_refl _) (.cells #[.slice (some ⟨g, 0, none⟩) (s + 60) cap] 28)
            refine (n1.next hp ba).push hp HB.out.2.1 HB.out.1 (by rw [HK.out]; exact HQ.out.1) (y := ⟨some ⟨g, 0, none⟩, marksChanges (k : Int) 0 (s + 60), cap⟩) ?_ ?_ ?_ ?_ H6.out.2 ?_
            · rw [ec, el]
              exact own_belowK n2 ba
            · intro i hi
              rw [el, hi, HK.out]
            · rw [el]; omega
            · rw [ec]; exact n3
            · rw [ec]; exact H6.out.1)
          exact ⟨⟨k + 1, w6.heap.size, Lo ++ [⟨some ⟨g, 0, none⟩, marksChanges (k : Int) 0 (s + 60), cap⟩], by omega, by go_num, Lib.hid ⟨by rw [List.length_append, HK.out]; rfl, by have h := HN.out; rw [HK.out] at h; exact h⟩⟩, by simp [intOf]; omega⟩
    · obtain rfl : k = L.length := by omega
      have hn : ¬ (L.length : Int) < (L.length : Int) := by omega
      clear hlt hk o0
      go_wp2
      go_ret
      exact ⟨N, Lo, _, rfl, HP.out.1, HP.out.2⟩
structure GrowEntries (w wr : World) (base p : Nat) (L : List EL) (C : Nat → List Ent) (N : Nat) (Lo : List EL) (vo : Value) : Prop where
  below : Below base w wr
  turn : Turn w wr p (fun _ => False) (OfType w 101)
  book : BookB wr p
  held : HeldEntries wr base p L C
  out : wr.ownsRow w.heap.size 69 1 vo Lo.length (Lo.map EL.cell)
  lo : ∀ (i : Nat) (y : EL), Lo[i]? = some y → wr.ownsRow base 101 5 y.cell y.l.length (flat Ent.cells y.l) ∧ y.l = marksEntries (i : Int) 0 y.l.length ∧ y.l.length ≤ 2000 ∧ (∀ g, y.cell.ownBlock = some g → g < N ∧ ∀ (j : Nat) (x : EL), i ≠ j → L[j]? = some x → x.cell.ownBlock ≠ some g)
  N : w.heap.size ≤ N ∧ N ≤ wr.heap.size
theorem GrowEntries.next {w wr w' : World} {base p N : Nat} {L Lo : List EL} {C : Nat → List Ent} {vo : Value} (h : GrowEntries w wr base p L C N Lo vo) (hp : base ≤ p) (b : Below wr.heap.size wr w') : GrowEntries w w' base p L C N Lo vo :=
  ⟨h.below.trans (b.mono (Nat.le_trans hp (Nat.le_of_lt h.book.lt))), h.turn.trans (Turn.of_below b h.book.lt), book_of_block (b.block p h.book.lt) h.book, h.held.below h.book b, own_belowK h.out b,
    fun i y hy => ⟨own_belowK (h.lo i y hy).1 b, (h.lo i y hy).2⟩, ⟨h.N.1, Nat.le_trans h.N.2 b.size⟩⟩
/-- A row of elements has grown where it was. -/
theorem GrowEntries.grown {w wr w' : World} {base p N g : Nat} {L Lo : List EL} {C : Nat → List Ent} {vo : Value} (h : GrowEntries w wr base p L C N Lo vo) (hp : base ≤ p) (hg : wr.grownBy w' (some g)) (c1 : g ≠ p) (c2 : OfType w 101 g ∨ w.heap.size ≤ g) (c3 : base ≤ g)
    (c4 : ∀ (i : Nat) (x : EL), L[i]? = some x → w'.ownsRow base 101 5 x.cell x.l.length (flat Ent.cells (C i))) (c5 : OfType wr 101 g) (c6 : ∀ (i : Nat) (y : EL), Lo[i]? = some y → y.cell.ownBlock ≠ some g) : GrowEntries w w' base p L C N Lo vo := by
  have hpl := h.book.lt
  have t := h.turn.more hg hpl (fun g' e => by
    obtain rfl : g = g' := by simpa using e
    exact ⟨c1, c2⟩)
  obtain ⟨ao, co, e0, o0⟩ := h.held.ex
  have nO : ∀ {b v m cs}, wr.ownsRow b 69 1 v m cs → ∀ g', v.ownBlock = some g' → some g ≠ some g' := fun ho g' e q => by
    obtain rfl : g = g' := by simpa using q
    exact not_type ho (show 69 ≠ 101 by decide) e c5
  have hbp : w'.heap[p]? = wr.heap[p]? := grown_block hg hpl (fun e => c1 (by simpa using e))
  refine ⟨h.below.grown hg (Nat.le_trans hp (Nat.le_of_lt hpl)) (fun k hk => by
      obtain rfl : g = k := by simpa using hk
      exact c3), t, book_of_block hbp h.book, ⟨⟨ao, co, (World.cell?_of_block (w := wr) (a := ⟨p, 6, none⟩) hbp).trans e0, owns_grown o0 hg (nO o0)⟩, c4, h.held.apart, h.held.small⟩, owns_grown h.out hg (nO h.out), fun i y hy => ⟨owns_grown (h.lo i y hy).1 hg (fun g' e q => ?_), (h.lo i y hy).2⟩, ⟨h.N.1, Nat.le_trans h.N.2 hg.size⟩⟩
  obtain rfl : g = g' := by simpa using q
  exact c6 i y hy e
/-- One append onto a list's row. -/
theorem GrowEntries.step {w wr w' : World} {base p N g cap k q m cl : Nat} {al : Option Addr} {L Lo : List EL} {C C0 : Nat → List Ent} {vo : Value} {x : EL} {xs ys : List Ent} (h : GrowEntries w wr base p L C N Lo vo) (hp : base ≤ p) (hw : HeldEntries w base p L C0)
    (hx : L[k]? = some x) (hk : k = Lo.length) (hv : wr.ownsRow base 101 5 (.slice al q cl) q (flat Ent.cells xs)) (hq : x.l.length ≤ q) (hblk : (al = x.a ∧ cl = x.c) ∨ ∀ g', Value.ownBlock (.slice al q cl) = some g' → N ≤ g')
    (hgr : GrewK wr w' (.slice al q cl) q g cap) (hown : w'.ownsRow base 101 5 (.slice (some ⟨g, 0, none⟩) (q + m) cap) (q + m) (flat Ent.cells ys)) (hys : ys.take x.l.length = C k) :
    GrowEntries w w' base p L C N Lo vo ∧ ((some ⟨g, 0, none⟩ = x.a ∧ cap = x.c) ∨ ∀ g', Value.ownBlock (.slice (some ⟨g, 0, none⟩) (q + m) cap) = some g' → N ≤ g') := by
  rcases hgr with ⟨e, hg⟩ | ⟨e, hg⟩
  · obtain ⟨rfl, rfl⟩ : al = some ⟨g, 0, none⟩ ∧ cl = cap := by simpa using e
    have c5 : OfType wr 101 g := by
      obtain ⟨cur, hh⟩ := own_type hv rfl
      exact ⟨cur, _, hh⟩
    have c1 : g ≠ p := not_book h.book hv (by decide) rfl
    have c3 : base ≤ g := (hv.lt g rfl).1
    rcases hblk with ⟨b1, b2⟩ | hN
    · have hxg : x.cell.ownBlock = some g := by rw [EL.cell, ← b1]; rfl
      have c2 : OfType w 101 g := by
        obtain ⟨cur, hh⟩ := own_type (hw.each k x hx) hxg
        exact ⟨cur, _, hh⟩
      refine ⟨h.grown hp hg c1 (.inl c2) c3 (fun i y hy => ?_) c5 (fun i y hy => ?_), .inl ⟨b1, b2⟩⟩
      · by_cases hi : i = k
        · subst hi
          obtain rfl : x = y := by rw [hx] at hy; simpa using hy
          rw [EL.cell, ← b1, ← b2]
          exact owns_headK hown (by omega) (by rw [flat_take Ent.len, hys])
        · exact owns_grown (h.held.each i y hy) hg (fun g' e q => by
            obtain rfl : g = g' := by simpa using q
            exact h.held.apart i k y x hi hy hx g e hxg)
      · intro e
        have hne : i ≠ k := by have := (List.getElem?_eq_some_iff.1 hy).1; omega
        exact ((h.lo i y hy).2.2.2 g e).2 k x hne hx hxg
    · have hNg := hN g rfl
      have hN0 := h.N.1
      refine ⟨h.grown hp hg c1 (.inr (by omega)) c3 (fun i y hy => ?_) c5 (fun i y hy e => ?_), .inr hN⟩
      · exact owns_grown (h.held.each i y hy) hg (fun g' e q => by
          obtain rfl : g = g' := by simpa using q
          have := ((hw.each i y hy).lt g e).2
          omega)
      · have := ((h.lo i y hy).2.2.2 g e).1
        omega
  · refine ⟨h.next hp (below_none hg), .inr (fun g' e' => ?_)⟩
    obtain rfl : g = g' := by simpa [Value.ownBlock] using e'
    exact Nat.le_trans h.N.2 e
/-- One list more stands in what is told. -/
theorem GrowEntries.push {w wr w' : World} {base p N g cap : Nat} {L Lo : List EL} {C C0 : Nat → List Ent} {vo : Value} {x y : EL} (h : GrowEntries w wr base p L C N Lo vo) (hp : base ≤ p) (hw : HeldEntries w base p L C0) (hwb : BookB w p) (hx : L[Lo.length]? = some x)
    (hy : wr.ownsRow base 101 5 y.cell y.l.length (flat Ent.cells y.l)) (hm : ∀ i, i = Lo.length → y.l = marksEntries (i : Int) 0 y.l.length) (hs : y.l.length ≤ 2000) (hblk : (y.a = x.a ∧ y.c = x.c) ∨ ∀ g', y.cell.ownBlock = some g' → N ≤ g')
    (hgr : GrewK wr w' vo Lo.length g cap) (hown : w'.ownsRow w.heap.size 69 1 (.slice (some ⟨g, 0, none⟩) (Lo.length + 1) cap) (Lo.length + 1) (Lo.map EL.cell ++ [y.cell])) :
    GrowEntries w w' base p L C w'.heap.size (Lo ++ [y]) (.slice (some ⟨g, 0, none⟩) (Lo.length + 1) cap) := by
  have hpl := h.book.lt
  have hsz : wr.heap.size ≤ w'.heap.size := by
    rcases hgr with ⟨_, q⟩ | ⟨_, q⟩ <;> exact q.size
  have hbw : base ≤ w.heap.size := Nat.le_trans hp (Nat.le_of_lt hwb.lt)
  have hrow : ∃ row, wr.grownBy w' row ∧ ∀ g', row = some g' → w.heap.size ≤ g' ∧ OfType wr 69 g' := by
    rcases hgr with ⟨e, q⟩ | ⟨_, q⟩
    · refine ⟨_, q, fun g' e' => ?_⟩
      obtain rfl : g = g' := by simpa using e'
      have hg : vo.ownBlock = some g := by rw [e]; rfl
      obtain ⟨cur, hh⟩ := own_type h.out hg
      exact ⟨(h.out.lt g hg).1, cur, _, hh⟩
    · exact ⟨_, q, fun g' e' => by cases e'⟩
  obtain ⟨row, hg, hr⟩ := hrow
  have nE : ∀ {v m cs}, wr.ownsRow base 101 5 v m cs → ∀ g', v.ownBlock = some g' → row ≠ some g' := fun ho g' e q => not_type ho (show 101 ≠ 69 by decide) e (hr g' q).2
  have hrp : ∀ g', row = some g' → g' ≠ p := fun g' e q => by
    have := (hr g' e).1
    have := hwb.lt
    omega
  have t := h.turn.more hg hpl (fun g' e => ⟨hrp g' e, .inr (hr g' e).1⟩)
  obtain ⟨ao, co, e0, o0⟩ := h.held.ex
  obtain ⟨ao', co', e0', o0'⟩ := hw.ex
  have hbp : w'.heap[p]? = wr.heap[p]? := grown_block hg hpl (fun e => hrp p e rfl)
  have hsame : Value.slice ao L.length co = .slice ao' L.length co' := by
    have := (h.turn.cell 6 id)
    rw [e0, e0'] at this
    simpa using this
  refine ⟨h.below.grown hg (Nat.le_trans hbw h.turn.size) (fun k hk => Nat.le_trans hbw (hr k hk).1), t, book_of_block hbp h.book, ⟨⟨ao, co, (World.cell?_of_block (w := wr) (a := ⟨p, 6, none⟩) hbp).trans e0, owns_grown o0 hg (fun g' e q => ?_)⟩, fun i z hz => owns_grown (h.held.each i z hz) hg (nE (h.held.each i z hz)), h.held.apart, h.held.small⟩, ?_, fun i z hz => ?_, ⟨Nat.le_trans h.turn.size hsz, Nat.le_refl _⟩⟩
  · rw [hsame] at e
    have := (o0'.lt g' e).2
    have := (hr g' q).1
    omega
  · simpa using hown
  · rcases Nat.lt_or_ge i Lo.length with e | e
    · rw [List.getElem?_append_left e] at hz
      obtain ⟨z1, z2, z3, z4⟩ := h.lo i z hz
      exact ⟨owns_grown z1 hg (nE z1), z2, z3, fun g' hg' => ⟨Nat.lt_of_lt_of_le (z1.lt g' hg').2 hsz, (z4 g' hg').2⟩⟩
    · rw [List.getElem?_append_right e] at hz
      have hi : i = Lo.length := by have := (List.getElem?_eq_some_iff.1 hz).1; simp at this; omega
      subst hi
      obtain rfl : y = z := by simpa using hz
      refine ⟨owns_grown hy hg (nE hy), hm _ rfl, hs, fun g' hg' => ⟨Nat.lt_of_lt_of_le (hy.lt g' hg').2 hsz, fun j u hj hu hug => ?_⟩⟩
      rcases hblk with ⟨b1, b2⟩ | hN
      · have hxg : x.cell.ownBlock = some g' := by
          rw [EL.cell, ← b1]
          rw [EL.cell] at hg'
          cases hya : y.a with
          | none => rw [hya] at hg'; cases hg'
          | some b => rw [hya] at hg'; exact hg'
        exact hw.apart Lo.length j x u hj hx hu g' hxg hug
      · have h1 := hN g' hg'
        have h2 := ((hw.each j u hu).lt g' hug).2
        have h3 := h.N.1
        omega

theorem grow_startEntries {w : World} {base p : Nat} {L : List EL} {C : Nat → List Ent} (hb : BookB w p) (h : HeldEntries w base p L C) : GrowEntries w w base p L C w.heap.size [] (.slice none 0 0) :=
  ⟨Below.refl _ _, Turn.refl _ _ _ _, hb, h, World.ownsRow_nil _ _ _ _, fun i y hy => by simp at hy, ⟨Nat.le_refl _, Nat.le_refl _⟩⟩

set_option maxRecDepth 100000 in
set_option maxHeartbeats 4000000 in
theorem growEntries_is (base p : Nat) (L : List EL) (C : Nat → List Ent) (w : World) (hb : BookB w p) (hp : base ≤ p) (h : HeldEntries w base p L C) (hC : ∀ (k : Nat) (x : EL), L[k]? = some x → C k = marksEntries (k : Int) 0 x.l.length) (hL : L.length ≤ 100) :
    Calls Tryz.prog 48 #[.pointer (some ⟨p, 0, none⟩)] w fun e w' => ∃ N Lo vo, e = .returned vo ∧ Lo.length = L.length ∧ GrowEntries w w' base p L C N Lo vo := by
  obtain ⟨i0, hi, hz0, hz1, hz2⟩ := info_parts outInfoEntries
  have HI := Lib.hid (And.intro hi (And.intro hz0 (And.intro hz1 hz2)))
  clear hi hz0 hz1 hz2
  obtain ⟨i1, hi, hz0, hz1, hz2⟩ := info_parts entInfo
  have HJ := Lib.hid (And.intro hi (And.intro hz0 (And.intro hz1 hz2)))
  clear hi hz0 hz1 hz2
  have HS := Lib.hid (grow_startEntries hb h)
  have HB := Lib.hid (And.intro hb (And.intro h hC))
  have hLi : (L.length : Int) ≤ 100 := by omega
  clear h hb hC
  go_enter Tryz.func48, Tryz.ntmps48
  go_wp2
  go_loopw [3, 4] (fun ov i wr => ∃ (k N : Nat) (Lo : List EL), k ≤ L.length ∧ i = .int .i64 (k : Int) ∧ Hid (Lo.length = k ∧ GrowEntries w wr base p L C N Lo ov)) (fun _ i _ => L.length - (intOf i).toNat)
  case atStart => exact ⟨0, _, [], Nat.zero_le _, rfl, Lib.hid ⟨rfl, HS.out⟩⟩
  case round =>
    obtain ⟨k, N, Lo, hk, rfl, HP⟩ := hrel
    obtain ⟨ao, co, c0, o0⟩ := HP.out.2.held.ex
    by_cases hlt : k < L.length
    · have hx : L[k]? = some L[k] := List.getElem?_eq_getElem hlt
      obtain ⟨go, co', hv, _, _, hgo⟩ := own_blkK o0 (by omega)
      obtain ⟨rfl, rfl⟩ : ao = some ⟨go, 0, none⟩ ∧ co = co' := by simpa using hv
      have r0 := (owns_cell o0 (k := k) (x := L[k].cell) (by rw [List.getElem?_map, hx]; rfl)).1
      have hsm := HP.out.2.held.small _ (List.getElem_mem hlt)
      have hCk := HB.out.2.2 k _ hx
      generalize L[k] = x at *
      have r1 : wr.cell? ⟨go, k, none⟩ = some (.slice x.a x.l.length x.c) := r0
      have hi1 : (k : Int) < (L.length : Int) := by omega
      have hk1 : (k : Int) ≤ 1000 := by omega
      have HQ := Lib.hid (And.intro hx hCk)
      have HR : Hid (GrowEntries w wr base p L C N Lo u3 ∧ wr.ownsRow base 101 5 (.slice x.a (x.l.length + 0) x.c) (x.l.length + 0) (flat Ent.cells (marksEntries (k : Int) 0 (x.l.length + 0))) ∧ ((x.a = x.a ∧ x.c = x.c) ∨ ∀ g', Value.ownBlock (.slice x.a (x.l.length + 0) x.c) = some g' → N ≤ g')) := Lib.hid ⟨HP.out.2, by
        have := HP.out.2.held.each k x hx
        rw [hCk] at this
        exact this, .inl ⟨rfl, rfl⟩⟩
      have HK := Lib.hid HP.out.1
      clear hx r0 hv o0 HP hCk
      go_wp2
      go_loopw [5, 6] (fun lv i wx => ∃ (q s cl : Nat) (al : Option Addr), q ≤ 12 ∧ s ≤ 1012 ∧ Hid (s = x.l.length + q) ∧ i = .int .i64 (q : Int) ∧ lv = .slice al s cl ∧ Hid (GrowEntries w wx base p L C N Lo u3 ∧ wx.ownsRow base 101 5 (.slice al s cl) s (flat Ent.cells (marksEntries (k : Int) 0 s)) ∧ ((al = x.a ∧ cl = x.c) ∨ ∀ g', Value.ownBlock (.slice al s cl) = some g' → N ≤ g'))) (fun _ i _ => 12 - (intOf i).toNat)
      case atStart => exact ⟨0, x.l.length, x.c, x.a, Nat.zero_le _, by omega, Lib.hid rfl, rfl, rfl, Lib.hid ⟨HR.out.1, HR.out.2.1, .inl ⟨rfl, rfl⟩⟩⟩
      case round =>
        obtain ⟨q, s, cl, al, hq, hs1, hs2, rfl, rfl, HT⟩ := hrel
        have hsi : (s : Int) ≤ 1012 := by omega
        by_cases hq12 : q < 12
        · have hi2 : (q : Int) < 12 := by omega
          have hbs := HT.out.1.book.lt
          go_wp2_with (first
            | (go_at_call 74
               refine (markEntries_is (k : Int) s 1 _ (by omega) hk1 (by omega) (by decide)).mono ?_
               rintro e w2 ⟨vm, rfl, b2, o2⟩
               obtain ⟨gm, cm, rfl, _⟩ := own_blkK o2 (by omega)
               have H2 := Lib.hid (And.intro b2 o2)
               clear b2 o2)
            | (refine wpList_append_twoK rfl (.tmp 27) (.tmp 31) 69 rfl base 101 i1 _ 5 40 Tryz.underlying69 HJ.out.1 HJ.out.2.1 HJ.out.2.2.1 HJ.out.2.2.2 rfl (by omega) (.slice al s cl) s (flat Ent.cells (marksEntries (k : Int) 0 s)) rfl (own_belowK HT.out.2.1 H2.out.1) _ 1 cm (flat Ent.cells (marksEntries (k : Int) s 1)) rfl (by rw [flat_len Ent.len, marksEntries_len]) (H2.out.2.cells (g := gm) rfl) (flat_all Ent.one _) (by omega) (by unfold maxLen; omega) (by omega) (by have := H2.out.1.size; omega) ?_
               intro g cap w4 hown4 hgr4 hb4 hlt4
               have H4 := Lib.hid (And.intro hown4 hgr4)
               clear hown4 hgr4 hb4 hlt4))
          have HN : Hid (GrowEntries w w4 base p L C N Lo u3 ∧ w4.ownsRow base 101 5 (.slice (some ⟨g, 0, none⟩) (s + 1) cap) (s + 1) (flat Ent.cells (marksEntries (k : Int) 0 (s + 1))) ∧ ((some ⟨g, 0, none⟩ = x.a ∧ cap = x.c) ∨ ∀ g', Value.ownBlock (.slice (some ⟨g, 0, none⟩) (s + 1) cap) = some g' → N ≤ g')) := Lib.hid (by
            have ho := H4.out.1
            rw [← flat_app, ← marksEntries_add] at ho
            obtain ⟨n1, n2⟩ := (HT.out.1.next hp H2.out.1).step hp HB.out.2.1 HQ.out.1 HK.out.symm (own_belowK HT.out.2.1 H2.out.1) (by have := hs2.out; omega) HT.out.2.2 H4.out.2 ho (by
              rw [hs2.out, Nat.add_assoc, marksEntries_take]
              exact HQ.out.2.symm)
            exact ⟨n1, ho, n2⟩)
          exact ⟨⟨q + 1, s + 1, cap, some ⟨g, 0, none⟩, by omega, by have := hs2.out; omega, Lib.hid (by have := hs2.out; omega), by go_num, rfl, HN⟩, by simp [intOf]; omega⟩
        · obtain rfl : q = 12 := by omega
          have hn2 : ¬ (12 : Int) < 12 := by omega
          have hbs := HT.out.1.book.lt
          have hLo := HK.out
          go_wp2_with (first
            | (go_at_call 74
               refine (markEntries_is (k : Int) s 60 _ (by omega) hk1 (by omega) (by decide)).mono ?_
               rintro e w2 ⟨vm, rfl, b2, o2⟩
               obtain ⟨gm, cm, rfl, _⟩ := own_blkK o2 (by omega)
               have H2 := Lib.hid (And.intro b2 o2)
               clear b2 o2)
            | (refine wpList_append_twoK rfl (.tmp 34) (.tmp 38) 69 rfl base 101 i1 _ 5 40 Tryz.underlying69 HJ.out.1 HJ.out.2.1 HJ.out.2.2.1 HJ.out.2.2.2 rfl (by omega) (.slice al s cl) s (flat Ent.cells (marksEntries (k : Int) 0 s)) rfl (own_belowK HT.out.2.1 H2.out.1) _ 60 cm (flat Ent.cells (marksEntries (k : Int) s 60)) rfl (by rw [flat_len Ent.len, marksEntries_len]) (H2.out.2.cells (g := gm) rfl) (flat_all Ent.one _) (by omega) (by unfold maxLen; omega) (by omega) (by have := H2.out.1.size; omega) ?_
               intro g cap w4 hown4 hgr4 hb4 hlt4
               have hsz4 : w.heap.size ≤ w4.heap.size := by
                 have h1 := HT.out.1.N
                 have h2 := H2.out.1.size
                 rcases hgr4 with ⟨_, e⟩ | ⟨_, e⟩
                 · have := e.size; omega
                 · have := e.size; omega
               have HG : Hid (GrowEntries w w4 base p L C N Lo u3 ∧ w4.ownsRow base 101 5 (.slice (some ⟨g, 0, none⟩) (s + 60) cap) (s + 60) (flat Ent.cells (marksEntries (k : Int) 0 (s + 60))) ∧ ((some ⟨g, 0, none⟩ = x.a ∧ cap = x.c) ∨ ∀ g', Value.ownBlock (.slice (some ⟨g, 0, none⟩) (s + 60) cap) = some g' → N ≤ g')) := Lib.hid (by
                 have ho := hown4
                 rw [← flat_app, ← marksEntries_add] at ho
                 obtain ⟨n1, n2⟩ := (HT.out.1.next hp H2.out.1).step hp HB.out.2.1 HQ.out.1 HK.out.symm (own_belowK HT.out.2.1 H2.out.1) (by have := hs2.out; omega) HT.out.2.2 hgr4 ho (by
                   rw [hs2.out, Nat.add_assoc, marksEntries_take]
                   exact HQ.out.2.symm)
                 exact ⟨n1, ho, n2⟩)
               clear hown4 hgr4 hb4 hlt4)
            | (refine wpList_append_twoK rfl (.tmp 33) (.tmp 40) 33 rfl w.heap.size 69 i0 _ 1 24 Tryz.underlying33 HI.out.1 HI.out.2.1 HI.out.2.2.1 HI.out.2.2.2 rfl (by omega) u3 Lo.length (Lo.map EL.cell) rfl (HG.out.1.out.alloc _) _ 1 1 [.slice (some ⟨g, 0, none⟩) (s + 60) cap] rfl rfl (by exact World.news_of_block (heap_alloc_last _ _)) (by intro u hu; simp at hu; rw [hu]; rfl) (by omega) (by unfold maxLen; omega) (by omega) (by simp; omega) ?_
               intro g6 cap6 w6 hown6 hgr6 hb6 hlt6
               have H6 := Lib.hid (And.intro hown6 hgr6)
               clear hown6 hgr6 hb6 hlt6))
          have HN : Hid (GrowEntries w w6 base p L C w6.heap.size (Lo ++ [⟨some ⟨g, 0, none⟩, marksEntries (k : Int) 0 (s + 60), cap⟩]) (.slice (some ⟨g6, 0, none⟩) (Lo.length + 1) cap6)) := Lib.hid (by
            obtain ⟨n1, n2, n3⟩ := HG.out
            have ec : EL.cell ⟨some ⟨g, 0, none⟩, marksEntries (k : Int) 0 (s + 60), cap⟩ = .slice (some ⟨g, 0, none⟩) (s + 60) cap := by
              rw [EL.cell, marksEntries_len]
            have el : (EL.l ⟨some ⟨g, 0, none⟩, marksEntries (k : Int) 0 (s + 60), cap⟩).length = s + 60 := by
              exact marksEntries_len _ _ _
            have ba := (Below.refl w4.heap.size w4).alloc (Nat.le_refl _) (.cells #[.slice (some ⟨g, 0, none⟩) (s + 60) cap] 69)
            refine (n1.next hp ba).push hp HB.out.2.1 HB.out.1 (by rw [HK.out]; exact HQ.out.1) (y := ⟨some ⟨g, 0, none⟩, marksEntries (k : Int) 0 (s + 60), cap⟩) ?_ ?_ ?_ ?_ H6.out.2 ?_
            · rw [ec, el]
              exact own_belowK n2 ba
            · intro i hi
              rw [el, hi, HK.out]
            · rw [el]; omega
            · rw [ec]; exact n3
            · rw [ec]; exact H6.out.1)
          exact ⟨⟨k + 1, w6.heap.size, Lo ++ [⟨some ⟨g, 0, none⟩, marksEntries (k : Int) 0 (s + 60), cap⟩], by omega, by go_num, Lib.hid ⟨by rw [List.length_append, HK.out]; rfl, by have h := HN.out; rw [HK.out] at h; exact h⟩⟩, by simp [intOf]; omega⟩
    · obtain rfl : k = L.length := by omega
      have hn : ¬ (L.length : Int) < (L.length : Int) := by omega
      clear hlt hk o0
      go_wp2
      go_ret
      exact ⟨N, Lo, _, rfl, HP.out.1, HP.out.2⟩
end Go.Proofs.YtbcdmcafobjpcaaGreatDoor.Bk
-- BookWFin
/- The book: lists of structs: what is asked at the end. -/
namespace Go.Proofs.YtbcdmcafobjpcaaGreatDoor.Bk
open Go.RowKit

theorem own_liesChanges {w : World} {base : Nat} {x : CL} {xs : List Value} (h : w.ownsRow base 55 2 x.cell x.l.length xs) : LiesAt w x.a xs := by
  obtain ⟨a', c', hv, hl, _⟩ := own_formK h
  have : x.a = a' ∧ x.c = c' := by simpa [CL.cell] using hv
  rw [this.1]
  exact hl
theorem KeepChanges.both {w : World} {base p : Nat} {L M : List CL} (h : KeepChanges w base p L M) : ∃ ao am co cm, BothChanges w p L M ao am co cm := by
  obtain ⟨vO, vM, c0, c1, o0, o1, _⟩ := h.ex
  obtain ⟨ao, co, rfl, l0, _⟩ := own_formK o0
  obtain ⟨am, cm, rfl, l1, _⟩ := own_formK o1
  have hsm : ∀ y ∈ M, y.l.length ≤ 1000 := fun y hy => by
    obtain ⟨i, hi, rfl⟩ := List.getElem_of_mem hy
    have hiL : i < L.length := by rw [h.len]; exact hi
    have := h.same i L[i] M[i] (List.getElem?_eq_getElem hiL) (List.getElem?_eq_getElem hi)
    rw [← this]
    exact h.small _ (List.getElem_mem hiL)
  exact ⟨ao, am, co, cm, c0, c1, ⟨l0, fun x hx => own_liesChanges (h.each x hx), fun x hx => by have := h.small x hx; omega⟩, ⟨l1, fun x hx => own_liesChanges (h.copy x hx), fun x hx => by have := hsm x hx; omega⟩, h.len, h.same⟩
/-- The book's lists, and those that were told, are marked. -/
structure FinChanges (w : World) (p : Nat) (vo : Value) : Prop where
  field : ∃ ao co, ∃ L : List CL, w.cell? ⟨p, 4, none⟩ = some (.slice ao L.length co) ∧ L.length ≤ 1000 ∧ OutChanges w ao L ∧ MarkedChanges L
  told : ∃ ao co, ∃ L : List CL, vo = .slice ao L.length co ∧ L.length ≤ 1000 ∧ OutChanges w ao L ∧ MarkedChanges L
theorem FinChanges.below {w w' : World} {p : Nat} {vo : Value} (h : FinChanges w p vo) (hp : p < w.heap.size) (b : Below w.heap.size w w') : FinChanges w' p vo := by
  obtain ⟨ao, co, L, h1, h2, h3, h4⟩ := h.field
  obtain ⟨ao', co', L', k1, k2, k3, k4⟩ := h.told
  exact ⟨⟨ao, co, L, (b.cell (p := ⟨p, 4, none⟩) hp).trans h1, h2, h3.below b, h4⟩, ⟨ao', co', L', k1, k2, k3.below b, k4⟩⟩
theorem finChanges {w : World} {base b2 p : Nat} {L Lo : List CL} {C : Nat → List Chg} {vo : Value} (h : HeldChanges w base p L C) (hC : ∀ (k : Nat) (x : CL), L[k]? = some x → C k = marksChanges (k : Int) 0 x.l.length) (hL : L.length ≤ 100) (hlen : Lo.length = L.length)
    (ho : w.ownsRow b2 28 1 vo Lo.length (Lo.map CL.cell)) (hlo : ∀ (i : Nat) (y : CL), Lo[i]? = some y → w.ownsRow base 55 2 y.cell y.l.length (flat Chg.cells y.l) ∧ y.l = marksChanges (i : Int) 0 y.l.length ∧ y.l.length ≤ 2000) : FinChanges w p vo := by
  obtain ⟨ao, co, c0, o0⟩ := h.ex
  obtain ⟨a', c', hv, l0, _⟩ := own_formK o0
  obtain ⟨rfl, rfl⟩ : ao = a' ∧ co = c' := by simpa using hv
  obtain ⟨a2, c2, rfl, l2, _⟩ := own_formK ho
  let Lm : List CL := L.mapIdx fun i x => ⟨x.a, marksChanges (i : Int) 0 x.l.length, x.c⟩
  have hlm : Lm.length = L.length := by simp [Lm]
  have hcell : Lm.map CL.cell = L.map CL.cell := by
    apply List.ext_getElem
    · simp [Lm]
    · intro i h1 h2
      simp [Lm, CL.cell, marksChanges_len]
  have hat : ∀ (i : Nat) (z : CL), Lm[i]? = some z → ∃ x, L[i]? = some x ∧ z = ⟨x.a, marksChanges (i : Int) 0 x.l.length, x.c⟩ := fun i z hz => by
    obtain ⟨hi, rfl⟩ := List.getElem?_eq_some_iff.1 hz
    have hi' : i < L.length := by rw [← hlm]; exact hi
    exact ⟨L[i], List.getElem?_eq_getElem hi', by simp [Lm]⟩
  have hel : ∀ (i n : Nat), (marksChanges (i : Int) 0 n).length = n := fun i n => by
    exact marksChanges_len _ _ _
  refine ⟨⟨ao, co, Lm, by rw [hlm]; exact c0, by omega, ⟨by rw [hcell]; exact l0, fun z hz => ?_, fun z hz => ?_⟩, fun i z hz => ?_⟩, ⟨a2, c2, Lo, rfl, by omega, ⟨l2, fun y hy => ?_, fun y hy => ?_⟩, fun i y hy => (hlo i y hy).2.1⟩⟩
  · obtain ⟨i, hi⟩ := List.getElem?_of_mem hz
    obtain ⟨x, hx, rfl⟩ := hat i z hi
    have := own_liesChanges (h.each i x hx)
    rw [hC i x hx] at this
    exact this
  · obtain ⟨i, hi⟩ := List.getElem?_of_mem hz
    obtain ⟨x, hx, rfl⟩ := hat i z hi
    show (marksChanges (i : Int) 0 x.l.length).length < _
    rw [hel]
    have := h.small x (List.mem_of_getElem? hx)
    omega
  · obtain ⟨x, hx, rfl⟩ := hat i z hz
    show marksChanges (i : Int) 0 x.l.length = marksChanges (i : Int) 0 (marksChanges (i : Int) 0 x.l.length).length
    rw [hel]
  · obtain ⟨i, hi⟩ := List.getElem?_of_mem hy
    exact own_liesChanges (hlo i y hi).1
  · obtain ⟨i, hi⟩ := List.getElem?_of_mem hy
    have := (hlo i y hi).2.2
    omega
theorem own_liesEntries {w : World} {base : Nat} {x : EL} {xs : List Value} (h : w.ownsRow base 101 5 x.cell x.l.length xs) : LiesAt w x.a xs := by
  obtain ⟨a', c', hv, hl, _⟩ := own_formK h
  have : x.a = a' ∧ x.c = c' := by simpa [EL.cell] using hv
  rw [this.1]
  exact hl
theorem KeepEntries.both {w : World} {base p : Nat} {L M : List EL} (h : KeepEntries w base p L M) : ∃ ao am co cm, BothEntries w p L M ao am co cm := by
  obtain ⟨vO, vM, c0, c1, o0, o1, _⟩ := h.ex
  obtain ⟨ao, co, rfl, l0, _⟩ := own_formK o0
  obtain ⟨am, cm, rfl, l1, _⟩ := own_formK o1
  have hsm : ∀ y ∈ M, y.l.length ≤ 1000 := fun y hy => by
    obtain ⟨i, hi, rfl⟩ := List.getElem_of_mem hy
    have hiL : i < L.length := by rw [h.len]; exact hi
    have := h.same i L[i] M[i] (List.getElem?_eq_getElem hiL) (List.getElem?_eq_getElem hi)
    rw [← this]
    exact h.small _ (List.getElem_mem hiL)
  exact ⟨ao, am, co, cm, c0, c1, ⟨l0, fun x hx => own_liesEntries (h.each x hx), fun x hx => by have := h.small x hx; omega⟩, ⟨l1, fun x hx => own_liesEntries (h.copy x hx), fun x hx => by have := hsm x hx; omega⟩, h.len, h.same⟩
/-- The book's lists, and those that were told, are marked. -/
structure FinEntries (w : World) (p : Nat) (vo : Value) : Prop where
  field : ∃ ao co, ∃ L : List EL, w.cell? ⟨p, 6, none⟩ = some (.slice ao L.length co) ∧ L.length ≤ 1000 ∧ OutEntries w ao L ∧ MarkedEntries L
  told : ∃ ao co, ∃ L : List EL, vo = .slice ao L.length co ∧ L.length ≤ 1000 ∧ OutEntries w ao L ∧ MarkedEntries L
theorem FinEntries.below {w w' : World} {p : Nat} {vo : Value} (h : FinEntries w p vo) (hp : p < w.heap.size) (b : Below w.heap.size w w') : FinEntries w' p vo := by
  obtain ⟨ao, co, L, h1, h2, h3, h4⟩ := h.field
  obtain ⟨ao', co', L', k1, k2, k3, k4⟩ := h.told
  exact ⟨⟨ao, co, L, (b.cell (p := ⟨p, 6, none⟩) hp).trans h1, h2, h3.below b, h4⟩, ⟨ao', co', L', k1, k2, k3.below b, k4⟩⟩
theorem finEntries {w : World} {base b2 p : Nat} {L Lo : List EL} {C : Nat → List Ent} {vo : Value} (h : HeldEntries w base p L C) (hC : ∀ (k : Nat) (x : EL), L[k]? = some x → C k = marksEntries (k : Int) 0 x.l.length) (hL : L.length ≤ 100) (hlen : Lo.length = L.length)
    (ho : w.ownsRow b2 69 1 vo Lo.length (Lo.map EL.cell)) (hlo : ∀ (i : Nat) (y : EL), Lo[i]? = some y → w.ownsRow base 101 5 y.cell y.l.length (flat Ent.cells y.l) ∧ y.l = marksEntries (i : Int) 0 y.l.length ∧ y.l.length ≤ 2000) : FinEntries w p vo := by
  obtain ⟨ao, co, c0, o0⟩ := h.ex
  obtain ⟨a', c', hv, l0, _⟩ := own_formK o0
  obtain ⟨rfl, rfl⟩ : ao = a' ∧ co = c' := by simpa using hv
  obtain ⟨a2, c2, rfl, l2, _⟩ := own_formK ho
  let Lm : List EL := L.mapIdx fun i x => ⟨x.a, marksEntries (i : Int) 0 x.l.length, x.c⟩
  have hlm : Lm.length = L.length := by simp [Lm]
  have hcell : Lm.map EL.cell = L.map EL.cell := by
    apply List.ext_getElem
    · simp [Lm]
    · intro i h1 h2
      simp [Lm, EL.cell, marksEntries_len]
  have hat : ∀ (i : Nat) (z : EL), Lm[i]? = some z → ∃ x, L[i]? = some x ∧ z = ⟨x.a, marksEntries (i : Int) 0 x.l.length, x.c⟩ := fun i z hz => by
    obtain ⟨hi, rfl⟩ := List.getElem?_eq_some_iff.1 hz
    have hi' : i < L.length := by rw [← hlm]; exact hi
    exact ⟨L[i], List.getElem?_eq_getElem hi', by simp [Lm]⟩
  have hel : ∀ (i n : Nat), (marksEntries (i : Int) 0 n).length = n := fun i n => by
    exact marksEntries_len _ _ _
  refine ⟨⟨ao, co, Lm, by rw [hlm]; exact c0, by omega, ⟨by rw [hcell]; exact l0, fun z hz => ?_, fun z hz => ?_⟩, fun i z hz => ?_⟩, ⟨a2, c2, Lo, rfl, by omega, ⟨l2, fun y hy => ?_, fun y hy => ?_⟩, fun i y hy => (hlo i y hy).2.1⟩⟩
  · obtain ⟨i, hi⟩ := List.getElem?_of_mem hz
    obtain ⟨x, hx, rfl⟩ := hat i z hi
    have := own_liesEntries (h.each i x hx)
    rw [hC i x hx] at this
    exact this
  · obtain ⟨i, hi⟩ := List.getElem?_of_mem hz
    obtain ⟨x, hx, rfl⟩ := hat i z hi
    show (marksEntries (i : Int) 0 x.l.length).length < _
    rw [hel]
    have := h.small x (List.mem_of_getElem? hx)
    omega
  · obtain ⟨x, hx, rfl⟩ := hat i z hz
    show marksEntries (i : Int) 0 x.l.length = marksEntries (i : Int) 0 (marksEntries (i : Int) 0 x.l.length).length
    rw [hel]
  · obtain ⟨i, hi⟩ := List.getElem?_of_mem hy
    exact own_liesEntries (hlo i y hi).1
  · obtain ⟨i, hi⟩ := List.getElem?_of_mem hy
    have := (hlo i y hi).2.2
    omega
end Go.Proofs.YtbcdmcafobjpcaaGreatDoor.Bk
-- BookNil
/- The book: kinds of which nothing was kept. -/
namespace Go.Proofs.YtbcdmcafobjpcaaGreatDoor.Bk
open Go.RowKit

theorem stillTexts_nil (p : Nat) (w : World) (h : w.cell? ⟨p, 0, none⟩ = some (.slice none 0 0)) :
    Calls Tryz.prog 33 #[.pointer (some ⟨p, 0, none⟩)] w fun e w' => e = .returned (.bool true) ∧ w' = w := by
  go_enter Tryz.func33, Tryz.ntmps33
  go_wp2
  go_loop [3] (fun i => i = .int .i64 0) (fun _ => 0)
  case atStart => rfl
  case round =>
    subst hrel
    go_wp2
    go_ret
    exact ⟨rfl, rfl⟩
theorem putTexts_nil (p : Nat) (w : World) (h : w.cell? ⟨p, 0, none⟩ = some (.slice none 0 0)) :
    Calls Tryz.prog 40 #[.pointer (some ⟨p, 0, none⟩)] w fun e w' => e = .returned (.tuple #[]) ∧ w' = w := by
  go_enter Tryz.func40, Tryz.ntmps40
  go_wp2
  go_loop [2] (fun i => i = .int .i64 0) (fun _ => 0)
  case atStart => rfl
  case round =>
    subst hrel
    go_wp2
    exact bodyPost_end (results_none rfl _ _ _) rfl ⟨rfl, rfl⟩
theorem markedTexts_nil (w : World) :
    Calls Tryz.prog 51 #[.slice none 0 0] w fun e w' => e = .returned (.bool true) ∧ w' = w := by
  go_enter Tryz.func51, Tryz.ntmps51
  go_wp2
  go_loop [3] (fun i => i = .int .i64 0) (fun _ => 0)
  case atStart => rfl
  case round =>
    subst hrel
    go_wp2
    go_ret
    exact ⟨rfl, rfl⟩
theorem growTexts_nil (p : Nat) (w : World) (h : w.cell? ⟨p, 0, none⟩ = some (.slice none 0 0)) :
    Calls Tryz.prog 45 #[.pointer (some ⟨p, 0, none⟩)] w fun e w' => e = .returned (.slice none 0 0) ∧ w' = w := by
  go_enter Tryz.func45, Tryz.ntmps45
  go_wp2
  go_loop [3, 4] (fun o i => o = .slice none 0 0 ∧ i = .int .i64 0) (fun _ _ => 0)
  case atStart => exact ⟨rfl, rfl⟩
  case round =>
    obtain ⟨rfl, rfl⟩ := hrel
    go_wp2
    go_ret
    exact ⟨rfl, rfl⟩
theorem stillInts_nil (p : Nat) (w : World) (h : w.cell? ⟨p, 2, none⟩ = some (.slice none 0 0)) :
    Calls Tryz.prog 34 #[.pointer (some ⟨p, 0, none⟩)] w fun e w' => e = .returned (.bool true) ∧ w' = w := by
  go_enter Tryz.func34, Tryz.ntmps34
  go_wp2
  go_loop [3] (fun i => i = .int .i64 0) (fun _ => 0)
  case atStart => rfl
  case round =>
    subst hrel
    go_wp2
    go_ret
    exact ⟨rfl, rfl⟩
theorem putInts_nil (p : Nat) (w : World) (h : w.cell? ⟨p, 2, none⟩ = some (.slice none 0 0)) :
    Calls Tryz.prog 41 #[.pointer (some ⟨p, 0, none⟩)] w fun e w' => e = .returned (.tuple #[]) ∧ w' = w := by
  go_enter Tryz.func41, Tryz.ntmps41
  go_wp2
  go_loop [2] (fun i => i = .int .i64 0) (fun _ => 0)
  case atStart => rfl
  case round =>
    subst hrel
    go_wp2
    exact bodyPost_end (results_none rfl _ _ _) rfl ⟨rfl, rfl⟩
theorem markedInts_nil (w : World) :
    Calls Tryz.prog 52 #[.slice none 0 0] w fun e w' => e = .returned (.bool true) ∧ w' = w := by
  go_enter Tryz.func52, Tryz.ntmps52
  go_wp2
  go_loop [3] (fun i => i = .int .i64 0) (fun _ => 0)
  case atStart => rfl
  case round =>
    subst hrel
    go_wp2
    go_ret
    exact ⟨rfl, rfl⟩
theorem growInts_nil (p : Nat) (w : World) (h : w.cell? ⟨p, 2, none⟩ = some (.slice none 0 0)) :
    Calls Tryz.prog 46 #[.pointer (some ⟨p, 0, none⟩)] w fun e w' => e = .returned (.slice none 0 0) ∧ w' = w := by
  go_enter Tryz.func46, Tryz.ntmps46
  go_wp2
  go_loop [3, 4] (fun o i => o = .slice none 0 0 ∧ i = .int .i64 0) (fun _ _ => 0)
  case atStart => exact ⟨rfl, rfl⟩
  case round =>
    obtain ⟨rfl, rfl⟩ := hrel
    go_wp2
    go_ret
    exact ⟨rfl, rfl⟩
theorem stillChanges_nil (p : Nat) (w : World) (h : w.cell? ⟨p, 4, none⟩ = some (.slice none 0 0)) :
    Calls Tryz.prog 35 #[.pointer (some ⟨p, 0, none⟩)] w fun e w' => e = .returned (.bool true) ∧ w' = w := by
  go_enter Tryz.func35, Tryz.ntmps35
  go_wp2
  go_loop [3] (fun i => i = .int .i64 0) (fun _ => 0)
  case atStart => rfl
  case round =>
    subst hrel
    go_wp2
    go_ret
    exact ⟨rfl, rfl⟩
theorem putChanges_nil (p : Nat) (w : World) (h : w.cell? ⟨p, 4, none⟩ = some (.slice none 0 0)) :
    Calls Tryz.prog 42 #[.pointer (some ⟨p, 0, none⟩)] w fun e w' => e = .returned (.tuple #[]) ∧ w' = w := by
  go_enter Tryz.func42, Tryz.ntmps42
  go_wp2
  go_loop [2] (fun i => i = .int .i64 0) (fun _ => 0)
  case atStart => rfl
  case round =>
    subst hrel
    go_wp2
    exact bodyPost_end (results_none rfl _ _ _) rfl ⟨rfl, rfl⟩
theorem markedChanges_nil (w : World) :
    Calls Tryz.prog 53 #[.slice none 0 0] w fun e w' => e = .returned (.bool true) ∧ w' = w := by
  go_enter Tryz.func53, Tryz.ntmps53
  go_wp2
  go_loop [3] (fun i => i = .int .i64 0) (fun _ => 0)
  case atStart => rfl
  case round =>
    subst hrel
    go_wp2
    go_ret
    exact ⟨rfl, rfl⟩
theorem growChanges_nil (p : Nat) (w : World) (h : w.cell? ⟨p, 4, none⟩ = some (.slice none 0 0)) :
    Calls Tryz.prog 47 #[.pointer (some ⟨p, 0, none⟩)] w fun e w' => e = .returned (.slice none 0 0) ∧ w' = w := by
  go_enter Tryz.func47, Tryz.ntmps47
  go_wp2
  go_loop [3, 4] (fun o i => o = .slice none 0 0 ∧ i = .int .i64 0) (fun _ _ => 0)
  case atStart => exact ⟨rfl, rfl⟩
  case round =>
    obtain ⟨rfl, rfl⟩ := hrel
    go_wp2
    go_ret
    exact ⟨rfl, rfl⟩
theorem stillEntries_nil (p : Nat) (w : World) (h : w.cell? ⟨p, 6, none⟩ = some (.slice none 0 0)) :
    Calls Tryz.prog 36 #[.pointer (some ⟨p, 0, none⟩)] w fun e w' => e = .returned (.bool true) ∧ w' = w := by
  go_enter Tryz.func36, Tryz.ntmps36
  go_wp2
  go_loop [3] (fun i => i = .int .i64 0) (fun _ => 0)
  case atStart => rfl
  case round =>
    subst hrel
    go_wp2
    go_ret
    exact ⟨rfl, rfl⟩
theorem putEntries_nil (p : Nat) (w : World) (h : w.cell? ⟨p, 6, none⟩ = some (.slice none 0 0)) :
    Calls Tryz.prog 43 #[.pointer (some ⟨p, 0, none⟩)] w fun e w' => e = .returned (.tuple #[]) ∧ w' = w := by
  go_enter Tryz.func43, Tryz.ntmps43
  go_wp2
  go_loop [2] (fun i => i = .int .i64 0) (fun _ => 0)
  case atStart => rfl
  case round =>
    subst hrel
    go_wp2
    exact bodyPost_end (results_none rfl _ _ _) rfl ⟨rfl, rfl⟩
theorem markedEntries_nil (w : World) :
    Calls Tryz.prog 54 #[.slice none 0 0] w fun e w' => e = .returned (.bool true) ∧ w' = w := by
  go_enter Tryz.func54, Tryz.ntmps54
  go_wp2
  go_loop [3] (fun i => i = .int .i64 0) (fun _ => 0)
  case atStart => rfl
  case round =>
    subst hrel
    go_wp2
    go_ret
    exact ⟨rfl, rfl⟩
theorem growEntries_nil (p : Nat) (w : World) (h : w.cell? ⟨p, 6, none⟩ = some (.slice none 0 0)) :
    Calls Tryz.prog 48 #[.pointer (some ⟨p, 0, none⟩)] w fun e w' => e = .returned (.slice none 0 0) ∧ w' = w := by
  go_enter Tryz.func48, Tryz.ntmps48
  go_wp2
  go_loop [3, 4] (fun o i => o = .slice none 0 0 ∧ i = .int .i64 0) (fun _ _ => 0)
  case atStart => exact ⟨rfl, rfl⟩
  case round =>
    obtain ⟨rfl, rfl⟩ := hrel
    go_wp2
    go_ret
    exact ⟨rfl, rfl⟩
theorem stillCodes_nil (p : Nat) (w : World) (h : w.cell? ⟨p, 8, none⟩ = some (.slice none 0 0)) :
    Calls Tryz.prog 37 #[.pointer (some ⟨p, 0, none⟩)] w fun e w' => e = .returned (.bool true) ∧ w' = w := by
  go_enter Tryz.func37, Tryz.ntmps37
  go_wp2
  go_loop [3] (fun i => i = .int .i64 0) (fun _ => 0)
  case atStart => rfl
  case round =>
    subst hrel
    go_wp2
    go_ret
    exact ⟨rfl, rfl⟩
theorem putCodes_nil (p : Nat) (w : World) (h : w.cell? ⟨p, 8, none⟩ = some (.slice none 0 0)) :
    Calls Tryz.prog 44 #[.pointer (some ⟨p, 0, none⟩)] w fun e w' => e = .returned (.tuple #[]) ∧ w' = w := by
  go_enter Tryz.func44, Tryz.ntmps44
  go_wp2
  go_loop [2] (fun i => i = .int .i64 0) (fun _ => 0)
  case atStart => rfl
  case round =>
    subst hrel
    go_wp2
    exact bodyPost_end (results_none rfl _ _ _) rfl ⟨rfl, rfl⟩
theorem markedCodes_nil (w : World) :
    Calls Tryz.prog 55 #[.slice none 0 0] w fun e w' => e = .returned (.bool true) ∧ w' = w := by
  go_enter Tryz.func55, Tryz.ntmps55
  go_wp2
  go_loop [3] (fun i => i = .int .i64 0) (fun _ => 0)
  case atStart => rfl
  case round =>
    subst hrel
    go_wp2
    go_ret
    exact ⟨rfl, rfl⟩
theorem growCodes_nil (p : Nat) (w : World) (h : w.cell? ⟨p, 8, none⟩ = some (.slice none 0 0)) :
    Calls Tryz.prog 49 #[.pointer (some ⟨p, 0, none⟩)] w fun e w' => e = .returned (.slice none 0 0) ∧ w' = w := by
  go_enter Tryz.func49, Tryz.ntmps49
  go_wp2
  go_loop [3, 4] (fun o i => o = .slice none 0 0 ∧ i = .int .i64 0) (fun _ _ => 0)
  case atStart => exact ⟨rfl, rfl⟩
  case round =>
    obtain ⟨rfl, rfl⟩ := hrel
    go_wp2
    go_ret
    exact ⟨rfl, rfl⟩
theorem stillNodes_nil (p : Nat) (w : World) (h : w.cell? ⟨p, 10, none⟩ = some (.slice none 0 0)) :
    Calls Tryz.prog 38 #[.pointer (some ⟨p, 0, none⟩)] w fun e w' => e = .returned (.bool true) ∧ w' = w := by
  go_enter Tryz.func38, Tryz.ntmps38
  go_wp2
  go_loop [3] (fun i => i = .int .i64 0) (fun _ => 0)
  case atStart => rfl
  case round =>
    subst hrel
    go_wp2
    go_ret
    exact ⟨rfl, rfl⟩
theorem putNodes_nil (p : Nat) (w : World) (h : w.cell? ⟨p, 10, none⟩ = some (.slice none 0 0)) :
    Calls Tryz.prog 39 #[.pointer (some ⟨p, 0, none⟩)] w fun e w' => e = .returned (.tuple #[]) ∧ w' = w := by
  go_enter Tryz.func39, Tryz.ntmps39
  go_wp2
  go_loop [2] (fun i => i = .int .i64 0) (fun _ => 0)
  case atStart => rfl
  case round =>
    subst hrel
    go_wp2
    exact bodyPost_end (results_none rfl _ _ _) rfl ⟨rfl, rfl⟩
theorem markedNodes_nil (w : World) :
    Calls Tryz.prog 56 #[.slice none 0 0] w fun e w' => e = .returned (.bool true) ∧ w' = w := by
  go_enter Tryz.func56, Tryz.ntmps56
  go_wp2
  go_loop [3] (fun i => i = .int .i64 0) (fun _ => 0)
  case atStart => rfl
  case round =>
    subst hrel
    go_wp2
    go_ret
    exact ⟨rfl, rfl⟩
theorem growNodes_nil (p : Nat) (w : World) (h : w.cell? ⟨p, 10, none⟩ = some (.slice none 0 0)) :
    Calls Tryz.prog 50 #[.pointer (some ⟨p, 0, none⟩)] w fun e w' => e = .returned (.slice none 0 0) ∧ w' = w := by
  go_enter Tryz.func50, Tryz.ntmps50
  go_wp2
  go_loop [3, 4] (fun o i => o = .slice none 0 0 ∧ i = .int .i64 0) (fun _ _ => 0)
  case atStart => exact ⟨rfl, rfl⟩
  case round =>
    obtain ⟨rfl, rfl⟩ := hrel
    go_wp2
    go_ret
    exact ⟨rfl, rfl⟩
end Go.Proofs.YtbcdmcafobjpcaaGreatDoor.Bk
-- BookApartC
/- The book: Apart, where Changes alone were kept. -/
namespace Go.Proofs.YtbcdmcafobjpcaaGreatDoor.Bk
open Go.RowKit

structure NilsC (w : World) (p : Nat) : Prop where
  c0 : w.cell? ⟨p, 0, none⟩ = some (.slice none 0 0)
  c2 : w.cell? ⟨p, 2, none⟩ = some (.slice none 0 0)
  c6 : w.cell? ⟨p, 6, none⟩ = some (.slice none 0 0)
  c8 : w.cell? ⟨p, 8, none⟩ = some (.slice none 0 0)
  c10 : w.cell? ⟨p, 10, none⟩ = some (.slice none 0 0)
theorem NilsC.turn {w w' : World} {p : Nat} {J R : Nat → Prop} (h : NilsC w p) (t : Turn w w' p J R) (hJ : ∀ j, J j → j = 4 ∨ j = 5) : NilsC w' p :=
  ⟨(t.cell 0 (fun q => absurd (hJ _ q) (by decide))).trans h.c0, (t.cell 2 (fun q => absurd (hJ _ q) (by decide))).trans h.c2, (t.cell 6 (fun q => absurd (hJ _ q) (by decide))).trans h.c6, (t.cell 8 (fun q => absurd (hJ _ q) (by decide))).trans h.c8, (t.cell 10 (fun q => absurd (hJ _ q) (by decide))).trans h.c10⟩
/-- The book, with the lists that were kept. -/
structure BookC (w0 w : World) (base p : Nat) (LChanges MChanges : List CL) : Prop where
  below : Below base w0 w
  hp : base ≤ p
  book : BookB w p
  kChanges : KeepChanges w base p LChanges MChanges
  nils : NilsC w p
theorem BookC.next {w0 w w' : World} {base p : Nat} {LChanges MChanges : List CL} (h : BookC w0 w base p LChanges MChanges) (b : Below w.heap.size w w') : BookC w0 w' base p LChanges MChanges :=
  ⟨h.below.trans (b.mono (Nat.le_trans h.hp (Nat.le_of_lt h.book.lt))), h.hp, book_of_block (b.block p h.book.lt) h.book, h.kChanges.below h.book b, h.nils.turn (Turn.of_below (J := fun _ => False) (R := fun _ => False) b h.book.lt) (fun _ q => q.elim)⟩
theorem BookC.addChanges {w0 w w' : World} {base p : Nat} {LChanges MChanges : List CL} {L' M' : List CL} (h : BookC w0 w base p LChanges MChanges) (b : Below base w w') (t : Turn w w' p (fun j => j = 4 ∨ j = 5) (OfType w 28)) (k : KeepChanges w' base p L' M') : BookC w0 w' base p L' M' :=
  ⟨h.below.trans b, h.hp, t.book h.book, k, h.nils.turn t (fun _ q => by omega)⟩
/-- A new book. -/
theorem bookC_start (w0 w : World) (h0 : Below w0.heap.size w0 w) : BookC w0 (w.alloc (.cells #[.slice none 0 0, .slice none 0 0, .slice none 0 0, .slice none 0 0, .slice none 0 0, .slice none 0 0, .slice none 0 0, .slice none 0 0, .slice none 0 0, .slice none 0 0, .slice none 0 0, .slice none 0 0] 37)) w0.heap.size w.heap.size [] [] := by
  have hb := heap_alloc_new w (.cells #[.slice none 0 0, .slice none 0 0, .slice none 0 0, .slice none 0 0, .slice none 0 0, .slice none 0 0, .slice none 0 0, .slice none 0 0, .slice none 0 0, .slice none 0 0, .slice none 0 0, .slice none 0 0] 37)
  have hc : ∀ j, j < 12 → (w.alloc (.cells #[.slice none 0 0, .slice none 0 0, .slice none 0 0, .slice none 0 0, .slice none 0 0, .slice none 0 0, .slice none 0 0, .slice none 0 0, .slice none 0 0, .slice none 0 0, .slice none 0 0, .slice none 0 0] 37)).cell? ⟨w.heap.size, j, none⟩ = some (.slice none 0 0) := fun j hj => by
    rw [World.cell?_alloc_new]
    rcases j with _ | _ | _ | _ | _ | _ | _ | _ | _ | _ | _ | _ | _ <;> first | rfl | omega
  exact ⟨h0.alloc h0.size _, h0.size, ⟨_, hb, rfl⟩,
    ⟨⟨_, _, hc 4 (by omega), hc 5 (by omega), World.ownsRow_nil _ _ _ _, World.ownsRow_nil _ _ _ _, fun g q => by cases q⟩, fun x hx => by simp at hx, fun x hx => by simp at hx, rfl, fun i x y hx => by simp at hx, List.Pairwise.nil, fun x hx => by simp at hx⟩,
    ⟨hc 0 (by omega), hc 2 (by omega), hc 6 (by omega), hc 8 (by omega), hc 10 (by omega)⟩⟩
/-- The lists, whatever is in them. -/
structure HeldC (w0 w : World) (base p : Nat) (LChanges : List CL) (CChanges : Nat → List Chg) : Prop where
  below : Below base w0 w
  hp : base ≤ p
  book : BookB w p
  hChanges : HeldChanges w base p LChanges CChanges
  nils : NilsC w p
theorem BookC.held {w0 w : World} {base p : Nat} {LChanges MChanges : List CL} (h : BookC w0 w base p LChanges MChanges) : HeldC w0 w base p LChanges (fun i => (LChanges[i]?.map (·.l)).getD []) :=
  ⟨h.below, h.hp, h.book, h.kChanges.held, h.nils⟩
theorem HeldC.putChanges {w0 w w' : World} {base p n : Nat} {LChanges : List CL} {CChanges : Nat → List Chg} {C : Nat → List Chg} (h : HeldC w0 w base p LChanges CChanges) (k : PuttingChanges w w' base p LChanges n C) : HeldC w0 w' base p LChanges C :=
  ⟨h.below.trans k.below, h.hp, k.book, k.held, h.nils.turn k.turn (fun _ q => q.elim)⟩
theorem HeldC.growChanges {w0 w w' : World} {base p N : Nat} {LChanges : List CL} {CChanges : Nat → List Chg} {Lo : List CL} {vo : Value} (h : HeldC w0 w base p LChanges CChanges) (k : GrowChanges w w' base p LChanges CChanges N Lo vo) : HeldC w0 w' base p LChanges CChanges :=
  ⟨h.below.trans k.below, h.hp, k.book, k.held, h.nils.turn k.turn (fun _ q => q.elim)⟩
/-- At the end: all lists marked. -/
structure DoneC (w0 w : World) (base p : Nat) (vChanges : Value) : Prop where
  below : Below base w0 w
  hp : base ≤ p
  book : BookB w p
  fChanges : FinChanges w p vChanges
  nils : NilsC w p

set_option maxRecDepth 100000 in
set_option maxHeartbeats 4000000 in
theorem apartC_is (w0 w : World) (base p : Nat) (LChanges MChanges : List CL) (h : BookC w0 w base p LChanges MChanges) (sChanges : LChanges.length ≤ 100) :
    Calls Tryz.prog 22 #[.pointer (some ⟨p, 0, none⟩)] w fun e w' => e = .returned (.bool true) ∧ Below base w0 w' := by
  have HW := Lib.hid h
  have H := Lib.hid h
  have HH := Lib.hid (Nat.le_refl 0)
  clear h
  go_enter Tryz.func22, Tryz.ntmps22
  go_wp2_with (first
    | (go_at_call 33; refine (stillTexts_nil p _ H.out.nils.c0).mono ?_; rintro e w1 ⟨rfl, hw⟩; obtain rfl := hw.symm)
    | (go_at_call 34; refine (stillInts_nil p _ H.out.nils.c2).mono ?_; rintro e w1 ⟨rfl, hw⟩; obtain rfl := hw.symm)
    | (go_at_call 35
       obtain ⟨ao, am, co, cm, hbo⟩ := H.out.kChanges.both
       refine (stillChanges_is p LChanges MChanges ao am co cm _ hbo (by omega)).mono ?_
       rintro e w1 ⟨rfl, mChanges, rfl⟩
       replace H := Lib.hid (HW.out.next (bel_drewN (Below.refl _ _) (mChanges)))
       clear hbo)
    | (go_at_call 36; refine (stillEntries_nil p _ H.out.nils.c6).mono ?_; rintro e w1 ⟨rfl, hw⟩; obtain rfl := hw.symm)
    | (go_at_call 37; refine (stillCodes_nil p _ H.out.nils.c8).mono ?_; rintro e w1 ⟨rfl, hw⟩; obtain rfl := hw.symm)
    | (go_at_call 38; refine (stillNodes_nil p _ H.out.nils.c10).mono ?_; rintro e w1 ⟨rfl, hw⟩; obtain rfl := hw.symm)
    | (go_at_call 39; refine (putNodes_nil p _ H.out.nils.c10).mono ?_; rintro e w1 ⟨rfl, hw⟩; obtain rfl := hw.symm)
    | (go_at_call 40; refine (putTexts_nil p _ H.out.nils.c0).mono ?_; rintro e w1 ⟨rfl, hw⟩; obtain rfl := hw.symm)
    | (go_at_call 41; refine (putInts_nil p _ H.out.nils.c2).mono ?_; rintro e w1 ⟨rfl, hw⟩; obtain rfl := hw.symm)
    | (go_at_call 42
       have G := Lib.hid H.out.held
       refine (putChanges_is base p LChanges _ _ G.out.book G.out.hp G.out.hChanges sChanges).mono ?_
       rintro e w1 ⟨rfl, CChanges, kp⟩
       have GChanges := Lib.hid (G.out.putChanges kp)
       have DChanges := Lib.hid (fun k x (hx : LChanges[k]? = some x) => kp.done k x (List.getElem?_eq_some_iff.1 hx).1 hx)
       clear kp)
    | (go_at_call 43; refine (putEntries_nil p _ GChanges.out.nils.c6).mono ?_; rintro e w1 ⟨rfl, hw⟩; obtain rfl := hw.symm)
    | (go_at_call 44; refine (putCodes_nil p _ GChanges.out.nils.c8).mono ?_; rintro e w1 ⟨rfl, hw⟩; obtain rfl := hw.symm)
    | (go_at_call 45; refine (growTexts_nil p _ GChanges.out.nils.c0).mono ?_; rintro e w1 ⟨rfl, hw⟩; obtain rfl := hw.symm)
    | (go_at_call 46; refine (growInts_nil p _ GChanges.out.nils.c2).mono ?_; rintro e w1 ⟨rfl, hw⟩; obtain rfl := hw.symm)
    | (go_at_call 47
       refine (growChanges_is base p LChanges CChanges _ GChanges.out.book GChanges.out.hp GChanges.out.hChanges DChanges.out sChanges).mono ?_
       rintro e w1 ⟨NChanges, LoChanges, vChanges, rfl, hlo, kg⟩
       have RChanges := Lib.hid (GChanges.out.growChanges kg)
       have UChanges := Lib.hid (And.intro hlo (And.intro kg.out (fun i y hy => And.intro (kg.lo i y hy).1 (And.intro (kg.lo i y hy).2.1 (kg.lo i y hy).2.2.1))))
       have Z : Hid (DoneC w0 w1 base p vChanges) := Lib.hid ⟨RChanges.out.below, RChanges.out.hp, RChanges.out.book, finChanges RChanges.out.hChanges DChanges.out sChanges UChanges.out.1 UChanges.out.2.1 UChanges.out.2.2, RChanges.out.nils⟩
       clear kg hlo)
    | (go_at_call 48; refine (growEntries_nil p _ RChanges.out.nils.c6).mono ?_; rintro e w1 ⟨rfl, hw⟩; obtain rfl := hw.symm)
    | (go_at_call 49; refine (growCodes_nil p _ RChanges.out.nils.c8).mono ?_; rintro e w1 ⟨rfl, hw⟩; obtain rfl := hw.symm)
    | (go_at_call 50; refine (growNodes_nil p _ RChanges.out.nils.c10).mono ?_; rintro e w1 ⟨rfl, hw⟩; obtain rfl := hw.symm))
  obtain ⟨taChanges, tkChanges, tLChanges, rfl, txChanges, tyChanges, tzChanges⟩ := Z.out.fChanges.told
  obtain ⟨faChanges, fkChanges, fLChanges, fcChanges, fxChanges, fyChanges, fzChanges⟩ := Z.out.fChanges.field
  have MTChanges := Lib.hid (fun z (q : Below w1.heap.size w1 z) => markedChanges_is taChanges tLChanges tkChanges z (tyChanges.below q) tzChanges txChanges)
  have MFChanges := Lib.hid (fun z (q : Below w1.heap.size w1 z) => markedChanges_is faChanges fLChanges fkChanges z (fyChanges.below q) fzChanges fxChanges)
  have FF := Lib.hid (fun z (q : Below w1.heap.size w1 z) => And.intro ((q.cell (p := ⟨p, 4, none⟩) Z.out.book.lt).trans fcChanges) ((Z.out.nils.turn (Turn.of_below (J := fun _ => False) (R := fun _ => False) q Z.out.book.lt) (fun _ q => q.elim))))
  have HB : Hid (Below w1.heap.size w1 w1) := Lib.hid (Below.refl _ _)
  have HE := Lib.hid (And.intro Z.out.below (Nat.le_trans Z.out.hp (Nat.le_of_lt Z.out.book.lt)))
  have c4_s := (FF.out _ HB.out).1
  have c0_s := (FF.out _ HB.out).2.c0
  have c2_s := (FF.out _ HB.out).2.c2
  have c6_s := (FF.out _ HB.out).2.c6
  have c8_s := (FF.out _ HB.out).2.c8
  have c10_s := (FF.out _ HB.out).2.c10
  clear txChanges tyChanges tzChanges fxChanges fyChanges fzChanges fcChanges H HW HH Z G GChanges DChanges RChanges UChanges
  go_wp2_with (first
    | (go_at_call 51; refine (markedTexts_nil _).mono ?_; rintro e w2 ⟨rfl, hw⟩; obtain rfl := hw.symm)
    | (go_at_call 52; refine (markedInts_nil _).mono ?_; rintro e w2 ⟨rfl, hw⟩; obtain rfl := hw.symm)
    | (go_at_call 53
       with_reducible refine (MTChanges.out _ HB.out).mono ?_
       rintro e w2 ⟨rfl, b2⟩
       replace HB := Lib.hid (below_next HB.out b2)
       have c4_0 := (FF.out _ HB.out).1
       have c0_0 := (FF.out _ HB.out).2.c0
       have c2_0 := (FF.out _ HB.out).2.c2
       have c6_0 := (FF.out _ HB.out).2.c6
       have c8_0 := (FF.out _ HB.out).2.c8
       have c10_0 := (FF.out _ HB.out).2.c10
       clear b2)
    | (go_at_call 53
       with_reducible refine (MFChanges.out _ HB.out).mono ?_
       rintro e w2 ⟨rfl, b2⟩
       replace HB := Lib.hid (below_next HB.out b2)
       have c4_1 := (FF.out _ HB.out).1
       have c0_1 := (FF.out _ HB.out).2.c0
       have c2_1 := (FF.out _ HB.out).2.c2
       have c6_1 := (FF.out _ HB.out).2.c6
       have c8_1 := (FF.out _ HB.out).2.c8
       have c10_1 := (FF.out _ HB.out).2.c10
       clear b2)
    | (go_at_call 54; refine (markedEntries_nil _).mono ?_; rintro e w2 ⟨rfl, hw⟩; obtain rfl := hw.symm)
    | (go_at_call 55; refine (markedCodes_nil _).mono ?_; rintro e w2 ⟨rfl, hw⟩; obtain rfl := hw.symm)
    | (go_at_call 56; refine (markedNodes_nil _).mono ?_; rintro e w2 ⟨rfl, hw⟩; obtain rfl := hw.symm))
  all_goals
    go_ret
    exact ⟨rfl, HE.out.1.trans (HB.out.mono HE.out.2)⟩
end Go.Proofs.YtbcdmcafobjpcaaGreatDoor.Bk
-- LoopBook
/- The book beside a disk: which blocks it has; a list more, and where its news lie. -/
namespace Go.Proofs.YtbcdmcafobjpcaaGreatDoor.Bk
open Go.RowKit

/-- The blocks of the book and of the lists that were kept. -/
def BG (w : World) (p : Nat) (L M : List CL) (b : Nat) : Prop := b = p ∨ (∃ v, (w.cell? ⟨p, 4, none⟩ = some v ∨ w.cell? ⟨p, 5, none⟩ = some v) ∧ v.ownBlock = some b) ∨ (∃ x ∈ L, x.cell.ownBlock = some b) ∨ ∃ x ∈ M, x.cell.ownBlock = some b
theorem BG.same {w w' : World} {p : Nat} {L M : List CL} (h : w'.heap[p]? = w.heap[p]?) (b : Nat) : BG w' p L M b ↔ BG w p L M b := by
  unfold BG
  rw [World.cell?_of_block (w := w) (a := ⟨p, 4, none⟩) h, World.cell?_of_block (w := w) (a := ⟨p, 5, none⟩) h]
/-- What stays where its blocks stay. -/
theorem BookC.keptG {w0 w w' : World} {base p : Nat} {L M : List CL} (h : BookC w0 w base p L M) (b : Below base w w') (k : ∀ i, BG w p L M i → w'.heap[i]? = w.heap[i]?) : BookC w0 w' base p L M := by
  have hp := k p (.inl rfl)
  have t : Turn w w' p (fun _ => False) (fun i => ¬ BG w p L M i) := ⟨b.size, fun g _ _ hr => k g (Classical.not_not.1 hr), fun j _ => World.cell?_of_block (a := ⟨p, j, none⟩) hp, book_of_block hp⟩
  obtain ⟨vO, vM, c0, c1, o0, o1, ha⟩ := h.kChanges.ex
  refine ⟨h.below.trans b, h.hp, book_of_block hp h.book, ⟨⟨vO, vM, (t.cell 4 id).trans c0, (t.cell 5 id).trans c1, ?_, ?_, ha⟩, fun x hx => ?_, fun x hx => ?_, h.kChanges.len, h.kChanges.same, h.kChanges.apart, h.kChanges.small⟩, h.nils.turn t (fun _ q => q.elim)⟩
  · exact owns_turn o0 t (fun g hg => ⟨not_book h.book o0 (by decide) hg, fun e => e (.inr (.inl ⟨_, .inl c0, hg⟩))⟩)
  · exact owns_turn o1 t (fun g hg => ⟨not_book h.book o1 (by decide) hg, fun e => e (.inr (.inl ⟨_, .inr c1, hg⟩))⟩)
  · exact owns_turn (h.kChanges.each x hx) t (fun g hg => ⟨not_book h.book (h.kChanges.each x hx) (by decide) hg, fun e => e (.inr (.inr (.inl ⟨x, hx, hg⟩)))⟩)
  · exact owns_turn (h.kChanges.copy x hx) t (fun g hg => ⟨not_book h.book (h.kChanges.copy x hx) (by decide) hg, fun e => e (.inr (.inr (.inr ⟨x, hx, hg⟩)))⟩)
theorem BookC.lt {w0 w : World} {base p : Nat} {L M : List CL} (h : BookC w0 w base p L M) (b : Nat) (hb : BG w p L M b) : base ≤ b ∧ b < w.heap.size := by
  obtain ⟨vO, vM, c0, c1, o0, o1, ha⟩ := h.kChanges.ex
  rcases hb with e | ⟨v, e1 | e1, e2⟩ | ⟨z, hz, e⟩ | ⟨z, hz, e⟩
  · subst e; exact ⟨h.hp, h.book.lt⟩
  · rw [c0] at e1
    obtain rfl := Option.some.inj e1
    exact o0.lt b e2
  · rw [c1] at e1
    obtain rfl := Option.some.inj e1
    exact o1.lt b e2
  · exact (h.kChanges.each z hz).lt b e
  · exact (h.kChanges.copy z hz).lt b e

set_option maxRecDepth 100000 in
set_option maxHeartbeats 2000000 in
theorem keepChanges_isB (base p : Nat) (L M : List CL) (x : CL) (w : World) (hb : BookB w p) (hp : base ≤ p) (h : KeepChanges w base p L M) (hx : w.ownsRow base 55 2 x.cell x.l.length (flat Chg.cells x.l))
    (hap : ∀ y ∈ L, ∀ g, y.cell.ownBlock = some g → x.cell.ownBlock ≠ some g) (hs : x.l.length ≤ 1000) (hL : L.length ≤ 100) :
    Calls Tryz.prog 17 #[.pointer (some ⟨p, 0, none⟩), .slice x.a x.l.length x.c] w fun e w' => e = .returned (.tuple #[]) ∧ Below base w w' ∧ Turn w w' p (fun j => j = 4 ∨ j = 5) (OfType w 28) ∧ (∀ b, b < w.heap.size → ¬ BG w p L M b → w'.heap[b]? = w.heap[b]?) ∧ ∃ y : CL, KeepChanges w' base p (L ++ [x]) (M ++ [y]) ∧ ∀ b, BG w' p (L ++ [x]) (M ++ [y]) b → BG w p L M b ∨ x.cell.ownBlock = some b ∨ w.heap.size ≤ b := by
  obtain ⟨i0, hi, hz0, hz1, hz2⟩ := info_parts outInfoChanges
  have HI := Lib.hid (And.intro hi (And.intro hz0 (And.intro hz1 hz2)))
  clear hi hz0 hz1 hz2
  obtain ⟨vO, vM, c0, c1, o0, o1, hne⟩ := h.ex
  obtain ⟨ao, co, rfl⟩ := owns_slice o0
  obtain ⟨am, cm, rfl⟩ := owns_slice o1
  have hpl := hb.lt
  have f0 := hb.frozen 4
  have f1 := hb.frozen 5
  have hLi : (L.length : Int) < 250 := by omega
  have n0 : ∀ g, Value.ownBlock (.slice ao L.length co) = some g → g ≠ p := fun g hg => not_book hb o0 (by decide) hg
  have n1 : ∀ g, Value.ownBlock (.slice am M.length cm) = some g → g ≠ p := fun g hg => not_book hb o1 (by decide) hg
  have HK := Lib.hid (And.intro hb (And.intro h (And.intro hx (And.intro o0 (And.intro o1 (And.intro hne (And.intro n0 n1)))))))
  have HC := Lib.hid (And.intro c0 c1)
  have hM100 : M.length ≤ 100 := by have := h.len; omega
  clear hb h hx o0 o1 hne n0 n1
  go_enter Tryz.func17, Tryz.ntmps17
  go_wp2_with (refine wpList_append_lies _ rfl (.tmp 14) (.tmp 16) 32 rfl base 28 i0 _ 1 24 Tryz.underlying32 HI.out.1 HI.out.2.1 HI.out.2.2.1 HI.out.2.2.2 rfl (by omega) (.slice ao L.length co) L.length (L.map CL.cell) rfl (HK.out.2.2.2.1.alloc _) _ 1 1 [x.cell] rfl rfl (by exact World.news_of_block (heap_alloc_last _ _)) (by intro u hu; simp at hu; rw [hu]; rfl) (by omega) (by unfold maxLen; omega) (by omega) (by simp; omega) _ rfl ?_
               intro g4 cap4 w4 hown4 hgr4 hat4 hlt4
               have b4 := (grown_block hgr4 (show p < _ by simp; omega) (fun e => (HK.out.2.2.2.2.2.2.1 p e) rfl)).trans (heap_alloc_old w _ hpl)
               have d4 : w4.cell? ⟨p, 4, none⟩ = some (.slice ao L.length co) := (World.cell?_of_block (a := ⟨p, 4, none⟩) b4).trans c0
               have g5 : w4.frozen? ⟨p, 4, none⟩ = false := (World.frozen?_of_block (a := ⟨p, 4, none⟩) b4).trans f0)
  have hpush := pushed (J := fun j => j = 4) HK.out.1 hp ((Below.refl w.heap.size w).alloc (Nat.le_refl _) _) HK.out.2.2.2.1 hown4 hgr4 hat4 (by decide) rfl d4
  clear hown4 hgr4 hat4 hlt4 b4 d4 g5 c0 f0
  generalize w4.setCell ⟨p, 4, none⟩ (.slice (some ⟨g4, 0, none⟩) (L.length + 1) cap4) = w5 at *
  obtain ⟨q1, q2, _, q4, q5, q6, q7⟩ := hpush
  have hb5 := q2.book HK.out.1
  have k5 : w5.ownsRow base 28 1 (.slice am M.length cm) M.length (M.map CL.cell) := owns_turn HK.out.2.2.2.2.1 q2 (fun g hg => ⟨HK.out.2.2.2.2.2.2.2 g hg, fun e => HK.out.2.2.2.2.2.1 g e hg⟩)
  have x5 : w5.ownsRow base 55 2 x.cell x.l.length (flat Chg.cells x.l) := owns_turn HK.out.2.2.1 q2 (fun g hg => ⟨not_book HK.out.1 HK.out.2.2.1 (by decide) hg, fun e => not_type HK.out.2.2.1 (show 55 ≠ 28 by decide) hg (by
    obtain ⟨cur, hh⟩ := own_type HK.out.2.2.2.1 e
    exact ⟨cur, _, hh⟩)⟩)
  have c5 : w5.cell? ⟨p, 5, none⟩ = some (.slice am M.length cm) := (q2.cell 5 (by decide)).trans c1
  have f5 := hb5.frozen 5
  have hp5 := hb5.lt
  have lx : LiesAt w5 x.a (flat Chg.cells x.l) := by
    obtain ⟨a', c', hv, hl, _⟩ := own_formK x5
    obtain ⟨rfl, rfl⟩ : x.a = a' ∧ x.c = c' := by simpa [CL.cell] using hv
    exact hl
  have HQ := Lib.hid (And.intro q1 (And.intro q2 (And.intro q4 (And.intro q5 (And.intro q6 (And.intro q7 (And.intro hb5 (And.intro k5 (And.intro x5 lx)))))))))
  clear q1 q2 q4 q5 q6 q7 hb5 k5 x5 lx c1 f1
  go_region_law (first
    | (refine step_append_lies _ rfl (.tmp 24) (.tmp 27) 32 rfl base 28 i0 _ 1 24 Tryz.underlying32 HI.out.1 HI.out.2.1 HI.out.2.2.1 HI.out.2.2.2 (by rfl) (by omega) (.slice am M.length cm) M.length (M.map CL.cell) rfl ((own_belowK HQ.out.2.2.2.2.2.2.2.1 H6.out.1).alloc _) _ 1 1 [.slice a6 x.l.length c6] rfl rfl (by exact World.news_of_block (heap_alloc_last _ _)) (by intro u hu; simp at hu; rw [hu]; rfl) (by omega) (by unfold maxLen; omega) (by omega) (by have := H6.out.1.size; have := HQ.out.1.size; have := HK.out.1.lt; simp; omega) _ rfl ?_
       intro g7 cap7 w7 hown7 hgr7 hat7 hlt7
       have b7 := (grown_block hgr7 (show p < _ by have := H6.out.1.size; simp; omega) (fun e => (HK.out.2.2.2.2.2.2.2 p e) rfl)).trans (heap_alloc_old w6 _ (show p < w6.heap.size by have := H6.out.1.size; omega))
       have d7 : w7.cell? ⟨p, 5, none⟩ = some (.slice am M.length cm) := (World.cell?_of_block (a := ⟨p, 5, none⟩) b7).trans d6
       have f7 : w7.frozen? ⟨p, 5, none⟩ = false := (World.frozen?_of_block (a := ⟨p, 5, none⟩) b7).trans f6)
    | (go_simp
       go_at_call 24
       refine (copyChanges_is x.a x.l x.c _ (HQ.out.2.2.2.2.2.2.2.2.2.below (Below.refl _ _).drew) (by omega)).mono ?_
       rintro e w6 ⟨v6, rfl, b6, o6⟩
       obtain ⟨a6, c6, rfl⟩ := owns_slice o6
       have b6' : Below w5.heap.size w5 w6 := (Below.refl w5.heap.size w5).drew.trans b6
       have d6 : w6.cell? ⟨p, 5, none⟩ = some (.slice am M.length cm) := (b6'.cell (p := ⟨p, 5, none⟩) hp5).trans c5
       have f6 : w6.frozen? ⟨p, 5, none⟩ = false := (b6'.frozen (p := ⟨p, 5, none⟩) hp5).trans f5
       have hp6 : p < w6.heap.size := Nat.lt_of_lt_of_le hp5 b6'.size
       have H6 := Lib.hid (And.intro b6' o6)
       clear b6 b6' o6))
  all_goals
    obtain ⟨q1, q2, q4, q5, q6, q7, hb5, k5, x5, lx⟩ := HQ.out
    obtain ⟨hb, hk, hx, o0, o1, hne, n0, n1⟩ := HK.out
    obtain ⟨r1, r2, r3, r4, r5, r6, r7⟩ := pushed (J := fun j => j = 5) hb5 hp (H6.out.1.alloc H6.out.1.size _) k5 hown7 hgr7 hat7 (by decide) rfl d7
    have tt := (q2.mono (J' := fun j => j = 4 ∨ j = 5) (R' := OfType w 28) (fun j e => Or.inl e) (fun g _ e => by
      obtain ⟨cur, hh⟩ := own_type o0 e
      exact ⟨cur, _, hh⟩)).trans (r2.mono (fun j e => Or.inr e) (fun g _ e => by
      obtain ⟨cur, hh⟩ := own_type o1 e
      exact ⟨cur, _, hh⟩))
    have hvM : ∀ g, Value.ownBlock (.slice am M.length cm) = some g → g < w.heap.size := fun g hg => (o1.lt g hg).2
    have h45 : ∀ g, Value.ownBlock (.slice am M.length cm) = some g → g4 ≠ g := fun g hg => by
      rcases q6 with e | e
      · rintro rfl
        exact hne _ e hg
      · have := hvM g hg
        omega
    have h47 : g4 ≠ g7 := by
      rcases r6 with e | e
      · exact h45 _ e
      · have := (q4.lt g4 rfl).2
        omega
    have bu : Below w6.heap.size w6 (w6.alloc (.cells #[.slice a6 x.l.length c6] 28)) := (Below.refl _ _).alloc (Nat.le_refl _) _
    have bb : base ≤ (w5.drew).heap.size := Nat.le_trans hp (Nat.le_of_lt hb5.lt)
    have y6 := owns_base bb (own_belowK H6.out.2 bu)
    have m6 := own_belowK (own_belowK k5 H6.out.1) bu
    have hb6 : BookB (w6.alloc (.cells #[.slice a6 x.l.length c6] 28)) p := book_of_block (bu.block p (Nat.lt_of_lt_of_le hb5.lt H6.out.1.size)) (book_of_block (H6.out.1.block p hb5.lt) hb5)
    have y7 := owns_turn y6 r3 (fun g hg => ⟨not_book hb6 y6 (by decide) hg, fun e => not_type y6 (show 55 ≠ 28 by decide) hg (by
      obtain ⟨cur, hh⟩ := own_type m6 e
      exact ⟨cur, _, hh⟩)⟩)
    have fin : KeepChanges _ base p (L ++ [x]) (M ++ [⟨a6, x.l, c6⟩]) := {
      ex := ⟨_, _, (r2.cell 4 (by decide)).trans q5, r5, by simpa using owns_turn q4 r2 (fun g hg => by
          obtain rfl : g4 = g := by simpa [Value.ownBlock] using hg
          exact ⟨q7, fun e => h45 _ e rfl⟩), by simpa [CL.cell] using r4, fun g hg e => by
          obtain rfl : g4 = g := by simpa [Value.ownBlock] using hg
          obtain rfl : g7 = g4 := by simpa [Value.ownBlock] using e
          exact h47 rfl⟩
      each := fun z hz => by
        rcases List.mem_append.1 hz with e | e
        · exact owns_typed (hk.each z e) hb tt (by decide) (by decide)
        · obtain rfl : z = x := by simpa using e
          exact owns_typed hx hb tt (by decide) (by decide)
      copy := fun z hz => by
        rcases List.mem_append.1 hz with e | e
        · exact owns_typed (hk.copy z e) hb tt (by decide) (by decide)
        · obtain rfl : z = ⟨a6, x.l, c6⟩ := by simpa using e
          exact y7
      len := by simp [hk.len]
      same := fun i z y hz hy => by
        rcases Nat.lt_or_ge i L.length with e | e
        · rw [List.getElem?_append_left e] at hz
          rw [List.getElem?_append_left (by rw [← hk.len]; exact e)] at hy
          exact hk.same i z y hz hy
        · rw [List.getElem?_append_right e] at hz
          rw [List.getElem?_append_right (by rw [← hk.len]; exact e), ← hk.len] at hy
          have : i - L.length = 0 := by have := (List.getElem?_eq_some_iff.1 hz).1; simp at this; omega
          rw [this] at hz hy
          obtain rfl : x = z := by simpa using hz
          obtain rfl : (⟨a6, x.l, c6⟩ : CL) = y := by simpa using hy
          rfl
      apart := List.pairwise_append.2 ⟨hk.apart, List.pairwise_singleton _ _, fun y hy z hz => by
        obtain rfl : z = x := by simpa using hz
        exact hap y hy⟩
      small := fun z hz => by
        rcases List.mem_append.1 hz with e | e
        · exact hk.small z e
        · obtain rfl : z = x := by simpa using e
          exact hs }
    have hw5 := q1.size
    have hblk : ∀ b, b < w.heap.size → ¬ BG w p L M b → _ := fun b hb' hn => (r2.block b (Nat.lt_of_lt_of_le hb' hw5) (fun e => hn (.inl e)) (fun e => hn (.inr (.inl ⟨_, .inr HC.out.2, e⟩)))).trans (q2.block b hb' (fun e => hn (.inl e)) (fun e => hn (.inr (.inl ⟨_, .inl HC.out.1, e⟩))))
    have hBG : ∀ b, BG _ p (L ++ [x]) (M ++ [⟨a6, x.l, c6⟩]) b → BG w p L M b ∨ x.cell.ownBlock = some b ∨ w.heap.size ≤ b := fun b hb' => by
      rcases hb' with e | ⟨v, e1 | e1, e2⟩ | ⟨z, hz, e⟩ | ⟨z, hz, e⟩
      · exact .inl (.inl e)
      · rw [(r2.cell 4 (by decide)).trans q5] at e1
        obtain rfl := Option.some.inj e1
        obtain rfl : g4 = b := by simpa [Value.ownBlock] using e2
        rcases q6 with r | r
        · exact .inl (.inr (.inl ⟨_, .inl HC.out.1, r⟩))
        · exact .inr (.inr r)
      · rw [r5] at e1
        obtain rfl := Option.some.inj e1
        obtain rfl : g7 = b := by simpa [Value.ownBlock] using e2
        rcases r6 with r | r
        · exact .inl (.inr (.inl ⟨_, .inr HC.out.2, r⟩))
        · exact .inr (.inr (Nat.le_trans hw5 r))
      · rcases List.mem_append.1 hz with r | r
        · exact .inl (.inr (.inr (.inl ⟨z, r, e⟩)))
        · obtain rfl : z = x := by simpa using r
          exact .inr (.inl e)
      · rcases List.mem_append.1 hz with r | r
        · exact .inl (.inr (.inr (.inr ⟨z, r, e⟩)))
        · obtain rfl : z = ⟨a6, x.l, c6⟩ := by simpa using r
          exact .inr (.inr (Nat.le_trans hw5 (H6.out.2.lt b e).1))
    exact bodyPost_end (results_none rfl _ _ _) rfl ⟨rfl, q1.trans r1, tt, hblk, _, fin, hBG⟩
end Go.Proofs.YtbcdmcafobjpcaaGreatDoor.Bk
-- SecAlive
/- The law's helper alive: it answers true. -/
namespace Go.Proofs.YtbcdmcafobjpcaaGreatDoor.Sec
open Go.RowKit

end Go.Proofs.YtbcdmcafobjpcaaGreatDoor.Sec
-- SecOrder
/- SectorOrder answers true: for all texts and all that is kept. -/
namespace Go.Proofs.YtbcdmcafobjpcaaGreatDoor.Sec
open Go.RowKit

/-- A slice of texts, or of numbers, in memory. -/
def StrsAt (w : World) (a : Option Addr) (l : List ByteArray) : Prop := ∀ j s, l[j]? = some s → ∃ b : Addr, a = some b ∧ b.block < w.heap.size ∧ w.cell? (b.add j) = some (.string s)
def IntsAt (w : World) (a : Option Addr) (l : List Int) : Prop := ∀ j z, l[j]? = some z → ∃ b : Addr, a = some b ∧ b.block < w.heap.size ∧ w.cell? (b.add j) = some (.int .i64 z)
theorem add_block (a : Addr) (n : Nat) : (a.add n).block = a.block := by unfold Addr.add; split <;> rfl
theorem StrsAt.below {w w' : World} {a : Option Addr} {l : List ByteArray} (h : StrsAt w a l) (hb : Below w.heap.size w w') : StrsAt w' a l := fun j s hs => by
  obtain ⟨b, hb1, hb2, hb3⟩ := h j s hs
  exact ⟨b, hb1, Nat.lt_of_lt_of_le hb2 hb.size, by rw [hb.cell (by rw [add_block]; exact hb2)]; exact hb3⟩
theorem IntsAt.below {w w' : World} {a : Option Addr} {l : List Int} (h : IntsAt w a l) (hb : Below w.heap.size w w') : IntsAt w' a l := fun j s hs => by
  obtain ⟨b, hb1, hb2, hb3⟩ := h j s hs
  exact ⟨b, hb1, Nat.lt_of_lt_of_le hb2 hb.size, by rw [hb.cell (by rw [add_block]; exact hb2)]; exact hb3⟩

/-- The disk behind k writes of sector 1. -/
def ordD (l : List ByteArray) : Nat → Dsk
  | 0 => newD 2
  | k + 1 => ((ordD l k).push 1 (pad32 (l.getD k ByteArray.empty))).down.deed
/-- What is wanted behind k writes. -/
def ordW (l : List ByteArray) (kl : List Int) : Nat → ByteArray
  | 0 => pad32 ⟨#[]⟩
  | k + 1 => if odd (kl.getD k 0) then pad32 (l.getD k ByteArray.empty) else ordW l kl k

theorem down_unlit {D : Dsk} (h : D.lit = false) : D.down = D := by unfold Dsk.down; rw [if_neg (by rw [h]; simp)]
theorem ord_facts (l : List ByteArray) : ∀ k, (ordD l k).on = true ∧ (ordD l k).lasts = [zero32, zero32] ∧ (ordD l k).now.length = 2 ∧ (ordD l k).waits = (List.range k).map (fun i => (1, pad32 (l.getD i ByteArray.empty))) ∧ (ordD l k).deeds = k ∧ (ordD l k).lit = false
  | 0 => ⟨rfl, rfl, rfl, rfl, rfl, rfl⟩
  | k + 1 => by
    obtain ⟨h1, h2, h3, h4, h5, h6⟩ := ord_facts l k
    have e : ordD l (k + 1) = ((ordD l k).push 1 (pad32 (l.getD k ByteArray.empty))).deed := by
      show ((ordD l k).push 1 _).down.deed = _
      rw [down_unlit (show ((ordD l k).push 1 _).lit = false from h6)]
    rw [e]
    refine ⟨h1, h2, by simpa [Dsk.push, Dsk.deed] using h3, ?_, by simp [Dsk.push, Dsk.deed, h5], h6⟩
    simp [Dsk.push, Dsk.deed, h4, List.range_succ]
theorem ord_now (l : List ByteArray) (k : Nat) : (ordD l (k + 1)).now[1]? = some (pad32 (l.getD k ByteArray.empty)) := by
  have e : ordD l (k + 1) = ((ordD l k).push 1 (pad32 (l.getD k ByteArray.empty))).deed := by
    show ((ordD l k).push 1 _).down.deed = _
    rw [down_unlit (show ((ordD l k).push 1 _).lit = false from (ord_facts l k).2.2.2.2.2)]
  rw [e]
  have := (ord_facts l k).2.2.1
  simp [Dsk.push, Dsk.deed, this]
theorem ord_crash (l : List ByteArray) (kl : List Int) (n : Nat) : ∀ k, k ≤ n → ((ordD l n).crashL kl k)[1]? = some (ordW l kl k) ∧ ((ordD l n).crashL kl k).length = 2
  | 0, _ => by
    refine ⟨?_, ?_⟩
    · show (ordD l n).lasts[1]? = _
      rw [(ord_facts l n).2.1]
      show some zero32 = some (pad32 ⟨#[]⟩)
      rw [show pad32 ⟨#[]⟩ = zero32 by kernel_rfl]
    · show (ordD l n).lasts.length = 2
      rw [(ord_facts l n).2.1]; rfl
  | k + 1, h => by
    obtain ⟨h1, h2⟩ := ord_crash l kl n k (by omega)
    have hx : (ordD l n).waits[k]? = some (1, pad32 (l.getD k ByteArray.empty)) := by
      rw [(ord_facts l n).2.2.2.1]
      simp [show k < n by omega]
    cases ho : odd (kl.getD k 0)
    · rw [crashL_even hx ho]
      refine ⟨?_, h2⟩
      rw [h1, ordW, if_neg (by rw [ho]; simp)]
    · rw [crashL_odd hx ho]
      refine ⟨?_, by simp [h2]⟩
      rw [ordW, if_pos ho]
      simp [h2]

end Go.Proofs.YtbcdmcafobjpcaaGreatDoor.Sec
-- SecClone
/- slices.Clone at the disk's three element types; Disk.Arm. -/
namespace Go.Proofs.YtbcdmcafobjpcaaGreatDoor.Sec
open Go.RowKit

theorem blockInfo' : (Tryz.prog.info? 75).map (fun i => (i.zero, i.size, i.bytes)) = some (some (.agg (Array.replicate 32 (.int .u8 0))), 32, 32) := blockInfo
theorem intInfo : (Tryz.prog.info? 3).map (fun i => (i.zero, i.size, i.bytes)) = some (some (.int .i64 0), 1, 8) := by kernel_rfl

/-- A new, empty row. -/
theorem owns_empty (w : World) (e : TypeId) (k : Nat) : (w.alloc (.cells #[] e)).ownsRow w.heap.size e k (.slice (some ⟨w.heap.size, 0, none⟩) 0 0) 0 [] :=
  ⟨by simp, .inr ⟨w.heap.size, 0, #[], rfl, Nat.le_refl _, heap_alloc_last _ _, Nat.le_refl _, Nat.zero_le _, by simp, by simp⟩⟩

/-- append by its run. -/
theorem wpList_append_run {P : Program} {ops : Array Oper} {rest : List Oper} {o : Oper} {a : Act} {w w' : World} {Q : Exit → Act → World → Prop} (hgd : o.guard = none) (d s : Operand) (dT sT : TypeId)
    (ho : o.op = .call { callee := .builtin .append, args := #[d, s], argTypes := #[dT, sT] }) (vd vs v : Value) (hd : a.eval d = vd) (hs : a.eval s = vs)
    (hr : (Builtin.append_ #[dT, sT] o.type #[vd, vs]).run P w = .ok v w') (h : wpList P ops Q rest (a.put o.dst v) w') : wpList P ops Q (o :: rest) a w :=
  wpList_plain hgd fun _ hK => by
    unfold Oper.wp execOp
    simp only [ho, resolve, invoke, builtin, Sem.run_bind, Sem.run_pure, Result.andThen_ok, List.map_toArray, List.map_cons, List.map_nil, hd, hs, hr]
    exact hK _ _ h
theorem run_append_zero {P : Program} (w : World) (t ty e : TypeId) (i : TypeInfo) (ht : P.underlying t = some (.slice e)) (hi : P.info? e = some i) (hn : (match P.underlying t with | some (.int _) => true | _ => false) = false) (g : Nat) (b : Addr) (c : Nat) :
    (Builtin.append_ #[t, t] ty #[.slice (some ⟨g, 0, none⟩) 0 0, .slice (some b) 0 c]).run P w = .ok (.slice (some ⟨g, 0, none⟩) 0 0) w := by
  have hl : ∀ (x : Addr), (loadCells x 0).run P w = .ok #[] w := fun x => by simpa using run_loadCells_list (P := P) w x [] (by simp)
  simp [Builtin.append_, run_underlying ht, sizeOf, typeInfo, hi, Builtin.lenOf, Builtin.firstCells, hl, storeCells]

set_option maxRecDepth 100000 in
set_option maxHeartbeats 1000000 in
theorem clone_int (a : Option Addr) (m c : Nat) (cs : List Value) (w : World) (hm : m < 2 ^ 40) (hl : cs.length = m * 1) (hcs : ∀ j u, cs[j]? = some u → ∃ b : Addr, a = some b ∧ b.block < w.heap.size ∧ w.cell? (b.add j) = some u)
    (h1 : ∀ u ∈ cs, u.oneCell' = true) (hnil : a = none → m = 0) :
    Calls Tryz.prog 32 #[.slice a m c] w fun e w' => ∃ a' c', e = .returned (.slice a' m c') ∧ Below w.heap.size w w' ∧ m ≤ c' ∧
      ((a' = none ∧ m = 0 ∧ c' = 0) ∨ ∃ g, a' = some ⟨g, 0, none⟩ ∧ w.heap.size ≤ g ∧ w'.ownsRow w.heap.size 3 1 (.slice (some ⟨g, 0, none⟩) m c') m cs) := by
  have hq := run_eql_slice_nil (P := Tryz.prog) w 38 3 a m c Tryz.underlying38
  cases a with
  | none =>
    have h0 : m = 0 := hnil rfl
    have H0 := Lib.hid h0
    clear h0 hcs hl h1 hnil
    go_enter Tryz.func32, Tryz.ntmps32
    go_wp2
    go_ret
    exact ⟨none, 0, by rw [H0.out]; rfl, Below.refl _ _, by rw [H0.out]; exact Nat.le_refl _, .inl ⟨rfl, H0.out, rfl⟩⟩
  | some b =>
    obtain ⟨i0, hi, hz0, hz1, hz2⟩ := info_parts intInfo
    have HI := Lib.hid (And.intro hi (And.intro hz0 (And.intro hz1 hz2)))
    clear hi hz0 hz1 hz2
    rcases Nat.eq_zero_or_pos m with h0 | h0
    · subst h0
      have hcn : cs = [] := List.eq_nil_of_length_eq_zero (by simpa using hl)
      have HN := Lib.hid hcn
      clear hcn hcs hl h1 hnil
      go_enter Tryz.func32, Tryz.ntmps32
      go_wp2_with (refine wpList_append_run rfl (.tmp 5) (.tmp 6) 38 38 rfl _ _ _ rfl rfl (run_append_zero _ 38 38 3 i0 Tryz.underlying38 HI.out.1 rfl w.heap.size b c) ?_)
      go_ret
      refine ⟨_, _, rfl, (Below.refl _ _).alloc (Nat.le_refl _) _, Nat.le_refl _, .inr ⟨_, rfl, Nat.le_refl _, ?_⟩⟩
      rw [HN.out]
      exact owns_empty w _ _
    · have HD := Lib.hid (show ∀ j u, cs[j]? = some u → (w.alloc (.cells #[] 3)).cell? (b.add j) = some u from fun j u hu => by
          obtain ⟨b', hb, hlt, hc⟩ := hcs j u hu
          obtain rfl : b = b' := by simpa using hb
          rw [World.cell?_alloc_lt _ _ _ (by rw [add_block]; exact hlt)]
          exact hc)
      have HC := Lib.hid (And.intro hl (And.intro hcs h1))
      clear hl hcs h1 hnil
      go_enter Tryz.func32, Tryz.ntmps32
      go_wp2_with (first
       | (refine wpList_append_lies _ rfl (.tmp 5) (.tmp 6) 38 rfl w.heap.size 3 i0 _ 1 8 Tryz.underlying38 HI.out.1 HI.out.2.1 HI.out.2.2.1 HI.out.2.2.2 (by rfl) (by omega)
            (.slice (some ⟨w.heap.size, 0, none⟩) 0 0) 0 [] rfl (by exact owns_empty w _ _) b m c cs rfl HC.out.1 (by exact HD.out) HC.out.2.2 h0 (by unfold maxLen; omega) (by omega) (by simp) _ rfl ?_
          intro g cap w1 hown hgr hat hlt))
      go_ret
      have hg : w.heap.size ≤ g := by
        rcases hat with q | q
        · have : w.heap.size = g := by simpa [Value.ownBlock] using q
          omega
        · rw [q]; simp
      simp only [Nat.zero_add, List.nil_append] at hown
      refine ⟨_, cap, by simp, ((Below.refl _ _).alloc (Nat.le_refl _) _).grown hgr (by simp) (fun k hk => by simp [Value.ownBlock] at hk; omega), ?_, .inr ⟨g, rfl, hg, hown⟩⟩
      rcases hown.2 with ⟨q, _⟩ | ⟨g', cap', cur, hv, _, _, hle, _⟩
      · cases q
      · obtain ⟨_, rfl⟩ : g = g' ∧ cap = cap' := by simpa using hv
        exact hle
end Go.Proofs.YtbcdmcafobjpcaaGreatDoor.Sec
-- SecArm
/- Disk.Arm by its contract. -/
namespace Go.Proofs.YtbcdmcafobjpcaaGreatDoor.Sec
open Go.RowKit

/-- A disk that is armed. -/
def Dsk.arm (D : Dsk) (n : Nat) (kl : List Int) : Dsk := { D with lit := true, left := n, keep := kl }
/-- Where it lies. -/
def Lay.armed (y : Lay) (kl : List Int) (ka : Option Addr) (g cap : Nat) : Lay := { y with K := if 0 < kl.length then g else y.p, cK := cap, ka := ka }

section
variable {w : World} {y : Lay} {D : Dsk}
theorem IsD.armed (h : IsD w y D) (n : Nat) (hn : n < 2 ^ 63) (kl : List Int) (ka : Option Addr) (g cap : Nat) (hkl : kl.length < 2 ^ 62) (hc : kl.length ≤ cap) (hka : 0 < kl.length → ka = some ⟨g, 0, none⟩ ∧ g < w.heap.size ∧ g ≠ y.p ∧ g ≠ y.L ∧ g ≠ y.N ∧ g ≠ y.W)
    (hat : ∀ j z, kl[j]? = some z → w.cell? ⟨g, j, none⟩ = some (.int .i64 z)) :
    IsD (((w.setCell ⟨y.p, 6, none⟩ (.bool true)).setCell ⟨y.p, 7, none⟩ (.int .i64 (n : Int))).setCell ⟨y.p, 8, none⟩ (.slice ka kl.length cap)) (y.armed kl ka g cap) (D.arm n kl) := by
  have o : ∀ b, b ≠ y.p → (((w.setCell ⟨y.p, 6, none⟩ (.bool true)).setCell ⟨y.p, 7, none⟩ (.int .i64 (n : Int))).setCell ⟨y.p, 8, none⟩ (.slice ka kl.length cap)).heap[b]? = w.heap[b]? := fun b hb => by
    rw [heap_setCell_ne _ _ _ _ hb, heap_setCell_ne _ _ _ _ hb, heap_setCell_ne _ _ _ _ hb]
  have b := h.bod.off_p h.shp o
  have s := h.shp
  refine ⟨⟨?_, there_set (there_set (there_set h.head.thr _ _) _ _) _ _⟩, ⟨b.rL, b.rN, b.oW, b.tL, b.tN, ?_⟩, ?_, ?_⟩
  · exact rangeAt_set (k := 8) (rangeAt_set (k := 7) (rangeAt_set (k := 6) h.head.rng _) _) _
  · intro j z hz
    have h0 : 0 < kl.length := Nat.lt_of_le_of_lt (Nat.zero_le _) (List.getElem?_eq_some_iff.1 hz).1
    have hg := hka h0
    show World.cell? _ ⟨if 0 < kl.length then g else y.p, j, none⟩ = _
    rw [if_pos h0]
    exact (World.cell?_of_block (w := w) (a := ⟨g, j, none⟩) (o g hg.2.2.1)).trans (hat j z hz)
  · refine ⟨s.len, s.most, s.blkL, s.blkN, s.blkW, s.deedsB, hn, s.waitsB, s.capL, s.capN, hc, hkl, s.laE, s.naE, s.waE, ?_, s.nL, s.nW, ?_⟩
    · intro q
      have q' : 0 < kl.length := q
      show ka = some ⟨if 0 < kl.length then g else y.p, 0, none⟩
      rw [if_pos q']
      exact (hka q').1
    · intro q
      have q' : 0 < kl.length := q
      have hg := hka q'
      show (if 0 < kl.length then g else y.p) ≠ y.p ∧ (if 0 < kl.length then g else y.p) ≠ y.L ∧ (if 0 < kl.length then g else y.p) ≠ y.N ∧ (y.wa ≠ none → (if 0 < kl.length then g else y.p) ≠ y.W)
      rw [if_pos q']
      exact ⟨hg.2.2.1, hg.2.2.2.1, hg.2.2.2.2.1, fun _ => hg.2.2.2.2.2⟩
  · intro k q
    rw [size_setCell', size_setCell', size_setCell']
    rcases q with q | q | q | q | q
    · exact h.small k (.inl q)
    · exact h.small k (.inr (.inl q))
    · exact h.small k (.inr (.inr (.inl q)))
    · exact h.small k (.inr (.inr (.inr (.inl q))))
    · have q' : k = if 0 < kl.length then g else y.p := q
      split at q'
      · rename_i h0; rw [q']; exact (hka h0).2.1
      · exact h.small k (.inl q')
end

set_option maxRecDepth 100000 in
set_option maxHeartbeats 1000000 in
/-- Arm of a number that is not below 0. -/
theorem Arm_is (y : Lay) (D : Dsk) (w : World) (n : Nat) (hn : n < 2 ^ 63) (a : Option Addr) (kl : List Int) (c : Nat) (h : IsD w y D) (hk : IntsAt w a kl) (hoff : ∀ b : Addr, 0 < kl.length → a = some b → b.block ≠ y.p) (hkl : kl.length < 2 ^ 40) :
    Calls Tryz.prog 18 #[.pointer (some ⟨y.p, 0, none⟩), .int .i64 (n : Int), .slice a kl.length c] w fun e w' => e = .returned (.tuple #[]) ∧ Goes y w (D.arm n kl) w' := by
  have hn0 : (0 : Int) ≤ (n : Int) := Int.natCast_nonneg n
  have f6 := h.head.fz 6 (by omega)
  have f7 := h.head.fz 7 (by omega)
  have f8 := h.head.fz 8 (by omega)
  have c6 := h.head.c6
  have c7 := h.head.c7
  have c8 := h.head.c8
  have H := Lib.hid (And.intro h (And.intro hk hoff))
  clear h hk hoff
  go_enter Tryz.func18, Tryz.ntmps18
  go_wp2_with (go_at_call 29; refine (none_is y D _ H.out.1).mono ?_; rintro e w' ⟨rfl, rfl⟩)
  have I1 := H.out.1.set_noK
  have ks1 : ∀ j u, (kl.map (Value.int .i64))[j]? = some u → ∃ b : Addr, a = some b ∧ b.block < (((w'.setCell ⟨y.p, 6, none⟩ (.bool false)).setCell ⟨y.p, 7, none⟩ (.int .i64 0)).setCell ⟨y.p, 8, none⟩ (.slice none 0 0)).heap.size ∧
      (((w'.setCell ⟨y.p, 6, none⟩ (.bool false)).setCell ⟨y.p, 7, none⟩ (.int .i64 0)).setCell ⟨y.p, 8, none⟩ (.slice none 0 0)).cell? (b.add j) = some u := fun j u hu => by
    rw [List.getElem?_map] at hu
    obtain ⟨z, hz, rfl⟩ := Option.map_eq_some_iff.1 hu
    obtain ⟨b, hb, hlt, hc⟩ := H.out.2.1 j z hz
    have hne := H.out.2.2 b (Nat.lt_of_le_of_lt (Nat.zero_le _) (List.getElem?_eq_some_iff.1 hz).1) hb
    refine ⟨b, hb, by rw [size_setCell', size_setCell', size_setCell']; exact hlt, ?_⟩
    rw [World.cell?_of_block (w := w') (a := b.add j) (by rw [add_block, heap_setCell_ne _ _ _ _ hne, heap_setCell_ne _ _ _ _ hne, heap_setCell_ne _ _ _ _ hne])]
    exact hc
  have o1 : Only y.foot w' (((w'.setCell ⟨y.p, 6, none⟩ (.bool false)).setCell ⟨y.p, 7, none⟩ (.int .i64 0)).setCell ⟨y.p, 8, none⟩ (.slice none 0 0)) := (((Only.refl _ _).setCell (.inl (.inl rfl)) _).setCell (.inl (.inl rfl)) _).setCell (.inl (.inl rfl)) _
  have hnil : a = none → kl.length = 0 := fun q => by
    rcases Nat.eq_zero_or_pos kl.length with r | r
    · exact r
    · obtain ⟨b, hb, _⟩ := H.out.2.1 0 _ (List.getElem?_eq_getElem r)
      rw [q] at hb; cases hb
  clear f6 f7 f8 c6 c7 c8
  generalize ((w'.setCell ⟨y.p, 6, none⟩ (.bool false)).setCell ⟨y.p, 7, none⟩ (.int .i64 0)).setCell ⟨y.p, 8, none⟩ (.slice none 0 0) = w1 at *
  have hone : ∀ u ∈ kl.map (Value.int .i64), u.oneCell' = true := fun u hu => by
    obtain ⟨z, _, rfl⟩ := List.mem_map.1 hu
    rfl
  refine (clone_int a kl.length c (kl.map (Value.int .i64)) w1 hkl (by simp) ks1 hone hnil).mono ?_
  rintro e w2 ⟨a', c', rfl, hb2, hc2, hown⟩
  have I2 : IsD w2 y.noK D.disarm := I1.only (Only.of_below hb2) (fun b q r => by have := I1.small b q; omega)
  have c6 := I2.head.c6
  have c7 := I2.head.c7
  have c8 := I2.head.c8
  have f6 := I2.head.fz 6 (by omega)
  have f7 := I2.head.fz 7 (by omega)
  have f8 := I2.head.fz 8 (by omega)
  change w2.cell? ⟨y.p, 6, none⟩ = _ at c6
  change w2.cell? ⟨y.p, 7, none⟩ = _ at c7
  change w2.cell? ⟨y.p, 8, none⟩ = _ at c8
  change w2.frozen? ⟨y.p, 6, none⟩ = _ at f6
  change w2.frozen? ⟨y.p, 7, none⟩ = _ at f7
  change w2.frozen? ⟨y.p, 8, none⟩ = _ at f8
  have H2 := Lib.hid (And.intro I2 (And.intro hb2 (And.intro hc2 (And.intro hown (And.intro o1 I1)))))
  clear I2 hb2 hc2 hown o1 I1 ks1 hnil hone
  go_wp2
  refine bodyPost_end (results_none rfl _ _ _) rfl ?_
  obtain ⟨I2, hb2, hc2, hown, o1, I1⟩ := H2.out
  have hsz := hb2.size
  rcases hown with ⟨rfl, h0, _⟩ | ⟨g, rfl, hg, hown⟩
  · have hkn : kl = [] := List.eq_nil_of_length_eq_zero h0
    subst hkn
    have I3 := I2.armed n hn [] none 0 c' (by simp) hc2 (fun q => by simp at q) (fun j z hz => by simp at hz)
    refine ⟨rfl, y.noK.armed [] none 0 c', rfl, I3, ?_, ?_⟩
    · intro b q
      rcases q with q | q | q | q | q
      · exact .inl (.inl q)
      · exact .inl (.inr (.inl q))
      · exact .inl (.inr (.inr (.inl q)))
      · exact .inl (.inr (.inr (.inr (.inl q))))
      · exact .inl (.inl q)
    · exact (((o1.trans (Only.of_below hb2) (fun i hi q => by have := o1.size; omega)).setCell (.inl (.inl rfl)) _).setCell (.inl (.inl rfl)) _).setCell (.inl (.inl rfl)) _
  · have hlt : g < w2.heap.size := by
      have := hown.lt g rfl
      exact this.2
    have hgf : ∀ b, y.noK.foot b → g ≠ b := fun b q e => by have := I1.small b q; omega
    have I3 := I2.armed n hn kl (some ⟨g, 0, none⟩) g c' (by omega) hc2 (fun q => ⟨rfl, hlt, hgf _ (.inl rfl), hgf _ (.inr (.inl rfl)), hgf _ (.inr (.inr (.inl rfl))), hgf _ (.inr (.inr (.inr (.inl rfl))))⟩) (fun j z hz => by
      have hj : j < kl.length := (List.getElem?_eq_some_iff.1 hz).1
      rw [hown.cellAt j (by omega)]
      simp [hz])
    refine ⟨rfl, y.noK.armed kl (some ⟨g, 0, none⟩) g c', rfl, I3, ?_, ?_⟩
    · intro b q
      rcases q with q | q | q | q | q
      · exact .inl (.inl q)
      · exact .inl (.inr (.inl q))
      · exact .inl (.inr (.inr (.inl q)))
      · exact .inl (.inr (.inr (.inr (.inl q))))
      · have q' : b = if 0 < kl.length then g else y.p := q
        split at q'
        · have := o1.size; exact .inr (by omega)
        · exact .inl (.inl q')
    · exact (((o1.trans (Only.of_below hb2) (fun i hi q => by have := o1.size; omega)).setCell (.inl (.inl rfl)) _).setCell (.inl (.inl rfl)) _).setCell (.inl (.inl rfl)) _

theorem Arm_at {B p : Nat} {D : Dsk} (w : World) (n : Nat) (hn : n < 2 ^ 63) (a : Option Addr) (kl : List Int) (c : Nat) (h : At B w p D) (hk : IntsAt w a kl) (hoff : ∀ b : Addr, 0 < kl.length → a = some b → b.block < B) (hkl : kl.length < 2 ^ 40) :
    Calls Tryz.prog 18 #[.pointer (some ⟨p, 0, none⟩), .int .i64 (n : Int), .slice a kl.length c] w fun e w' => e = .returned (.tuple #[]) ∧ At B w' p (D.arm n kl) ∧ Below B w w' := by
  obtain ⟨y, rfl, hi, hft⟩ := h
  exact (Arm_is y D w n hn a kl c hi hk (fun b q r => by have := hoff b q r; have := hft y.p (.inl rfl); omega) hkl).mono fun e w' ⟨he, hg⟩ => ⟨he, At.of hi hft hg⟩
end Go.Proofs.YtbcdmcafobjpcaaGreatDoor.Sec
-- LoopDiskB
/- The disk, and blocks that it hasn't got: On, Power, Crash, Arm. -/
namespace Go.Proofs.YtbcdmcafobjpcaaGreatDoor
open Go.RowKit Sec

set_option maxHeartbeats 1000000 in
theorem Arm_neg (y : Lay) (D : Dsk) (w : World) (n : Int) (hn : n < 0) (v : Value) (h : IsD w y D) :
    Calls Tryz.prog 18 #[.pointer (some ⟨y.p, 0, none⟩), .int .i64 n, v] w fun e w' => e = .returned (.tuple #[]) ∧ Goes y w D.disarm w' := by
  have f6 := h.head.fz 6 (by omega)
  have f7 := h.head.fz 7 (by omega)
  have f8 := h.head.fz 8 (by omega)
  have c6 := h.head.c6
  have c7 := h.head.c7
  have c8 := h.head.c8
  have H := Lib.hid h
  clear h
  go_enter Tryz.func18, Tryz.ntmps18
  go_wp2_with (go_at_call 29; refine (none_is y D _ H.out).mono ?_; rintro e w' ⟨rfl, rfl⟩)
  refine bodyPost_end (results_none rfl _ _ _) rfl ?_
  refine ⟨rfl, y.noK, rfl, H.out.set_noK, ?_, ?_⟩
  · intro b q
    rcases q with q | q | q | q | q
    · exact .inl (.inl q)
    · exact .inl (.inr (.inl q))
    · exact .inl (.inr (.inr (.inl q)))
    · exact .inl (.inr (.inr (.inr (.inl q))))
    · exact .inl (.inl q)
  · exact (((Only.refl _ _).setCell (.inl (.inl rfl)) _).setCell (.inl (.inl rfl)) _).setCell (.inl (.inl rfl)) _

/-- Numbers that lie below block B. -/
def LowI (B : Nat) (w : World) (ka : Option Addr) (kl : List Int) : Prop := ∀ j u, kl[j]? = some u → ∃ b : Addr, ka = some b ∧ b.block < B ∧ w.cell? (b.add j) = some (.int .i64 u)
theorem LowI.off {B : Nat} {w : World} {ka : Option Addr} {kl : List Int} (h : LowI B w ka kl) (a : Addr) (h0 : 0 < kl.length) (ha : ka = some a) : a.block < B := by
  obtain ⟨b, hb, hlt, _⟩ := h 0 _ (List.getElem?_eq_getElem h0)
  rw [hb] at ha
  obtain rfl : b = a := by simpa using ha
  exact hlt
theorem LowI.below {B : Nat} {w w' : World} {ka : Option Addr} {kl : List Int} (h : LowI B w ka kl) (b : Below B w w') : LowI B w' ka kl := fun j u hu => by
  obtain ⟨a, h1, h2, h3⟩ := h j u hu
  exact ⟨a, h1, h2, (World.cell?_of_block (a := a.add j) (b.block _ (by rw [show (a.add j).block = a.block by unfold Addr.add; split <;> rfl]; exact h2))).trans h3⟩
section
variable {B : Nat} {G : Nat → Prop} {w w' : World} {p : Nat} {D : Dsk}
theorem On_k (h : AtK B G w p D) : Calls Tryz.prog 10 #[.pointer (some ⟨p, 0, none⟩)] w fun e w' => e = .returned (.bool D.on) ∧ w' = w := by
  obtain ⟨_, y, rfl, hi, _, _⟩ := h
  exact On_is y D w hi
theorem Power_k (h : AtK B G w p D) : Calls Tryz.prog 12 #[.pointer (some ⟨p, 0, none⟩)] w fun e w' => e = .returned (.bool (!D.on)) ∧ AtK B G w' p { D with on := true } ∧ Below B w w' ∧ KeptG G w w' :=
  h.go fun y hp hi _ => by subst hp; exact (Power_is y D w hi).mono fun e w' ⟨he, h1, h2⟩ => ⟨he, Goes.of h1 h2⟩
theorem Crash_k (h : AtK B G w p D) (hon : D.on = true) (ka : Option Addr) (kl : List Int) (kc : Nat) (hk : LowI B w ka kl) (hkl : kl.length < 2 ^ 62) :
    Calls Tryz.prog 16 #[.pointer (some ⟨p, 0, none⟩), .slice ka kl.length kc] w fun e w' => e = .returned (.int .i64 (lostN kl D.waits.length : Int)) ∧ AtK B G w' p (D.crash kl) ∧ Below B w w' ∧ KeptG G w w' :=
  have hB := h.le
  h.go fun y hp hi hf => by
    subst hp
    refine Crash_on y D w ka kl kc hi ⟨fun j z hz => ?_, fun a h0 ha => ?_⟩ hkl hon
    · obtain ⟨a, h1, _, h3⟩ := hk j z hz
      exact ⟨a, h1, h3⟩
    · have hlt := hk.off a h0 ha
      have h1 := hf y.p (.inl rfl)
      have h2 := hf y.L (.inr (.inl rfl))
      have h3 := hf y.N (.inr (.inr (.inl rfl)))
      exact ⟨by omega, by omega, by omega, by omega⟩
/-- A disk that is armed, or not any more. -/
def armD (D : Dsk) (n : Int) (kl : List Int) : Dsk := if 0 ≤ n then D.arm n.toNat kl else D.disarm
theorem Arm_k (h : AtK B G w p D) (n : Int) (hn : n < 2 ^ 63) (ka : Option Addr) (kl : List Int) (kc : Nat) (hk : LowI B w ka kl) (hkl : kl.length < 2 ^ 40) :
    Calls Tryz.prog 18 #[.pointer (some ⟨p, 0, none⟩), .int .i64 n, .slice ka kl.length kc] w fun e w' => e = .returned (.tuple #[]) ∧ AtK B G w' p (armD D n kl) ∧ Below B w w' ∧ KeptG G w w' :=
  have hB := h.le
  h.go fun y hp hi hf => by
    subst hp
    unfold armD
    by_cases h0 : 0 ≤ n
    · rw [if_pos h0]
      obtain ⟨m, rfl⟩ := Int.eq_ofNat_of_zero_le h0
      refine Arm_is y D w m (by omega) ka kl kc hi (fun j z hz => ?_) (fun b h0 hb e => ?_) hkl
      · obtain ⟨a, h1, h2, h3⟩ := hk j z hz
        exact ⟨a, h1, by omega, h3⟩
      · have := hk.off b h0 hb
        have := hf y.p (.inl rfl)
        omega
    · rw [if_neg h0]
      exact Arm_neg y D w n (by omega) _ hi
end
end Go.Proofs.YtbcdmcafobjpcaaGreatDoor
-- BookWLent
/- The book: lists of structs that are lent. -/
namespace Go.Proofs.YtbcdmcafobjpcaaGreatDoor.Bk
open Go.RowKit

set_option maxRecDepth 100000 in
set_option maxHeartbeats 1000000 in
theorem lentChanges_is (a : Option Addr) (l : List Chg) (c : Nat) (w : World) (h : LiesAt w a (flat Chg.cells l)) (hl : l.length ≤ 1000) :
    Calls Tryz.prog 7 #[.slice a l.length c] w fun e w' => ∃ g cap, e = .returned (.slice (some ⟨g, 0, none⟩) l.length cap) ∧ Below w.heap.size w w' ∧ w'.ownsRow w.heap.size 55 2 (.slice (some ⟨g, 0, none⟩) (l.length + 1) cap) (l.length + 1) (flat Chg.cells (l ++ [Chg.mark (-77)])) := by
  obtain ⟨i0, hi, hz0, hz1, hz2⟩ := info_parts chgInfo
  have HI := Lib.hid (And.intro hi (And.intro hz0 (And.intro hz1 hz2)))
  clear hi hz0 hz1 hz2
  have H := Lib.hid h
  clear h
  go_enter Tryz.func7, Tryz.ntmps7
  go_wp2_with (first
    | (go_at_call 24
       refine (copyChanges_is a l c _ H.out (by omega)).mono ?_
       rintro e w1 ⟨v, rfl, b1, o1⟩
       have H1 := Lib.hid (And.intro b1 o1)
       clear b1 o1)
    | (at_builtin
       go_loud (refine wpList_append_lies _ rfl (.tmp 4) (.tmp 6) 28 rfl w.heap.size 55 i0 _ 2 16 Tryz.underlying28 HI.out.1 HI.out.2.1 HI.out.2.2.1 HI.out.2.2.2 rfl (by omega) v l.length (flat Chg.cells l) rfl (H1.out.2.alloc _) _ 1 1 [.int .i64 (-77), .int .i64 0] rfl rfl ?ba7 ?ba8 ?ba9 ?bb1 ?bb2 ?bb3 _ rfl ?bb5)
       case ba7 => exact World.news_of_block (heap_alloc_last _ _)
       case ba8 => exact Chg.one (Chg.mark (-77))
       case ba9 => omega
       case bb1 => unfold maxLen; omega
       case bb2 => omega
       case bb3 => have := H1.out.1.size; simp; omega
       intro g cap w4 hown4 hgr4 hat4 hlt4
       have hcap := owns_cap hown4
       have HX := Lib.hid (And.intro hown4 (And.intro hgr4 hlt4))
       clear hown4 hgr4 hat4 hlt4
       have hci : (l.length : Int) ≤ (cap : Int) := by omega
       have hc0 : ¬ cap = 0 := by omega))
  all_goals
    go_ret
    exact ⟨g, cap, rfl, (H1.out.1.alloc (H1.out.1.size) _).grown HX.out.2.1 (by have := H1.out.1.size; simp; omega) (fun b hb => (H1.out.2.lt b hb).1), by rw [flat_app, flat_one]; exact HX.out.1⟩

set_option maxRecDepth 100000 in
set_option maxHeartbeats 1000000 in
theorem staysChanges_is (g cap base : Nat) (a2 : Option Addr) (l : List Chg) (c2 : Nat) (w : World) (h : w.ownsRow base 55 2 (.slice (some ⟨g, 0, none⟩) (l.length + 1) cap) (l.length + 1) (flat Chg.cells (l ++ [Chg.mark (-77)]))) (h2 : LiesAt w a2 (flat Chg.cells l)) (hl : l.length ≤ 1000) :
    Calls Tryz.prog 11 #[.slice (some ⟨g, 0, none⟩) l.length cap, .slice a2 l.length c2] w fun e w' => e = .returned (.bool true) ∧ ∃ m, w' = w.drewN m := by
  have hcap := owns_cap h
  have hci : (l.length : Int) + 1 ≤ (cap : Int) := by omega
  have hc0 : ¬ cap = 0 := by omega
  obtain ⟨a', c', hv, hla, _⟩ := own_formK h
  obtain ⟨rfl, rfl⟩ : some ⟨g, 0, none⟩ = a' ∧ cap = c' := by simpa using hv
  obtain ⟨gm, om, hbm, _, hm1⟩ := hla.elem Chg.len (by omega) (show (l ++ [Chg.mark (-77)])[l.length]? = some (Chg.mark (-77)) by simp)
  obtain ⟨rfl, rfl⟩ : g = gm ∧ 0 = om := by simpa using hbm
  have e1 := hm1 0 _ rfl
  rw [Nat.zero_add, Nat.add_zero] at e1
  have hL1 : LiesAt w (some ⟨g, 0, none⟩) (flat Chg.cells l) := fun j u hu => hla j u (by rw [flat_app, List.getElem?_append_left (List.getElem?_eq_some_iff.1 hu).1]; exact hu)
  have H := Lib.hid (And.intro hL1 h2)
  clear h h2 hL1 hla hm1 hbm hv
  go_enter Tryz.func11, Tryz.ntmps11
  go_wp2_with (go_at_call 14
               refine (SameChanges_is l l _ a2 _ c2 _ H.out.1 H.out.2 (by unfold maxLen; omega) (by unfold maxLen; omega) true ⟨fun _ => rfl, fun _ => rfl⟩).mono ?_
               rintro e w1 ⟨rfl, m, rfl⟩)
  all_goals
    go_ret
    exact ⟨rfl, _, rfl⟩
end Go.Proofs.YtbcdmcafobjpcaaGreatDoor.Bk
-- LoopPl
/- LoopPlays' state: the log, its disk whatever is armed, the list of all changes, the book; each call by that. -/
namespace Go.Proofs.YtbcdmcafobjpcaaGreatDoor
open Go.RowKit Sec
open Go.Proofs.YtbcdmcafobjpcaaGreatDoor.Bk

theorem LogAt.turn {B : Nat} {G : Nat → Prop} {w w' : World} {q p : Nat} {D : Dsk} {fr n hd nx ep : Int} (h : LogAt B G w q p D fr n hd nx ep) (b : Below B w w') (hb : ∀ k, k < w.heap.size → ¬ G k → w'.heap[k]? = w.heap[k]?) : LogAt B (fun k => G k ∨ (w.heap.size ≤ k ∧ k < w'.heap.size)) w' q p D fr n hd nx ep := by
  obtain ⟨⟨t, y, e, hi, hf, hg⟩, hc, hge, hng⟩ := h
  refine ⟨⟨t.below b, y, e, hi.of_blocks b.size (fun k f => hb k (hi.small k f) (fun g => (hg k (.inl g)).2 f)), hf, fun k r => ?_⟩, hc.of_block (hb q hc.lt hng), hge, fun r => ?_⟩
  · rcases r with (r | r) | r
    · exact ⟨Nat.lt_of_lt_of_le (hg k (.inl r)).1 b.size, (hg k (.inl r)).2⟩
    · exact ⟨r.2, fun f => by have := hi.small k f; omega⟩
    · exact ⟨Nat.lt_of_lt_of_le (hg k (.inr r)).1 b.size, (hg k (.inr r)).2⟩
  · rcases r with r | r
    · exact hng r
    · have := hc.lt; omega

/-- What is kept beside the log: all changes, the book, and the blocks X. -/
def Gs (u : World) (V : Value) (pb : Nat) (L M : List CL) (X : Nat → Prop) (b : Nat) : Prop := V.ownBlock = some b ∨ BG u pb L M b ∨ X b
/-- THE STATE IN MEMORY. -/
structure PlM (W u : World) (X : Nat → Prop) (q p n : Nat) (V : Value) (T : List Chg) (pb : Nat) (L M : List CL) (hd nx : Nat) (ep : Int) (D : Dsk) : Prop where
  b : Below W.heap.size W u
  o : u.ownsRow W.heap.size 55 2 V T.length (flat Chg.cells T)
  k : BookC W u W.heap.size pb L M
  g : LogAt W.heap.size (Gs u V pb L M X) u q p D 3 n hd nx ep
  x : ∀ b, X b → ¬ BG u pb L M b
/-- THE STATE. -/
structure Pl (W u : World) (X : Nat → Prop) (q p n : Nat) (V : Value) (T : List Chg) (pb : Nat) (L M : List CL) (hd nx : Nat) (ep : Int) (D : Dsk) (K : Nat) : Prop where
  m : PlM W u X q p n V T pb L M hd nx ep D
  i : LogIs D 3 n hd nx ep T
  s : Still D K
section
variable {W u u' : World} {X X' : Nat → Prop} {q p n : Nat} {V : Value} {T : List Chg} {pb : Nat} {L M : List CL} {hd nx : Nat} {ep : Int} {D D' : Dsk} {K : Nat}
theorem PlM.next (h : PlM W u X q p n V T pb L M hd nx ep D) (b : Below u.heap.size u u') : PlM W u' X q p n V T pb L M hd nx ep D := by
  have hp : u'.heap[pb]? = u.heap[pb]? := b.block pb h.k.book.lt
  refine ⟨h.b.trans (b.mono h.b.size), own_belowK h.o b, h.k.next b, (h.g.below b).mono (fun k r => ?_), fun k r s => h.x k r ((BG.same hp k).1 s)⟩
  rcases r with r | r | r
  · exact .inl r
  · exact .inr (.inl ((BG.same hp k).1 r))
  · exact .inr (.inr r)
/-- News that are to be kept. -/
theorem PlM.more (h : PlM W u X q p n V T pb L M hd nx ep D) (b : Below u.heap.size u u') (hX : ∀ k, X' k → X k ∨ (u.heap.size ≤ k ∧ k < u'.heap.size)) : PlM W u' X' q p n V T pb L M hd nx ep D := by
  have hp : u'.heap[pb]? = u.heap[pb]? := b.block pb h.k.book.lt
  refine ⟨h.b.trans (b.mono h.b.size), own_belowK h.o b, h.k.next b, (h.g.more b).mono (fun k r => ?_), fun k r s => ?_⟩
  · rcases r with r | r | r
    · exact .inl (.inl r)
    · exact .inl (.inr (.inl ((BG.same hp k).1 r)))
    · rcases hX k r with r | r
      · exact .inl (.inr (.inr r))
      · exact .inr r
  · have s' := (BG.same hp k).1 s
    rcases hX k r with r | r
    · exact h.x k r s'
    · have := (h.k.lt k s').2; omega
theorem PlM.mono (h : PlM W u X q p n V T pb L M hd nx ep D) (hX : ∀ k, X' k → X k) : PlM W u X' q p n V T pb L M hd nx ep D :=
  ⟨h.b, h.o, h.k, h.g.mono (fun k r => r.imp id (fun r => r.imp id (hX k))), fun k r => h.x k (hX k r)⟩
/-- Behind a call on the log, or its disk. -/
theorem PlM.log (h : PlM W u X q p n V T pb L M hd nx ep D) {q' hd' nx' : Nat} {ep' : Int} (b : Below W.heap.size u u') (kg : KeptG (Gs u V pb L M X) u u') (g : LogAt W.heap.size (Gs u V pb L M X) u' q' p D' 3 n hd' nx' ep') :
    PlM W u' X q' p n V T pb L M hd' nx' ep' D' ∧ KeptG X u u' := by
  have hp : u'.heap[pb]? = u.heap[pb]? := kg pb (.inr (.inl (.inl rfl)))
  refine ⟨⟨h.b.trans b, owns_keptG h.o (kg.mono (fun k r => .inl r)), h.k.keptG b (fun k r => kg k (.inr (.inl r))), g.mono (fun k r => ?_), fun k r s => h.x k r ((BG.same hp k).1 s)⟩, kg.mono (fun k r => .inr (.inr r))⟩
  rcases r with r | r | r
  · exact .inl r
  · exact .inr (.inl ((BG.same hp k).1 r))
  · exact .inr (.inr r)
/-- The list of all changes is another one. -/
theorem PlM.list (h : PlM W u X q p n V T pb L M hd nx ep D) {V' : Value} {T' : List Chg} (b : Below u.heap.size u u') (o : u'.ownsRow u.heap.size 55 2 V' T'.length (flat Chg.cells T')) : PlM W u' X q p n V' T' pb L M hd nx ep D := by
  have hs := h.b.size
  have hx := h.more (X' := fun k => X k ∨ (u.heap.size ≤ k ∧ k < u'.heap.size)) b (fun k r => r)
  refine ⟨hx.b, owns_base hs o, hx.k, hx.g.mono (fun k r => ?_), fun k r => hx.x k (.inl r)⟩
  rcases r with r | r | r
  · exact .inr (.inr (.inr (o.lt k r)))
  · exact .inr (.inl r)
  · exact .inr (.inr (.inl r))
theorem PlM.none (h : PlM W u X q p n V T pb L M hd nx ep D) : PlM W u X q p n (.slice none 0 0) [] pb L M hd nx ep D :=
  h.list (Below.refl _ _) (World.ownsRow_nil _ _ _ _)
theorem PlM.lt (h : PlM W u X q p n V T pb L M hd nx ep D) (k : Nat) (r : X k) : k < u.heap.size := h.g.d.lt k (.inl (.inr (.inr r)))
theorem PlM.form (h : PlM W u X q p n V T pb L M hd nx ep D) : ∃ a c, V = .slice a T.length c := by
  obtain ⟨a, c, hv, _⟩ := own_formK h.o
  exact ⟨a, c, hv⟩

/-- Bounds of the law's numbers. -/
structure PLim (n hd nx : Nat) (ep : Int) (K : Nat) : Prop where
  n1 : 1 ≤ n
  n30 : n ≤ 30
  h : hd ≤ 10000
  x : nx ≤ 10000
  e0 : 0 ≤ ep
  e1 : ep < 1000000000
  k : K ≤ 100000
theorem PLim.nums (l : PLim n hd nx ep K) (h1 : hd ≤ nx) (h2 : nx ≤ hd + n) : Nums 3 n hd nx ep := by
  obtain ⟨l1, l2, l3, l4, l5, l6, l7⟩ := l
  exact ⟨by omega, by omega, by omega, by omega, by omega, by omega, l5, l6, by omega⟩

def fineB (c : List Chg) : Bool := c.all fun x => numI x.c && numI x.v
theorem grOk_fine (c : List Chg) (h0 : nx + c.length < 4294967296) (e0 : 0 ≤ ep) (e1 : ep < 4294967296) : grOk nx ep c = fineB c := by
  rw [Bool.eq_iff_iff]
  constructor
  · intro h
    rw [fineB, List.all_eq_true]
    intro x hx
    obtain ⟨j, hj, rfl⟩ := List.getElem_of_mem hx
    rw [grOk, List.all_eq_true] at h
    have hm : gEnt nx ep j c[j] ∈ groupL (nx : Int) ep c := by
      rw [groupL]
      refine List.mem_append_left _ ?_
      rw [gHead]
      exact List.mem_of_getElem? (i := j) (by rw [List.getElem?_mapIdx, List.getElem?_eq_getElem hj]; rfl)
    obtain ⟨_, _, _, h4, h5⟩ := ent_of (h _ hm)
    rw [Bool.and_eq_true]
    exact ⟨decide_eq_true h4, decide_eq_true h5⟩
  · intro h
    rw [fineB, List.all_eq_true] at h
    refine grOk_of h0 e0 e1 (fun x hx => ?_)
    have := h x hx
    rwa [Bool.and_eq_true] at this

/-- WHAT APPEND DOES. -/
theorem pl_append (h : Pl W u X q p n V T pb L M hd nx ep D K) (l : PLim n hd nx ep K) (a : Option Addr) (c : List Chg) (cap : Nat) (hL : LiesAt u a (flat Chg.cells c)) (hl : c.length ≤ 1000) :
    Calls Tryz.prog 8 #[.pointer (some ⟨q, 0, none⟩), .slice a c.length cap] u fun e w' => ∃ x, e = .returned (.int .i64 x) ∧ KeptG X u w' ∧
      ((x = 1 ∧ fineB c = false ∧ Pl W w' X q p n V T pb L M hd nx ep D K) ∨
       (x = 5 ∧ fineB c = true ∧ hd + n < nx + c.length + 1 ∧ Pl W w' X q p n V T pb L M hd nx ep D K) ∨
       (fineB c = true ∧ nx + c.length + 1 ≤ hd + n ∧ ∃ D', ((x = 0 ∧ D'.on = true ∧ PlM W w' X q p n V T pb L M hd (nx + c.length + 1) ep D' ∧ LogIs D' 3 n hd (nx + c.length + 1) ep (T ++ c) ∧ Still D' (K + c.length + 2)) ∨
         (x = 3 ∧ D'.on = false ∧ PlM W w' X q p n V T pb L M hd nx ep D' ∧ grOk nx ep c = true ∧ Fell D.now D' ((groupL nx ep c).map (putAt 3 n)) (K + c.length + 2))))) := by
  have hord := h.i.ord
  have hcap := h.i.cap
  have N := l.nums hord hcap
  obtain ⟨l1, l2, l3, l4, l5, l6, l7⟩ := l
  have hw : D.waits.length = 0 := by rw [h.s.waits]; rfl
  have hdd := h.s.deeds
  have hgf : grOk nx ep c = fineB c := grOk_fine c (by omega) l5 (by omega)
  have go : ∀ D' x, appR (3 : Nat) n hd nx ep D c = (D', x) → _ := fun D' x hx => append_is h.m.g N a c cap hL hl (by omega) (by omega) D' x hx
  cases hok : fineB c
  · have e1 : appR (3 : Nat) n hd nx ep D c = (D, 1) := appR_not c (by rw [hgf]; exact hok)
    refine (go D 1 e1).mono fun e w' ⟨he, hA, hb, hk⟩ => ?_
    obtain ⟨h1, h2⟩ := h.m.log hb hk hA
    exact ⟨1, he, h2, .inl ⟨rfl, rfl, h1, h.i, h.s⟩⟩
  · by_cases hroom : nx + c.length + 1 ≤ hd + n
    · obtain ⟨D', x, e1, e2⟩ := h.i.append2 h.s c (by omega) (by rw [hgf]; exact hok) hroom
      refine (go D' x e1).mono fun e w' ⟨he, hA, hb, hk⟩ => ?_
      rcases e2 with ⟨rfl, k1, k2⟩ | ⟨rfl, k⟩
      · have e3 : appN (nx : Int) 0 c = ((nx + c.length + 1 : Nat) : Int) := by simp [appN]; omega
        rw [e3] at hA
        obtain ⟨h1, h2⟩ := h.m.log hb hk hA
        exact ⟨0, he, h2, .inr (.inr ⟨rfl, hroom, D', .inl ⟨rfl, k2.on, h1, k1, k2⟩⟩)⟩
      · have e3 : appN (nx : Int) 3 c = (nx : Int) := rfl
        rw [e3] at hA
        obtain ⟨h1, h2⟩ := h.m.log hb hk hA
        exact ⟨3, he, h2, .inr (.inr ⟨rfl, hroom, D', .inr ⟨rfl, k.off, h1, by rw [hgf]; exact hok, k⟩⟩)⟩
    · have e1 : appR (3 : Nat) n hd nx ep D c = (D, 5) := by rw [appR, if_neg (by rw [hgf, hok]; decide), if_pos (by omega)]
      refine (go D 5 e1).mono fun e w' ⟨he, hA, hb, hk⟩ => ?_
      obtain ⟨h1, h2⟩ := h.m.log hb hk hA
      exact ⟨5, he, h2, .inr (.inl ⟨rfl, rfl, by omega, h1, h.i, h.s⟩)⟩
theorem pl_on (h : PlM W u X q p n V T pb L M hd nx ep D) : Calls Tryz.prog 10 #[.pointer (some ⟨p, 0, none⟩)] u fun e w' => e = .returned (.bool D.on) ∧ w' = u := On_k h.g.d
theorem pl_power (h : PlM W u X q p n V T pb L M hd nx ep D) : Calls Tryz.prog 12 #[.pointer (some ⟨p, 0, none⟩)] u fun e w' => ∃ v, e = .returned (.bool v) ∧ PlM W w' X q p n V T pb L M hd nx ep { D with on := true } ∧ KeptG X u w' :=
  (Power_k h.g.d).mono fun e w' ⟨he, hA, hb, hk⟩ => ⟨_, he, h.log hb (hk.mono (fun k r => .inl r)) (h.g.disk hA hk)⟩
/-- What Scan tells. -/
theorem pl_scan (h : PlM W u X q p n V T pb L M hd nx ep D) (hon : D.on = true) (l : PLim n hd nx ep K) (hl : 3 + n ≤ D.lasts.length) (R : List Chg) (m : Nat) (hm : m ≤ 10000) {P : Int} (hP : ((hd + m : Nat) : Int) = P) (hR : changesL (scanE D 3 n ep n (hd : Int)) = (R, m)) :
    Calls Tryz.prog 13 #[.pointer (some ⟨p, 0, none⟩), .int .i64 3, .int .i64 n, .int .i64 (hd : Int), .int .i64 ep] u fun e w' => ∃ a c, e = .returned (.tuple #[.slice a R.length c, .int .i64 P, .int .i64 0]) ∧ Below u.heap.size u w' ∧ w'.ownsRow u.heap.size 55 2 (.slice a R.length c) R.length (flat Chg.cells R) := by
  obtain ⟨l1, l2, l3, l4, l5, l6, l7⟩ := l
  refine (scan_is h.g.d hon 3 n hd ep (decide_eq_true ⟨by omega, by omega, by omega, by omega, by omega, by omega, l5, by omega, l6⟩) n rfl (by omega) R m hR).mono fun e w' ⟨v, he, hb, ho⟩ => ?_
  obtain ⟨a, c, rfl, _⟩ := own_formK ho
  refine ⟨a, c, ?_, hb, ho⟩
  rw [he, show wrap64 ((hd : Int) + (m : Int)) = P by unfold wrap64; omega]
/-- A log anew, on the same disk. -/
theorem pl_new (h : PlM W u X q p n V T pb L M hd nx ep D) {hd' nx' : Nat} {ep' P : Int} (hP : (nx' : Int) = P) (l : PLim n hd' nx' ep' K) (h1 : hd' ≤ nx') (h2 : nx' ≤ hd' + n) (hl : 3 + n ≤ D.lasts.length) :
    Calls Tryz.prog 6 #[.pointer (some ⟨p, 0, none⟩), .int .i64 3, .int .i64 n, .int .i64 (hd' : Int), .int .i64 P, .int .i64 ep'] u fun e w' => ∃ q', e = .returned (.pointer (some ⟨q', 0, none⟩)) ∧ PlM W w' X q' p n V T pb L M hd' nx' ep' D ∧ KeptG X u w' := by
  subst hP
  obtain ⟨l1, l2, l3, l4, l5, l6, l7⟩ := l
  refine (lnew_yes (h.g.d.mono (G' := Gs u V pb L M X) (fun k r => .inl r)) 3 n hd' nx' ep' (decide_eq_true ⟨by omega, by omega, by omega, by omega, by omega, by omega, l5, by omega, l6⟩)).mono fun e w' ⟨q', he, hA, hb⟩ => ⟨q', he, ?_⟩
  exact h.log (hb.mono h.b.size) (fun k r => hb.block k (h.g.d.lt k (.inl r))) hA
theorem pl_cut (h : PlM W u X q p n V T pb L M hd nx ep D) (k : Int) (h1 : ep < k) (h2 : k < 1000000000) :
    Calls Tryz.prog 15 #[.pointer (some ⟨q, 0, none⟩), .int .i64 k] u fun e w' => e = .returned (.int .i64 0) ∧ PlM W w' X q p n V T pb L M nx nx k D ∧ KeptG X u w' :=
  (Cut_yes h.g k h1 h2).mono fun e w' ⟨he, hA, hb, hk⟩ => ⟨he, h.log hb hk hA⟩
theorem pl_cut_no (h : PlM W u X q p n V T pb L M hd nx ep D) (k : Int) (hk : k ≤ ep ∨ 1000000000 ≤ k) :
    Calls Tryz.prog 15 #[.pointer (some ⟨q, 0, none⟩), .int .i64 k] u fun e w' => e = .returned (.int .i64 1) ∧ w' = u := Cut_no h.g.c k hk
theorem pl_crash (h : Pl W u X q p n V T pb L M hd nx ep D K) (ka : Option Addr) (kl : List Int) (kc : Nat) (hk : LowI W.heap.size u ka kl) (hkl : kl.length ≤ 60) :
    Calls Tryz.prog 16 #[.pointer (some ⟨p, 0, none⟩), .slice ka kl.length kc] u fun e w' => ∃ v, e = .returned (.int .i64 v) ∧ PlM W w' X q p n V T pb L M hd nx ep (D.crash kl) ∧ KeptG X u w' :=
  (Crash_k h.m.g.d h.s.on ka kl kc hk (by omega)).mono fun e w' ⟨he, hA, hb, hk⟩ => ⟨_, he, h.m.log hb (hk.mono (fun k r => .inl r)) (h.m.g.disk hA hk)⟩
theorem crash_still (s : Still D K) (kl : List Int) : ({ D.crash kl with on := true } : Dsk).now = D.now ∧ Still { D.crash kl with on := true } K := by
  have e : D.crashL kl D.waits.length = D.now := by rw [s.waits]; exact s.same
  exact ⟨e, rfl, rfl, rfl, s.deeds⟩
theorem pl_arm (h : Pl W u X q p n V T pb L M hd nx ep D K) (z : Int) (hz : z < 2 ^ 63) (ka : Option Addr) (kl : List Int) (kc : Nat) (hk : LowI W.heap.size u ka kl) (hkl : kl.length ≤ 60) :
    Calls Tryz.prog 18 #[.pointer (some ⟨p, 0, none⟩), .int .i64 z, .slice ka kl.length kc] u fun e w' => e = .returned (.tuple #[]) ∧ Pl W w' X q p n V T pb L M hd nx ep (armD D z kl) K ∧ KeptG X u w' :=
  (Arm_k h.m.g.d z hz ka kl kc hk (by omega)).mono fun e w' ⟨he, hA, hb, hk⟩ => by
    have e1 : (armD D z kl).on = D.on ∧ (armD D z kl).now = D.now ∧ (armD D z kl).lasts = D.lasts ∧ (armD D z kl).waits = D.waits ∧ (armD D z kl).deeds = D.deeds := by
      unfold armD
      split <;> exact ⟨rfl, rfl, rfl, rfl, rfl⟩
    obtain ⟨h1, h2⟩ := h.m.log hb (hk.mono (fun k r => .inl r)) (h.m.g.disk hA hk)
    exact ⟨he, ⟨h1, h.i.of (e1.1.trans h.s.on) e1.2.1, ⟨e1.1.trans h.s.on, e1.2.2.2.1.trans h.s.waits, by rw [e1.2.2.1, e1.2.1]; exact h.s.same, by rw [e1.2.2.2.2]; exact h.s.deeds⟩⟩, h2⟩
/-- A list that was answered is kept. -/
theorem pl_keep {u0 : World} (h : PlM W u X q p n V T pb L M hd nx ep D) (hb0 : Below u0.heap.size u0 u) (h0 : PlM W u0 X q p n V T pb L M hd nx ep D) (a : Option Addr) (R : List Chg) (c : Nat) (ho : u.ownsRow u0.heap.size 55 2 (.slice a R.length c) R.length (flat Chg.cells R)) (hR : R.length ≤ 1000) (hL : L.length ≤ 100) :
    Calls Tryz.prog 17 #[.pointer (some ⟨pb, 0, none⟩), .slice a R.length c] u fun e w' => e = .returned (.tuple #[]) ∧ KeptG X u w' ∧ LiesAt w' a (flat Chg.cells R) ∧ ∃ y, PlM W w' X q p n V T pb (L ++ [⟨a, R, c⟩]) (M ++ [y]) hd nx ep D := by
  have hs0 := h0.b.size
  have hp : u.heap[pb]? = u0.heap[pb]? := hb0.block pb h0.k.book.lt
  have hnew : ∀ b, (CL.cell ⟨a, R, c⟩).ownBlock = some b → u0.heap.size ≤ b ∧ b < u.heap.size := fun b hb => ho.lt b hb
  have hold : ∀ b, BG u pb L M b → b < u0.heap.size := fun b hb => (h0.k.lt b ((BG.same hp b).1 hb)).2
  refine (keepChanges_isB W.heap.size pb L M ⟨a, R, c⟩ u h.k.book h.k.hp h.k.kChanges (owns_base hs0 ho) (fun y hy g hg e => ?_) hR hL).mono fun e w' ⟨he, hb, ht, hblk, y, hk, hBG⟩ => ?_
  · have := hold g (.inr (.inr (.inl ⟨y, hy, hg⟩)))
    have := hnew g e
    omega
  have hXk : KeptG X u w' := fun b hb' => hblk b (h.lt b hb') (h.x b hb')
  have hk' : BookC W w' W.heap.size pb (L ++ [⟨a, R, c⟩]) (M ++ [y]) := h.k.addChanges hb ht hk
  have ho' := hk.each ⟨a, R, c⟩ (by simp)
  refine ⟨he, hXk, row_liesK ho', y, ⟨h.b.trans hb, owns_typed h.o h.k.book ht (by decide) (by decide), hk', ?_, fun b hb' hq => ?_⟩⟩
  · have g1 : LogAt W.heap.size (fun b => Gs u0 V pb L M X b ∨ (u0.heap.size ≤ b ∧ b < u.heap.size)) u q p D 3 n hd nx ep := h0.g.more hb0 |> fun g => by
      obtain ⟨g1, g2, g3, g4⟩ := h.g
      obtain ⟨k1, k2, k3, k4⟩ := g
      exact ⟨k1, k2, k3, k4⟩
    have g2 := g1.turn hb (fun b hlt hng => hblk b hlt (fun hq => hng (.inl (.inr (.inl ((BG.same hp b).1 hq))))))
    refine g2.mono (fun b hb' => ?_)
    rcases hb' with r | r | r
    · exact .inl (.inl (.inl r))
    · rcases hBG b r with s | s | s
      · exact .inl (.inl (.inr (.inl ((BG.same hp b).1 s))))
      · exact .inl (.inr (hnew b s))
      · exact .inr ⟨s, (hk'.lt b r).2⟩
    · exact .inl (.inl (.inr (.inr r)))
  · have hlt0 := h0.lt b hb'
    rcases hBG b hq with s | s | s
    · exact h.x b hb' s
    · have := hnew b s; omega
    · have := h.lt b hb'; omega
theorem pl_same {a1 a2 : Option Addr} {c1 c2 : Nat} {R S : List Chg} (h1 : LiesAt u a1 (flat Chg.cells R)) (h2 : LiesAt u a2 (flat Chg.cells S)) (m1 : R.length ≤ 1000) (m2 : S.length ≤ 1000) (t : Bool) (ht : t = true ↔ R = S) :
    Calls Tryz.prog 14 #[.slice a1 R.length c1, .slice a2 S.length c2] u fun e w' => e = .returned (.bool t) ∧ Below u.heap.size u w' :=
  (SameChanges_is R S a1 a2 c1 c2 u h1 h2 (by unfold maxLen; omega) (by unfold maxLen; omega) t ht).mono fun e w' ⟨he, m, hm⟩ => ⟨he, by rw [hm]; exact ⟨rfl, rfl, rfl, Nat.le_refl _, fun _ _ => rfl⟩⟩
theorem pl_stays (g cap base : Nat) (a2 : Option Addr) (l : List Chg) (c2 : Nat) (h : u.ownsRow base 55 2 (.slice (some ⟨g, 0, none⟩) (l.length + 1) cap) (l.length + 1) (flat Chg.cells (l ++ [Chg.mark (-77)]))) (h2 : LiesAt u a2 (flat Chg.cells l)) (hl : l.length ≤ 1000) :
    Calls Tryz.prog 11 #[.slice (some ⟨g, 0, none⟩) l.length cap, .slice a2 l.length c2] u fun e w' => e = .returned (.bool true) ∧ Below u.heap.size u w' :=
  (staysChanges_is g cap base a2 l c2 u h h2 hl).mono fun e w' ⟨he, m, hm⟩ => ⟨he, by rw [hm]; exact ⟨rfl, rfl, rfl, Nat.le_refl _, fun _ _ => rfl⟩⟩
theorem pl_head {P : Int} (h : PlM W u X q p n V T pb L M hd nx ep D) (hP : (hd : Int) = P) : Calls Tryz.prog 19 #[.pointer (some ⟨q, 0, none⟩)] u fun e w' => e = .returned (.int .i64 P) ∧ w' = u := by
  subst hP
  exact Head_is h.g.c
theorem pl_next {P : Int} (h : PlM W u X q p n V T pb L M hd nx ep D) (hP : (nx : Int) = P) : Calls Tryz.prog 20 #[.pointer (some ⟨q, 0, none⟩)] u fun e w' => e = .returned (.int .i64 P) ∧ w' = u := by
  subst hP
  exact Next_is h.g.c
theorem pl_room {P Q : Int} (h : PlM W u X q p n V T pb L M hd nx ep D) (l : PLim n hd nx ep K) (h1 : hd ≤ nx) (h2 : nx ≤ hd + n) (hP : (nx : Int) = P) (hQ : (hd : Int) = Q) : Calls Tryz.prog 21 #[.pointer (some ⟨q, 0, none⟩)] u fun e w' => e = .returned (.int .i64 ((n : Int) - (P - Q))) ∧ Below u.heap.size u w' := by
  subst hP hQ
  exact Room_is h.g.c (l.nums h1 h2)
theorem PlM.nil (h : PlM W u X q p n V T pb L M hd nx ep D) : PlM W u (fun _ => False) q p n V T pb L M hd nx ep D := h.mono (fun _ r => r.elim)
/-- The beginning. -/
theorem pl_start {w2 : World} (h2 : AtK W.heap.size (fun _ => False) w2 p (newD (n + 6))) (b2 : Below W.heap.size W w2) (n1 : 1 ≤ n) (n30 : n ≤ 30) (hh : hd ≤ 1000) :
    Calls Tryz.prog 6 #[.pointer (some ⟨p, 0, none⟩), .int .i64 3, .int .i64 n, .int .i64 (hd : Int), .int .i64 (hd : Int), .int .i64 1] w2 fun e w' => ∃ q, e = .returned (.pointer (some ⟨q, 0, none⟩)) ∧ Below W.heap.size W w' ∧
      Pl W (w'.alloc (.cells #[.slice none 0 0, .slice none 0 0, .slice none 0 0, .slice none 0 0, .slice none 0 0, .slice none 0 0, .slice none 0 0, .slice none 0 0, .slice none 0 0, .slice none 0 0, .slice none 0 0, .slice none 0 0] 37)) (fun _ => False) q p n (.slice none 0 0) [] w'.heap.size [] [] hd hd 1 (newD (n + 6)) 0 := by
  have hlen : (newD (n + 6)).lasts.length = n + 6 := by simp [newD]
  refine (lnew_yes h2 3 n hd hd 1 (by rw [hlen]; exact decide_eq_true ⟨by omega, by omega, by omega, by omega, by omega, by omega, by omega, by omega, by omega⟩)).mono fun e w' ⟨q, he, hA, hb⟩ => ?_
  have b3 : Below W.heap.size W w' := b2.trans (hb.mono b2.size)
  have ha : Below w'.heap.size w' (w'.alloc (.cells #[.slice none 0 0, .slice none 0 0, .slice none 0 0, .slice none 0 0, .slice none 0 0, .slice none 0 0, .slice none 0 0, .slice none 0 0, .slice none 0 0, .slice none 0 0, .slice none 0 0, .slice none 0 0] 37)) := (Below.refl _ _).alloc (Nat.le_refl _) _
  have hk := bookC_start W w' b3
  refine ⟨q, he, b3, ⟨b3.trans (ha.mono b3.size), World.ownsRow_nil _ _ _ _, hk, (hA.more ha).mono (fun k r => ?_), fun _ r => r.elim⟩, ?_, ⟨rfl, rfl, rfl, Nat.le_refl _⟩⟩
  · rcases r with r | r | r
    · simp [Value.ownBlock] at r
    · rcases r with r | ⟨v, r1, r2⟩ | ⟨x, hx, _⟩ | ⟨x, hx, _⟩
      · subst r
        exact .inr ⟨Nat.le_refl _, hk.book.lt⟩
      · exfalso
        have e4 : (w'.alloc (.cells #[.slice none 0 0, .slice none 0 0, .slice none 0 0, .slice none 0 0, .slice none 0 0, .slice none 0 0, .slice none 0 0, .slice none 0 0, .slice none 0 0, .slice none 0 0, .slice none 0 0, .slice none 0 0] 37)).cell? ⟨w'.heap.size, 4, none⟩ = some (.slice none 0 0) := by rw [World.cell?_alloc_new]; rfl
        have e5 : (w'.alloc (.cells #[.slice none 0 0, .slice none 0 0, .slice none 0 0, .slice none 0 0, .slice none 0 0, .slice none 0 0, .slice none 0 0, .slice none 0 0, .slice none 0 0, .slice none 0 0, .slice none 0 0, .slice none 0 0] 37)).cell? ⟨w'.heap.size, 5, none⟩ = some (.slice none 0 0) := by rw [World.cell?_alloc_new]; rfl
        rw [e4, e5] at r1
        rcases r1 with r1 | r1
        all_goals
          obtain rfl := Option.some.inj r1
          simp [Value.ownBlock] at r2
      · simp at hx
      · simp at hx
    · exact r.elim
  · refine logIs_new _ _ _ _ _ rfl n1 (by show 3 + n ≤ (newD (n + 6)).now.length; simp only [newD, List.length_replicate]; omega) (fun b hb' => ?_)
    have : b = zero32 := by
      have := hb'
      simp only [newD, List.mem_replicate] at this
      exact this.2
    rw [this]
    exact zero_no
end
end Go.Proofs.YtbcdmcafobjpcaaGreatDoor
-- LoopFine
/- LoopPlays' helper fine; append(append(nil, x...), y...) in a region that draws its order. -/
namespace Go.Proofs.YtbcdmcafobjpcaaGreatDoor
open Go.RowKit Sec
open Go.Proofs.YtbcdmcafobjpcaaGreatDoor.Bk

set_option maxHeartbeats 1000000 in
theorem fine_is (a : Option Addr) (l : List Chg) (c : Nat) (w : World) (h : LiesAt w a (flat Chg.cells l)) (hl : l.length ≤ 1000) :
    Calls Tryz.prog 9 #[.slice a l.length c] w fun e w' => e = .returned (.bool (fineB l)) ∧ w' = w := by
  have H := Lib.hid h
  clear h
  have HF0 : Hid (fineB l = (l.all fun x => numI x.c && numI x.v)) := Lib.hid rfl
  generalize hfb : fineB l = fb at *
  clear hfb
  go_enter Tryz.func9, Tryz.ntmps9
  go_wp2
  go_loopw [3] (fun i wr => ∃ k : Nat, k ≤ l.length ∧ i = .int .i64 (k : Int) ∧ wr = w ∧ Hid ((l.take k).all (fun x => numI x.c && numI x.v) = true)) (fun i _ => l.length - (intOf i).toNat)
  case atStart => exact ⟨0, Nat.zero_le _, rfl, rfl, Lib.hid (by simp)⟩
  case round =>
    obtain ⟨k, hk, rfl, rfl, HA⟩ := hrel
    by_cases hlt : k < l.length
    · obtain ⟨g1, o1, rfl, hg1, e1⟩ := H.out.elem Chg.len (by omega) (List.getElem?_eq_getElem hlt)
      have e1_0 := e1 0 _ rfl
      have e1_1 := e1 1 _ rfl
      rw [Nat.add_zero] at e1_0
      clear e1
      have hall : ∀ b : Bool, (numI l[k].c && numI l[k].v) = b → (l.take (k + 1)).all (fun x => numI x.c && numI x.v) = b ∧ (b = false → (l.all fun x => numI x.c && numI x.v) = false) := fun b hb => by
        refine ⟨?_, fun hf => ?_⟩
        · rw [List.take_succ_eq_append_getElem hlt, List.all_append, HA.out]
          simp [hb]
        · rw [List.all_eq_false]
          exact ⟨l[k], List.getElem_mem hlt, by rw [hb, hf]; decide⟩
      have HN := Lib.hid hall
      generalize l[k] = x at *
      obtain ⟨xc, xv⟩ := x
      simp only at e1_0 e1_1
      have hi1 : (k : Int) < (l.length : Int) := by omega
      have NC : Hid (∀ v u, Calls Tryz.prog 28 #[.int .i64 v] u fun e w' => e = .returned (.bool (numI v)) ∧ w' = u) := Lib.hid (fun v u => Number_is v u)
      clear hall
      simp only at HN
      generalize hc1 : numI xc = p1 at *
      generalize hc2 : numI xv = p2 at *
      have N1 := Lib.hid (fun u => hc1 ▸ NC.out xc u)
      have N2 := Lib.hid (fun u => hc2 ▸ NC.out xv u)
      clear hc1 hc2 NC
      cases p1
      · obtain rfl : fb = false := by rw [HF0.out]; exact (HN.out false rfl).2 rfl
        go_wp2_with (go_at_call 28; (first | (with_reducible refine (N1.out _).mono ?_) | (with_reducible refine (N2.out _).mono ?_)); rintro e' w2 ⟨rfl, rfl⟩)
        all_goals
          go_ret
          exact ⟨rfl, rfl⟩
      · cases p2
        · obtain rfl : fb = false := by rw [HF0.out]; exact (HN.out false rfl).2 rfl
          go_wp2_with (go_at_call 28; (first | (with_reducible refine (N1.out _).mono ?_) | (with_reducible refine (N2.out _).mono ?_)); rintro e' w2 ⟨rfl, rfl⟩)
          all_goals
            go_ret
            exact ⟨rfl, rfl⟩
        · go_wp2_with (go_at_call 28; (first | (with_reducible refine (N1.out _).mono ?_) | (with_reducible refine (N2.out _).mono ?_)); rintro e' w2 ⟨rfl, rfl⟩)
          exact ⟨⟨k + 1, by omega, by go_num, by trivial, Lib.hid (HN.out true rfl).1⟩, by simp [intOf]; omega⟩
    · obtain rfl : k = l.length := by omega
      have hn : ¬ (l.length : Int) < (l.length : Int) := by omega
      obtain rfl : fb = true := by
        rw [HF0.out]
        have := HA.out
        rwa [List.take_length] at this
      go_wp2
      go_ret
      exact ⟨rfl, rfl⟩

/-- append of a row to an owned one, at a step of a region whose guard says yes. -/
theorem step_append_rowW {P : Program} {ops : Array Oper} {o : Oper} {ac : Act} {w : World} {K : Act → World → Prop} {Q : Exit → Act → World → Prop} {E : Prop} (hw : Region.wanted o (yielded ops ac.tmps) = true) (s x : Operand) (t : TypeId)
    (ho : o.op = .call { callee := .builtin .append, args := #[s, x], argTypes := #[t, t] })
    (base : Nat) (e : TypeId) (i : TypeInfo) (z : Value) (size bytes : Nat) (ht : P.underlying t = some (.slice e)) (hi : P.info? e = some i) (hz : i.zero = some z)
    (hsize : i.size = size) (hby : i.bytes = bytes) (hzs : z.cells.size = size) (hsz : 0 < size)
    (v : Value) (n : Nat) (xs : List Value) (hs : ac.eval s = v) (hown : w.ownsRow base e size v n xs)
    (a : Option Addr) (m c : Nat) (news : List Value) (hx : ac.eval x = .slice a m c) (hl : news.length = m * size) (hnews : LiesAt w a news) (h1 : ∀ u ∈ news, u.oneCell' = true)
    (h63 : n + m ≤ maxLen) (hbytes : (n + m) * bytes ≤ 140737488355328) (hbase : base ≤ w.heap.size)
    (h : ∀ v' w', w'.ownsRow base e size v' (n + m) (xs ++ news) → w.grownBy w' v.ownBlock → K (ac.put o.dst v') w') :
    if Region.wanted o (yielded ops ac.tmps) = true then Oper.wp P o ac w K Q else E := by
  rw [if_pos hw]
  rcases Nat.eq_zero_or_pos m with h0 | h0
  · subst h0
    have hnn : news = [] := List.eq_nil_of_length_eq_zero (by simpa using hl)
    subst hnn
    have hr : (Builtin.append_ #[t, t] o.type #[v, .slice a 0 c]).run P w = .ok v w := by
      rcases hown.2 with ⟨q, _⟩ | ⟨g, cap, cur, q, _, _, hc, _⟩
      · rw [q]; exact run_append_nil_zero w t o.type e i ht hi a c
      · rw [q]; exact Bk.run_append_zero w t o.type e i ht hi _ n cap hc a c
    unfold Oper.wp execOp
    simp only [ho, resolve, invoke, builtin, Sem.run_bind, Sem.run_pure, Result.andThen_ok, List.map_toArray, List.map_cons, List.map_nil, hx, hs, hr]
    exact h _ _ (by simpa using hown) (grown_refl _ _)
  · have h0c : 0 < news.length := by rw [hl]; exact Nat.mul_pos h0 hsz
    obtain ⟨b, rfl, _, _⟩ := hnews 0 _ (List.getElem?_eq_getElem h0c)
    exact wp_append_lies w s x t ho base e i z size bytes ht hi hz hsize hby hzs hsz v n xs hs hown b m c news hx hl (fun j u hu => by
      obtain ⟨b', hb, _, hc⟩ := hnews j u hu
      obtain rfl : b = b' := by simpa using hb
      exact hc) h1 h0 h63 hbytes hbase _ rfl fun g cap w' ho' hg' _ _ => h _ w' ho' hg'
/-- A list and another behind it, in a row of its own. -/
theorem pl_two {W1 w5 w6 : World} {v5 v6 : Value} {T l : List Chg} (b5 : Below W1.heap.size W1 w5) (o5 : w5.ownsRow W1.heap.size 55 2 v5 T.length (flat Chg.cells T))
    (o6 : w6.ownsRow W1.heap.size 55 2 v6 (T.length + l.length) (flat Chg.cells T ++ flat Chg.cells l)) (g6 : w5.grownBy w6 v5.ownBlock) : Below W1.heap.size W1 w6 ∧ w6.ownsRow W1.heap.size 55 2 v6 (T ++ l).length (flat Chg.cells (T ++ l)) :=
  ⟨b5.grown g6 b5.size (fun k hk => (o5.lt k hk).1), by rw [List.length_append, flat_app]; exact o6⟩
end Go.Proofs.YtbcdmcafobjpcaaGreatDoor
-- EntryOpen
/- Entries and changes as arguments: opened. -/
namespace Go.Proofs.YtbcdmcafobjpcaaGreatDoor
open Go.ChangeShapes Go.WideShapes Go.ChangeAt Go.RowKit Go.Deep
open Go.Proofs.YtbcdmcafobjpcaaGreatDoor.Bk

section
variable {H : Type} {enc : TypeId × Value → H} {P : Program} {W : World} {base : Nat} {spare : Nat → Bool} {held : Bool}
/-- The cells of a struct of k numbers. -/
theorem trod_nums {e ti : TypeId} {fs : Array Field} {k n : Nat} {cs : List Value} {y : DataW H × List MemPlace} (he : P.underlying e = some (.struct fs)) (hti : P.underlying ti = some (.int .i64)) (ci : P.cellsOf ti = 1)
    (hf : fs.toList.map (fun f => (f.offset, f.type)) = (List.range k).map (fun j => (j, ti))) (hcl : cs.length = k) (h : DataW.trod enc P W base spare held n e cs = some y) : ∃ zs : List Int, zs.length = k ∧ cs = zs.map (Value.int .i64) ∧ ∀ z ∈ zs, (Lit.int .i64 z).wf = true := by
  obtain ⟨xs, n', _, _, _, hxl, hg⟩ := DataW.trod_struct he h
  have hfl : fs.size = k := by
    have := congrArg List.length hf
    simpa using this
  have one : ∀ j, ∃ z : Int, j < k → cs[j]? = some (.int .i64 z) ∧ (Lit.int .i64 z).wf = true := fun j => by
    by_cases hj : j < k
    · have hfj : (fs.toList.map (fun f => (f.offset, f.type)))[j]? = some (j, ti) := by
        rw [hf]; simp [hj]
      rw [List.getElem?_map] at hfj
      obtain ⟨f, f1, f2⟩ := Option.map_eq_some_iff.1 hfj
      simp only [Prod.mk.injEq] at f2
      have g := hg j f (by simpa using f1)
      rw [f2.1, f2.2, ci, List.getElem?_eq_getElem (show j < xs.length by omega)] at g
      obtain ⟨z, e, _, wz⟩ := DataW.trod_int hti g
      have e1 : (cs.drop j).take 1 = [cs[j]'(by omega)] := by
        rw [List.drop_eq_getElem_cons (by omega)]; rfl
      have e3 : [cs[j]'(by omega)] = [Value.int .i64 z] := e1.symm.trans e
      refine ⟨z, fun _ => ⟨?_, wz⟩⟩
      rw [List.getElem?_eq_getElem (by omega)]
      simpa using e3
    · exact ⟨0, fun q => absurd q hj⟩
  obtain ⟨f, hf'⟩ := Classical.axiomOfChoice one
  refine ⟨(List.range k).map f, by simp, List.ext_getElem? fun i => ?_, fun z hz => ?_⟩
  · rcases Nat.lt_or_ge i k with q | q
    · rw [(hf' i q).1]; simp [q]
    · rw [List.getElem?_eq_none (by omega), List.getElem?_eq_none (by simpa using q)]
  · obtain ⟨j, hj, rfl⟩ := List.mem_map.1 hz
    exact (hf' j (by simpa using hj)).2
/-- A slice of such structs. -/
theorem open_rowsAt {t e ti : TypeId} {fs : Array Field} {k : Nat} {a0 : Option Addr} {len cap : Nat} {d : DataW H} {p : List MemPlace} (ht : P.underlying t = some (.slice e)) (he : P.underlying e = some (.struct fs)) (hC : P.cellsOf e = k)
    (hti : P.underlying ti = some (.int .i64)) (ci : P.cellsOf ti = 1) (hf : fs.toList.map (fun f => (f.offset, f.type)) = (List.range k).map (fun j => (j, ti))) (h0 : 0 < k)
    (h : DataW.Trod enc P W base spare held t (.slice a0 len cap) d p) : ∃ l : List (List Int), l.length = len ∧ (∀ z ∈ l, z.length = k) ∧ LiesAt W a0 (l.flatMap (fun z => z.map (Value.int .i64))) ∧ len ≤ maxLen ∧ (len ≤ cap) := by
  obtain ⟨fuel, hx⟩ := h
  rcases open_slice ht hx with ⟨hcs, _⟩ | ⟨a, len', cap', m, n, D, Pl, hcs, hlc, hl, hm, hmm, _, hi⟩
  · simp [Value.cells] at hcs
    obtain ⟨rfl, rfl, rfl⟩ := hcs
    exact ⟨[], rfl, fun i ho => by simp at ho, fun j u hu => by simp at hu, Nat.zero_le _, Nat.le_refl _⟩
  · simp [Value.cells] at hcs
    obtain ⟨rfl, rfl, rfl⟩ := hcs
    have hge : len ≤ m := by split at hmm <;> omega
    have one : ∀ i, ∃ z : List Int, z.length = k ∧ (i < len → ∀ j, j < k → W.cell? ((a.add (i * k)).add j) = (z.map (Value.int .i64))[j]?) := fun i => by
      by_cases hil : i < len
      · obtain ⟨cs', hc, ht'⟩ := hi i (by omega)
        rw [hC] at hc
        obtain ⟨_, hcl, hat⟩ := World.cells?_some hc
        obtain ⟨zs, hz, rfl, _⟩ := trod_nums he hti ci hf hcl ht'
        exact ⟨zs, hz, fun _ j hj => hat j hj⟩
      · exact ⟨List.replicate k 0, by simp, fun q => absurd q hil⟩
    obtain ⟨f, hf'⟩ := Classical.axiomOfChoice one
    have hlen : ∀ l : List Nat, (l.flatMap (fun i => (f i).map (Value.int .i64))).length = l.length * k := fun l => by
      induction l with
      | nil => simp
      | cons i r ih => rw [List.flatMap_cons, List.length_append, ih, List.length_map, (hf' i).1, List.length_cons, Nat.add_mul]; omega
    refine ⟨(List.range len).map f, by simp, fun z hz => ?_, fun j u hu => ?_, by omega, by omega⟩
    · obtain ⟨i, _, rfl⟩ := List.mem_map.1 hz
      exact (hf' i).1
    · rw [List.flatMap_map] at hu
      have hj : j < len * k := by
        have := (List.getElem?_eq_some_iff.1 hu).1
        rw [hlen] at this
        simpa using this
      have hq : j / k < len := Nat.div_lt_of_lt_mul (by rw [Nat.mul_comm]; exact hj)
      have hr : j % k < k := Nat.mod_lt _ h0
      have hg : (flat (fun i => (f i).map (Value.int .i64)) (List.range len))[j / k * k + j % k]? = ((f (j / k)).map (Value.int .i64))[j % k]? := flat_get (fun i => by rw [List.length_map, (hf' i).1]) (by simp [hq]) _ hr
      rw [Nat.div_add_mod'] at hg
      have hc := (hf' (j / k)).2 hq (j % k) hr
      rw [← hg, Addr.add_add, Nat.div_add_mod'] at hc
      have hu' : (flat (fun i => (f i).map (Value.int .i64)) (List.range len))[j]? = some u := hu
      rw [hu'] at hc
      refine ⟨a, rfl, ?_, hc⟩
      have := World.block_lt_of_cell? W _ hc
      rwa [add_block] at this
end
theorem int_cells : Tryz.prog.cellsOf 3 = 1 := by kernel_rfl
theorem ent_fields : ∃ fs : Array Field, Tryz.prog.underlying 101 = some (.struct fs) ∧ fs.toList.map (fun f => (f.offset, f.type)) = (List.range 5).map (fun j => (j, 3)) := ⟨_, Tryz.underlying101, rfl⟩
theorem ent_cells : Tryz.prog.cellsOf 101 = 5 := by kernel_rfl
theorem chg_fields : ∃ fs : Array Field, Tryz.prog.underlying 55 = some (.struct fs) ∧ fs.toList.map (fun f => (f.offset, f.type)) = (List.range 2).map (fun j => (j, 3)) := ⟨_, Tryz.underlying55, rfl⟩
theorem chg_cells : Tryz.prog.cellsOf 55 = 2 := by kernel_rfl
theorem ent_of_nums (zs : List Int) (h : zs.length = 5) : ∃ s : Ent, zs.map (Value.int .i64) = s.cells := by
  match zs, h with
  | [a, b, c, d, e], _ => exact ⟨⟨a, b, c, d, e⟩, rfl⟩
theorem chg_of_nums (zs : List Int) (h : zs.length = 2) : ∃ s : Chg, zs.map (Value.int .i64) = s.cells := by
  match zs, h with
  | [a, b], _ => exact ⟨⟨a, b⟩, rfl⟩
theorem rows_to {α : Type} {c : α → List Value} {k : Nat} (h : ∀ zs : List Int, zs.length = k → ∃ s : α, zs.map (Value.int .i64) = c s) : ∀ l : List (List Int), (∀ z ∈ l, z.length = k) → ∃ m : List α, m.length = l.length ∧ l.flatMap (fun z => z.map (Value.int .i64)) = flat c m
  | [], _ => ⟨[], rfl, rfl⟩
  | z :: r, hz => by
    obtain ⟨s, hs⟩ := h z (hz z (by simp))
    obtain ⟨m, hm, hf⟩ := rows_to h r (fun y hy => hz y (by simp [hy]))
    exact ⟨s :: m, by simp [hm], by rw [List.flatMap_cons, hs, hf, flat_cons]⟩
set_option maxRecDepth 100000 in
theorem open_ent {H : Type} {enc : TypeId × Value → H} {W : World} {base b0 : Nat} {spare : Nat → Bool} {held : Bool} {r : Reach} {v : Value} {d : DataW H} {p : List MemPlace}
    (hv : Value.okWide Tryz.prog W r b0 101 v) (h : DataW.Trod enc Tryz.prog W base spare held 101 v d p) : ∃ s : Ent, v = s.val := by
  obtain ⟨fs, hs, hf⟩ := ent_fields
  obtain ⟨cs, rfl, hsz⟩ := okWide_struct hs hv
  rw [ent_cells] at hsz
  obtain ⟨fuel, hx⟩ := h
  have e2 : (Value.agg cs).cells.toList = cs.toList := by simp [Value.cells]
  rw [e2] at hx
  obtain ⟨zs, hz, hcs, _⟩ := trod_nums hs Tryz.underlying3 int_cells hf (by simpa using hsz) hx
  obtain ⟨s, hs'⟩ := ent_of_nums zs hz
  have hc : cs = s.cells.toArray := by apply Array.ext'; rw [hcs, hs']
  exact ⟨s, by rw [hc]; rfl⟩
theorem open_entsAt {H : Type} {enc : TypeId × Value → H} {W : World} {base : Nat} {spare : Nat → Bool} {held : Bool} {a0 : Option Addr} {len cap : Nat} {d : DataW H} {p : List MemPlace}
    (h : DataW.Trod enc Tryz.prog W base spare held 69 (.slice a0 len cap) d p) : ∃ l : List Ent, l.length = len ∧ LiesAt W a0 (flat Ent.cells l) ∧ len ≤ maxLen ∧ len ≤ cap := by
  obtain ⟨fs, hs, hf⟩ := ent_fields
  obtain ⟨l, h1, h2, h3, h4, h5⟩ := open_rowsAt Tryz.underlying69 hs ent_cells Tryz.underlying3 int_cells hf (by omega) h
  obtain ⟨m, hm, hfl⟩ := rows_to ent_of_nums l h2
  exact ⟨m, by omega, by rw [← hfl]; exact h3, h4, h5⟩
theorem open_chgsAt {H : Type} {enc : TypeId × Value → H} {W : World} {base : Nat} {spare : Nat → Bool} {held : Bool} {a0 : Option Addr} {len cap : Nat} {d : DataW H} {p : List MemPlace}
    (h : DataW.Trod enc Tryz.prog W base spare held 28 (.slice a0 len cap) d p) : ∃ l : List Chg, l.length = len ∧ LiesAt W a0 (flat Chg.cells l) ∧ len ≤ maxLen ∧ len ≤ cap := by
  obtain ⟨fs, hs, hf⟩ := chg_fields
  obtain ⟨l, h1, h2, h3, h4, h5⟩ := open_rowsAt Tryz.underlying28 hs chg_cells Tryz.underlying3 int_cells hf (by omega) h
  obtain ⟨m, hm, hfl⟩ := rows_to chg_of_nums l h2
  exact ⟨m, by omega, by rw [← hfl]; exact h3, h4, h5⟩
end Go.Proofs.YtbcdmcafobjpcaaGreatDoor
-- EntryOpenL
/- A slice of slices of changes as an argument: opened. -/
namespace Go.Proofs.YtbcdmcafobjpcaaGreatDoor
open Go.ChangeShapes Go.WideShapes Go.ChangeAt Go.RowKit Go.Deep
open Go.Proofs.YtbcdmcafobjpcaaGreatDoor.Bk

/-- A slice of slices of changes. -/
structure ArgL where
  a : Option Addr
  l : List Chg
  c : Nat
def ArgIs (W : World) (a0 : Option Addr) (L : List ArgL) : Prop := ∀ (i : Nat) (x : ArgL), L[i]? = some x → (∃ b : Addr, a0 = some b ∧ b.block < W.heap.size ∧ W.cell? (b.add i) = some (.slice x.a x.l.length x.c)) ∧ LiesAt W x.a (flat Chg.cells x.l)
theorem chgls_cells : Tryz.prog.cellsOf 28 = 1 := by kernel_rfl
set_option maxRecDepth 100000 in
theorem open_chglsAt {H : Type} {enc : TypeId × Value → H} {W : World} {base : Nat} {spare : Nat → Bool} {held : Bool} {a0 : Option Addr} {len cap : Nat} {d : DataW H} {p : List MemPlace}
    (h : DataW.Trod enc Tryz.prog W base spare held 32 (.slice a0 len cap) d p) : ∃ L : List ArgL, L.length = len ∧ ArgIs W a0 L := by
  obtain ⟨fuel, hx⟩ := h
  rcases open_slice1 Tryz.underlying32 chgls_cells hx with ⟨hcs, _⟩ | ⟨a, len', cap', m, n, V, D, Pl, hcs, _, hl, hm, hmm, _, hi⟩
  · simp [Value.cells] at hcs
    obtain ⟨rfl, rfl, rfl⟩ := hcs
    exact ⟨[], rfl, fun i x hx => by simp at hx⟩
  · simp [Value.cells] at hcs
    obtain ⟨rfl, rfl, rfl⟩ := hcs
    have hge : len ≤ m := by split at hmm <;> omega
    have one : ∀ i, ∃ x : ArgL, i < len → W.cell? (a.add i) = some (.slice x.a x.l.length x.c) ∧ LiesAt W x.a (flat Chg.cells x.l) := fun i => by
      by_cases hil : i < len
      · obtain ⟨hc, ht⟩ := hi i (by omega)
        have h4 : ∃ a4 len4 cap4, V i = .slice a4 len4 cap4 := by
          rcases open_slice Tryz.underlying28 ht with ⟨q, _⟩ | ⟨b, l4, c4, _, _, _, _, q, _⟩
          · exact ⟨none, 0, 0, by simpa using q⟩
          · exact ⟨some b, l4, c4, by simpa using q⟩
        obtain ⟨a4, len4, cap4, hV⟩ := h4
        rw [hV] at hc ht
        obtain ⟨l4, rfl, hl4, _, _⟩ := open_chgsAt ⟨n, ht⟩
        exact ⟨⟨a4, l4, cap4⟩, fun _ => ⟨hc, hl4⟩⟩
      · exact ⟨⟨none, [], 0⟩, fun q => absurd q hil⟩
    obtain ⟨f, hf⟩ := Classical.axiomOfChoice one
    refine ⟨(List.range len).map f, by simp, fun i x hx => ?_⟩
    rw [List.getElem?_map] at hx
    obtain ⟨y, h1, rfl⟩ := Option.map_eq_some_iff.1 hx
    have hil : i < len := by have := (List.getElem?_eq_some_iff.1 h1).1; simpa using this
    rw [List.getElem?_range hil] at h1
    obtain rfl : i = y := by simpa using h1
    obtain ⟨h2, h3⟩ := hf i hil
    refine ⟨⟨a, rfl, ?_, h2⟩, h3⟩
    have := World.block_lt_of_cell? W _ h2
    rwa [add_block] at this
end Go.Proofs.YtbcdmcafobjpcaaGreatDoor
-- BookOpen
/- Arguments that are slices of texts or numbers, as what lies in memory (free of sector). -/
namespace Go.Proofs.YtbcdmcafobjpcaaGreatDoor.Bk
open Go.ChangeShapes Go.WideShapes Go.ChangeAt Go.RowKit

section
variable {H : Type} {enc : TypeId × Value → H} {P : Program} {W : World} {base : Nat} {spare : Nat → Bool} {held : Bool}
theorem cell_block_lt {a : Addr} {v : Value} (h : W.cell? a = some v) : a.block < W.heap.size := World.block_lt_of_cell? W a h
theorem lies_txts {a : Option Addr} {l : List ByteArray} (h : ∀ (j : Nat) (s : ByteArray), l[j]? = some s → ∃ b : Addr, a = some b ∧ b.block < W.heap.size ∧ W.cell? (b.add j) = some (.string s)) : LiesAt W a (txts l) := fun j u hu => by
  rw [txts, List.getElem?_map, Option.map_eq_some_iff] at hu
  obtain ⟨x, hx, rfl⟩ := hu
  exact h j x hx
theorem lies_vals {a : Option Addr} {l : List Int} (h : ∀ (j : Nat) (s : Int), l[j]? = some s → ∃ b : Addr, a = some b ∧ b.block < W.heap.size ∧ W.cell? (b.add j) = some (.int .i64 s)) : LiesAt W a (vals l) := fun j u hu => by
  rw [vals, List.getElem?_map, Option.map_eq_some_iff] at hu
  obtain ⟨x, hx, rfl⟩ := hu
  exact h j x hx
/-- An argument that is a slice of texts. -/
theorem open_strsAt {t e : TypeId} {a0 : Option Addr} {len cap : Nat} {d : DataW H} {p : List MemPlace} (ht : P.underlying t = some (.slice e)) (he : P.underlying e = some .string) (hc : P.cellsOf e = 1)
    (h : DataW.Trod enc P W base spare held t (.slice a0 len cap) d p) : ∃ l : List ByteArray, l.length = len ∧ LiesAt W a0 (txts l) ∧ (∀ s ∈ l, s.size ≤ maxLen) ∧ len ≤ maxLen := by
  obtain ⟨fuel, hf⟩ := h
  rcases open_strings ht he hc hf with ⟨hcs, _⟩ | ⟨a, len', cap', ss, hcs, _, hl, hm, hz, _, hcell, hws⟩
  · simp [Value.cells] at hcs
    obtain ⟨rfl, rfl, rfl⟩ := hcs
    exact ⟨[], rfl, lies_txts (fun j s hs => by simp at hs), fun s hs => by simp at hs, Nat.zero_le _⟩
  · simp [Value.cells] at hcs
    obtain ⟨rfl, rfl, rfl⟩ := hcs
    have hge : len ≤ ss.length := by split at hz <;> omega
    refine ⟨ss.take len, by simp; omega, lies_txts (fun j s hs => ?_), fun s hs => hws s (List.mem_of_mem_take hs), by omega⟩
    have hj : j < len := by have := (List.getElem?_eq_some_iff.1 hs).1; simp at this; omega
    have hs' : ss[j]? = some s := by rw [List.getElem?_take_of_lt hj] at hs; exact hs
    have := hcell j (by omega)
    rw [List.getD, hs'] at this
    exact ⟨a, rfl, by have := cell_block_lt this; rwa [add_block] at this, this⟩
/-- An argument that is a slice of numbers. -/
theorem open_intsAt {t e : TypeId} {a0 : Option Addr} {len cap : Nat} {d : DataW H} {p : List MemPlace} (ht : P.underlying t = some (.slice e)) (he : P.underlying e = some (.int .i64)) (hc : P.cellsOf e = 1)
    (h : DataW.Trod enc P W base spare held t (.slice a0 len cap) d p) : ∃ l : List Int, l.length = len ∧ LiesAt W a0 (vals l) ∧ (∀ x ∈ l, (Lit.int .i64 x).wf = true) ∧ len ≤ maxLen := by
  obtain ⟨fuel, hf⟩ := h
  rcases open_ints ht he hc hf with ⟨hcs, _⟩ | ⟨a, len', cap', zs, hcs, _, hl, hm, hz, _, hcell, hws⟩
  · simp [Value.cells] at hcs
    obtain ⟨rfl, rfl, rfl⟩ := hcs
    exact ⟨[], rfl, lies_vals (fun j s hs => by simp at hs), fun s hs => by simp at hs, Nat.zero_le _⟩
  · simp [Value.cells] at hcs
    obtain ⟨rfl, rfl, rfl⟩ := hcs
    have hge : len ≤ zs.length := by split at hz <;> omega
    refine ⟨zs.take len, by simp; omega, lies_vals (fun j s hs => ?_), fun s hs => hws s (List.mem_of_mem_take hs), by omega⟩
    have hj : j < len := by have := (List.getElem?_eq_some_iff.1 hs).1; simp at this; omega
    have hs' : zs[j]? = some s := by rw [List.getElem?_take_of_lt hj] at hs; exact hs
    have := hcell j (by omega)
    rw [List.getD, hs'] at this
    exact ⟨a, rfl, by have := cell_block_lt this; rwa [add_block] at this, this⟩
end

theorem cellsInt : Tryz.prog.cellsOf 3 = 1 := by kernel_rfl
theorem cellsStr : Tryz.prog.cellsOf 9 = 1 := by kernel_rfl
end Go.Proofs.YtbcdmcafobjpcaaGreatDoor.Bk
-- LoopOpen
/- LoopPlays' ops: the argument opened. -/
namespace Go.Proofs.YtbcdmcafobjpcaaGreatDoor
open Go.ChangeShapes Go.WideShapes Go.ChangeAt Go.RowKit Go.Deep
open Go.Proofs.YtbcdmcafobjpcaaGreatDoor.Bk

/-- An op: what is done. -/
structure LOp where
  kind : Int
  n : Int
  e : Int
  la : Option Addr
  l : List Chg
  lc : Nat
  ka : Option Addr
  kl : List Int
  kc : Nat
def LOp.cells (o : LOp) : List Value := [.int .i64 o.kind, .int .i64 o.n, .int .i64 o.e, .slice o.la o.l.length o.lc, .slice o.ka o.kl.length o.kc]
theorem op_fields : ∃ fs, Tryz.prog.underlying 40 = some (.struct fs) ∧ fs.toList.map (fun f => (f.offset, f.type)) = [(0, 3), (1, 3), (2, 3), (3, 28), (4, 38)] := ⟨_, Tryz.underlying40, by kernel_rfl⟩
theorem op_cells : Tryz.prog.cellsOf 40 = 5 := by kernel_rfl
theorem sl_int_cells : Tryz.prog.cellsOf 38 = 1 := by kernel_rfl
/-- One op as it lies. -/
structure LOpIs (w : World) (g f i : Nat) (o : LOp) : Prop where
  cell : ∀ j v, o.cells[j]? = some v → w.cell? ⟨g, f + i * 5 + j, none⟩ = some v
  lies : LiesAt w o.la (flat Chg.cells o.l)
  keep : LiesAt w o.ka (vals o.kl)
  n63 : o.n < 2 ^ 63
  e63 : o.e < 2 ^ 63
  lmax : o.l.length ≤ maxLen
  kmax : o.kl.length ≤ maxLen
def LOpsAt (w : World) (a0 : Option Addr) (L : List LOp) : Prop := ∀ i o, L[i]? = some o → ∃ g f, a0 = some ⟨g, f, none⟩ ∧ g < w.heap.size ∧ LOpIs w g f i o
theorem addr_spot {w : World} {a : Addr} {v : Value} (h : w.cell? a = some v) : a.spot = none := by
  unfold World.cell? at h
  split at h
  · cases hs : a.spot with
    | none => rfl
    | some x => rw [hs] at h; simp at h
  · cases h
set_option maxRecDepth 100000 in
theorem open_lops {H : Type} {enc : TypeId × Value → H} {W : World} {base : Nat} {spare : Nat → Bool} {held : Bool} {a0 : Option Addr} {len cap : Nat} {d : DataW H} {p : List MemPlace}
    (h : DataW.Trod enc Tryz.prog W base spare held 22 (.slice a0 len cap) d p) : ∃ L : List LOp, L.length = len ∧ LOpsAt W a0 L := by
  obtain ⟨fs, he, hf⟩ := op_fields
  obtain ⟨fuel, hx⟩ := h
  have fld : ∀ (j : Nat) (x : Nat × TypeId), ([(0, 3), (1, 3), (2, 3), (3, 28), (4, 38)] : List (Nat × TypeId))[j]? = some x → ∃ f : Field, fs[j]? = some f ∧ f.offset = x.1 ∧ f.type = x.2 := fun j x hx => by
    rw [← hf, List.getElem?_map] at hx
    obtain ⟨f, h1, h2⟩ := Option.map_eq_some_iff.1 hx
    exact ⟨f, by simpa using h1, by rw [← h2], by rw [← h2]⟩
  rcases open_slice Tryz.underlying22 hx with ⟨hcs, _⟩ | ⟨a, len', cap', m, n, D, Pl, hcs, _, hl, hm, hmm, _, hi⟩
  · simp [Value.cells] at hcs
    obtain ⟨rfl, rfl, rfl⟩ := hcs
    exact ⟨[], rfl, fun i o ho => by simp at ho⟩
  · simp [Value.cells] at hcs
    obtain ⟨rfl, rfl, rfl⟩ := hcs
    have hge : len ≤ m := by split at hmm <;> omega
    have one : ∀ i, ∃ o : LOp, i < len → (∀ j v, o.cells[j]? = some v → W.cell? ((a.add (i * 5)).add j) = some v) ∧ LiesAt W o.la (flat Chg.cells o.l) ∧ LiesAt W o.ka (vals o.kl) ∧ o.n < 2 ^ 63 ∧ o.e < 2 ^ 63 ∧ o.l.length ≤ maxLen ∧ o.kl.length ≤ maxLen := fun i => by
      by_cases hil : i < len
      · obtain ⟨cs', hc, ht'⟩ := hi i (by omega)
        rw [op_cells] at hc
        obtain ⟨_, hcl, hat⟩ := World.cells?_some hc
        obtain ⟨xs, n', _, _, _, hxl, hfd⟩ := DataW.trod_struct he ht'
        have get : ∀ (j : Nat) (x : Nat × TypeId), ([(0, 3), (1, 3), (2, 3), (3, 28), (4, 38)] : List (Nat × TypeId))[j]? = some x → ∀ (h1 : Tryz.prog.cellsOf x.2 = 1) (hj : j < 5) (hxj : x.1 = j), ∃ (v : Value) (y : DataW H × List MemPlace), cs'[j]? = some v ∧ DataW.trod enc Tryz.prog W base spare held n' x.2 [v] = some y := fun j x hx h1 hj hxj => by
          obtain ⟨f, f1, f2, f3⟩ := fld j x hx
          have g := hfd j f f1
          rw [f2, f3, h1, hxj] at g
          have hv : cs'[j]? = some (cs'[j]'(by omega)) := List.getElem?_eq_getElem (by omega)
          have e1 : (cs'.drop j).take 1 = [cs'[j]'(by omega)] := by
            rw [List.drop_eq_getElem_cons (by omega)]; rfl
          rw [e1] at g
          have hjx : j < xs.length := by
            have := (Array.getElem?_eq_some_iff.1 f1).1
            omega
          rw [List.getElem?_eq_getElem hjx] at g
          exact ⟨_, _, hv, g⟩
        obtain ⟨v0, y0, g0, r0⟩ := get 0 _ rfl cellsInt (by omega) rfl
        obtain ⟨v1, y1, g1, r1⟩ := get 1 _ rfl cellsInt (by omega) rfl
        obtain ⟨v2, y2, g2, r2⟩ := get 2 _ rfl cellsInt (by omega) rfl
        obtain ⟨v3, y3, g3, r3⟩ := get 3 _ rfl chgls_cells (by omega) rfl
        obtain ⟨v4, y4, g4, r4⟩ := get 4 _ rfl sl_int_cells (by omega) rfl
        obtain ⟨z0, e0, _, _⟩ := DataW.trod_int Tryz.underlying3 r0
        obtain ⟨z1, e1, _, w1⟩ := DataW.trod_int Tryz.underlying3 r1
        obtain ⟨z2, e2, _, w2⟩ := DataW.trod_int Tryz.underlying3 r2
        have h3 : ∃ a4 len4 cap4, v3 = .slice a4 len4 cap4 := by
          rcases open_slice Tryz.underlying28 r3 with ⟨q, _⟩ | ⟨b, l4, c4, _, _, _, _, q, _⟩
          · exact ⟨none, 0, 0, by simpa using q⟩
          · exact ⟨some b, l4, c4, by simpa using q⟩
        have h4 : ∃ a4 len4 cap4, v4 = .slice a4 len4 cap4 := by
          rcases open_slice Tryz.underlying38 r4 with ⟨q, _⟩ | ⟨b, l4, c4, _, _, _, _, q, _⟩
          · exact ⟨none, 0, 0, by simpa using q⟩
          · exact ⟨some b, l4, c4, by simpa using q⟩
        obtain ⟨a3, len3, cap3, rfl⟩ := h3
        obtain ⟨a4, len4, cap4, rfl⟩ := h4
        obtain ⟨l3, rfl, hl3, hm3, _⟩ := open_chgsAt ⟨n', r3⟩
        obtain ⟨kl, rfl, hk, _, hm4⟩ := open_intsAt Tryz.underlying38 Tryz.underlying3 cellsInt ⟨n', r4⟩
        obtain rfl : v0 = _ := by simpa using e0
        obtain rfl : v1 = _ := by simpa using e1
        obtain rfl : v2 = _ := by simpa using e2
        refine ⟨⟨z0, z1, z2, a3, l3, cap3, a4, kl, cap4⟩, fun _ => ⟨fun j v hv => ?_, hl3, hk, ?_, ?_, hm3, hm4⟩⟩
        · have hj : j < 5 := by have := (List.getElem?_eq_some_iff.1 hv).1; simpa [LOp.cells] using this
          rw [hat j hj]
          have : j = 0 ∨ j = 1 ∨ j = 2 ∨ j = 3 ∨ j = 4 := by omega
          rcases this with rfl | rfl | rfl | rfl | rfl
          · rw [g0]; exact hv
          · rw [g1]; exact hv
          · rw [g2]; exact hv
          · rw [g3]; exact hv
          · rw [g4]; exact hv
        · have := w1
          simp [Lit.wf] at this
          show z1 < 2 ^ 63
          omega
        · have := w2
          simp [Lit.wf] at this
          show z2 < 2 ^ 63
          omega
      · exact ⟨⟨0, 0, 0, none, [], 0, none, [], 0⟩, fun q => absurd q hil⟩
    obtain ⟨f, hf'⟩ := Classical.axiomOfChoice one
    refine ⟨(List.range len).map f, by simp, fun i o ho => ?_⟩
    rw [List.getElem?_map] at ho
    obtain ⟨x, h1, rfl⟩ := Option.map_eq_some_iff.1 ho
    have hxl : i < len := by have := (List.getElem?_eq_some_iff.1 h1).1; simpa using this
    rw [List.getElem?_range hxl] at h1
    obtain rfl : i = x := by simpa using h1
    obtain ⟨k1, k2, k3, k4, k5, k6, k7⟩ := hf' i hxl
    obtain ⟨z1, _⟩ := hf' 0 (by omega)
    have z0 : W.cell? a = some (.int .i64 (f 0).kind) := by simpa [Addr.add] using z1 0 _ rfl
    obtain ⟨g, o, s⟩ := a
    obtain rfl : s = none := addr_spot z0
    refine ⟨g, o, rfl, World.block_lt_of_cell? W _ z0, ⟨fun j v hv => ?_, k2, k3, k4, k5, k6, k7⟩⟩
    have := k1 j v hv
    rwa [Addr.add_mid, Addr.add_mid] at this
end Go.Proofs.YtbcdmcafobjpcaaGreatDoor
-- LoopNil
/- Package loop's calls on a nil log. -/
namespace Go.Proofs.YtbcdmcafobjpcaaGreatDoor
open Go.RowKit Sec

theorem cut_nil (v : Value) (w : World) : Calls Tryz.prog 15 #[.pointer none, v] w fun e w' => e = .returned (.int .i64 1) ∧ w' = w := by
  go_enter Tryz.func15, Tryz.ntmps15
  go_wp2_with (go_at_call 25; refine (none_yes _).mono ?_; rintro e' w1 ⟨rfl, rfl⟩)
  go_ret
  exact ⟨rfl, rfl⟩
theorem nil_Room (w : World) : Calls Tryz.prog 21 #[.pointer none] w fun e w' => e = .returned (.int .i64 0) ∧ w' = w := by
  go_enter Tryz.func21, Tryz.ntmps21
  go_wp2_with (go_at_call 25; refine (none_yes _).mono ?_; rintro e' w1 ⟨rfl, rfl⟩)
  go_ret
  exact ⟨rfl, rfl⟩
theorem nil_Head (w : World) : Calls Tryz.prog 19 #[.pointer none] w fun e w' => e = .returned (.int .i64 0) ∧ w' = w := by
  go_enter Tryz.func19, Tryz.ntmps19
  go_wp2_with (go_at_call 25; refine (none_yes _).mono ?_; rintro e' w1 ⟨rfl, rfl⟩)
  go_ret
  exact ⟨rfl, rfl⟩
theorem nil_Next (w : World) : Calls Tryz.prog 20 #[.pointer none] w fun e w' => e = .returned (.int .i64 0) ∧ w' = w := by
  go_enter Tryz.func20, Tryz.ntmps20
  go_wp2_with (go_at_call 25; refine (none_yes _).mono ?_; rintro e' w1 ⟨rfl, rfl⟩)
  go_ret
  exact ⟨rfl, rfl⟩
end Go.Proofs.YtbcdmcafobjpcaaGreatDoor
