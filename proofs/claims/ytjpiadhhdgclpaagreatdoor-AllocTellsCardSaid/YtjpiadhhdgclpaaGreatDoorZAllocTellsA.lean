/- AllocTells: what its walk keeps: the geometry's box, the store, the document's heap, the book, side by side. -/
import Derived.Test.YtjpiadhhdgclpaaGreatDoorZAllocB
import Derived.Test.YtjpiadhhdgclpaaGreatDoorZBookBI
import Derived.Test.YtjpiadhhdgclpaaGreatDoorZRaw
set_option linter.unusedVariables false
set_option linter.unusedSimpArgs false
namespace Go.Proofs.YtjpiadhhdgclpaaGreatDoor
open Go.RowKit Sec
open Go.Proofs.YtjpiadhhdgclpaaGreatDoor.Bk

theorem Bk.BookI.stay {w0 w w' : World} {base p : Nat} {L M : List IL} (h : BookI w0 w base p L M) (hs : w.heap.size ≤ w'.heap.size) (k : ∀ i, BGI w p L M i → w'.heap[i]? = w.heap[i]?) : BookI w' w' base p L M ∧ ∀ i, BGI w' p L M i ↔ BGI w p L M i := by
  have hp := k p (.inl rfl)
  have t : Turn w w' p (fun _ => False) (fun i => ¬ BGI w p L M i) := ⟨hs, fun g _ _ hr => k g (Classical.not_not.1 hr), fun j _ => World.cell?_of_block (a := ⟨p, j, none⟩) hp, book_of_block hp⟩
  exact ⟨⟨Below.refl _ _, h.hp, book_of_block hp h.book, h.kInts.blocks h.book (fun i q => k i q) hs, h.nils.turn t (fun _ q => q.elim)⟩, fun i => BGI.same hp i⟩
/-- THE STATE: the store's cells V, the document's U; the book's lists LI (their copies MI); the blocks X are kept beside all. -/
structure AtS (W : World) (h l : Int) (B B' C s H L : Nat) (V U : List Int) (p g cc kp : Nat) (LI MI : List IL) (X : Nat → Prop) (u : World) : Prop where
  gb : GBox u W.heap.size h l
  b : Below W.heap.size W u
  s : ∃ G, St B G u s H L V ∧ ∀ i, (i = W.heap.size ∨ i = p ∨ i = g ∨ BGI u kp LI MI i ∨ X i) → G i
  d : HIs B' u p H L U g cc
  bk : BookI u u C kp LI MI
  lt : W.heap.size < B ∧ B ≤ B' ∧ p < C ∧ g < C ∧ B ≤ C
  x : ∀ i, X i → C ≤ i ∧ i < u.heap.size
section
variable {W : World} {h l : Int} {B B' C s H L : Nat} {V V' U U' : List Int} {p g cc kp : Nat} {LI MI : List IL} {X : Nat → Prop} {u u' : World}
theorem AtS.below (a : AtS W h l B B' C s H L V U p g cc kp LI MI X u) (y : Below u.heap.size u u') : AtS W h l B B' C s H L V U p g cc kp LI MI X u' := by
  obtain ⟨G, s1, s2⟩ := a.s
  obtain ⟨k1, k2⟩ := a.bk.stay y.size (fun i q => y.block i (a.bk.lt i q).2)
  exact ⟨a.gb.below y, geo_next a.b y, ⟨G, s1.below y, fun i q => s2 i (by rw [k2 i] at q; exact q)⟩, a.d.below y, k1, a.lt, fun i q => ⟨(a.x i q).1, Nat.lt_of_lt_of_le (a.x i q).2 y.size⟩⟩
/-- What a call made is kept from then on. -/
theorem AtS.more (a : AtS W h l B B' C s H L V U p g cc kp LI MI X u) (y : Below u.heap.size u u') : AtS W h l B B' C s H L V U p g cc kp LI MI (fun i => X i ∨ (u.heap.size ≤ i ∧ i < u'.heap.size)) u' := by
  obtain ⟨G, s1, s2⟩ := a.s
  obtain ⟨k1, k2⟩ := a.bk.stay y.size (fun i q => y.block i (a.bk.lt i q).2)
  have hC : C ≤ u.heap.size := Nat.le_trans a.bk.hp (Nat.le_of_lt a.bk.book.lt)
  refine ⟨a.gb.below y, geo_next a.b y, ⟨_, s1.more y, fun i q => ?_⟩, a.d.below y, k1, a.lt, fun i q => ?_⟩
  · rw [k2 i] at q
    rcases q with q | q | q | q | q | q
    · exact .inl (s2 i (.inl q))
    · exact .inl (s2 i (.inr (.inl q)))
    · exact .inl (s2 i (.inr (.inr (.inl q))))
    · exact .inl (s2 i (.inr (.inr (.inr (.inl q)))))
    · exact .inl (s2 i (.inr (.inr (.inr (.inr q)))))
    · exact .inr q
  · rcases q with q | q
    · exact ⟨(a.x i q).1, Nat.lt_of_lt_of_le (a.x i q).2 y.size⟩
    · exact ⟨Nat.le_trans hC q.1, q.2⟩
/-- Behind a call that turns the store. -/
theorem AtS.call (a : AtS W h l B B' C s H L V U p g cc kp LI MI X u) {f : FuncId} {args : Array Value} {r : Ending} (y : ∀ G, St B G u s H L V → Calls Tryz.prog f args u fun e w' => e = r ∧ St B G w' s H L V' ∧ Below B u w' ∧ KeptG G u w') :
    Calls Tryz.prog f args u fun e w' => e = r ∧ AtS W h l B B' C s H L V' U p g cc kp LI MI X w' := by
  obtain ⟨G, s1, s2⟩ := a.s
  refine (y G s1).mono fun e w' ⟨y0, y1, y2, y3⟩ => ⟨y0, ?_⟩
  obtain ⟨k1, k2⟩ := a.bk.stay y2.size (fun i q => y3 i (s2 i (.inr (.inr (.inr (.inl q))))))
  have c := s2 _ (.inl rfl)
  exact ⟨⟨Nat.lt_of_lt_of_le a.gb.lt y2.size, (y3.cell ⟨_, 0, none⟩ c).trans a.gb.c0, (y3.cell ⟨_, 1, none⟩ c).trans a.gb.c1⟩, a.b.trans (y2.mono (Nat.le_of_lt a.lt.1)), ⟨G, y1, fun i q => s2 i (by rw [k2 i] at q; exact q)⟩,
    a.d.of_blocks (fun i q => y3 i (s2 i (by rcases q with q | q; exact .inr (.inl q); exact .inr (.inr (.inl q))))), k1, a.lt, fun i q => ⟨(a.x i q).1, Nat.lt_of_lt_of_le (a.x i q).2 y2.size⟩⟩
/-- Behind a call that turns the document's heap. -/
theorem AtS.go (a : AtS W h l B B' C s H L V U p g cc kp LI MI X u) (y : HGo B' g u u') (z : HIs B' u' p H L U' g cc) : AtS W h l B B' C s H L V U' p g cc kp LI MI X u' := by
  obtain ⟨G, s1, s2⟩ := a.s
  obtain ⟨l1, l2, l3, l4, l5⟩ := a.lt
  obtain ⟨k1, k2⟩ := a.bk.stay y.b.size (fun i q => y.k i (a.bk.lt i q).2 (by have := (a.bk.lt i q).1; omega))
  have hg := a.d.glt.1
  have hW := a.gb.lt
  have e : ∀ o, u'.cell? ⟨W.heap.size, o, none⟩ = u.cell? ⟨W.heap.size, o, none⟩ := fun o => World.cell?_of_block (a := ⟨W.heap.size, o, none⟩) (y.k _ hW (show W.heap.size ≠ g by omega))
  exact ⟨⟨Nat.lt_of_lt_of_le hW y.b.size, (e 0).trans a.gb.c0, (e 1).trans a.gb.c1⟩, a.b.trans (y.b.mono (by omega)), ⟨G, s1.own (y.b.mono l2) (fun k q r => y.k k r (fun e => q (s2 k (.inr (.inr (.inl e)))))), fun i q => s2 i (by rw [k2 i] at q; exact q)⟩, z, k1, a.lt, fun i q => ⟨(a.x i q).1, Nat.lt_of_lt_of_le (a.x i q).2 y.b.size⟩⟩
theorem AtS.st (a : AtS W h l B B' C s H L V U p g cc kp LI MI X u) : ∃ G, St B G u s H L V := by
  obtain ⟨G, s1, _⟩ := a.s
  exact ⟨G, s1⟩
theorem AtS.start {w2 w3 w4 : World} (x : GBox w2 W.heap.size h l) (b0 : Below W.heap.size W w2) (b1 : Below w2.heap.size w2 w3) (y : St w2.heap.size (fun k => k < w2.heap.size) w3 s H L V) (b2 : Below w3.heap.size w3 w4) (z : HIs w3.heap.size w4 p H L V g cc) :
    AtS W h l w2.heap.size w3.heap.size w4.heap.size s H L V V p g cc w4.heap.size [] [] (fun _ => False) (w4.alloc (.cells #[.slice none 0 0, .slice none 0 0, .slice none 0 0, .slice none 0 0, .slice none 0 0, .slice none 0 0, .slice none 0 0, .slice none 0 0, .slice none 0 0, .slice none 0 0, .slice none 0 0, .slice none 0 0] 40)) := by
  have bk := bookI_start w4 w4 (Below.refl _ _)
  generalize hu : w4.alloc (.cells #[.slice none 0 0, .slice none 0 0, .slice none 0 0, .slice none 0 0, .slice none 0 0, .slice none 0 0, .slice none 0 0, .slice none 0 0, .slice none 0 0, .slice none 0 0, .slice none 0 0, .slice none 0 0] 40) = u at *
  have b3 : Below w4.heap.size w4 u := by rw [← hu]; exact (Below.refl _ _).alloc (Nat.le_refl _) _
  have hW := x.lt
  have hp := z.lt
  have hg := z.glt
  have hz := z.hp
  have n2 := b1.size
  have n3 := b2.size
  have b23 : Below w3.heap.size w3 u := geo_next b2 b3
  refine ⟨(x.below b1).below b23, geo_next (geo_next b0 b1) b23, ⟨_, y.more b23, fun i q => ?_⟩, z.below b3, (bk.stay (Nat.le_refl _) (fun _ _ => rfl)).1, ⟨hW, n2, hp, hg.2, Nat.le_trans n2 n3⟩, fun i q => q.elim⟩
  rcases q with rfl | rfl | rfl | q | q
  · exact .inl hW
  · exact .inr ⟨hz, (z.below b3).lt⟩
  · exact .inr ⟨hg.1, (z.below b3).glt.2⟩
  · exact .inr ⟨Nat.le_trans n3 (bk.lt i q).1, (bk.lt i q).2⟩
  · exact q.elim
/-- One list more in the book. -/
theorem AtS.keep (a : AtS W h l B B' C s H L V U p g cc kp LI MI X u) (x : IL) (hx : u.ownsRow C 3 1 x.cell x.l.length (vals x.l)) (hX : ∀ i, x.cell.ownBlock = some i → X i) (hap : ∀ y ∈ LI, ∀ i, y.cell.ownBlock = some i → x.cell.ownBlock ≠ some i) (hs : x.l.length ≤ 1000) (hL : LI.length ≤ 200) :
    Calls Tryz.prog 15 #[.pointer (some ⟨kp, 0, none⟩), .slice x.a x.l.length x.c] u fun e w' => e = .returned (.tuple #[]) ∧ ∃ y, AtS W h l B B' C s H L V U p g cc kp (LI ++ [x]) (MI ++ [y]) (fun i => X i ∨ (u.heap.size ≤ i ∧ i < w'.heap.size)) w' := by
  obtain ⟨G, s1, s2⟩ := a.s
  obtain ⟨l1, l2, l3, l4, l5⟩ := a.lt
  refine (keepInts_isB C kp LI MI x u a.bk.book a.bk.hp a.bk.kInts hx hap hs hL).mono fun e w' ⟨h1, h2, h3, h4, y, h5, h6⟩ => ⟨h1, y, ?_⟩
  have nb : ∀ i, i < C → ¬ BGI u kp LI MI i := fun i q r => by
    have := (a.bk.lt i r).1
    omega
  have hC : C ≤ u.heap.size := Nat.le_trans a.bk.hp (Nat.le_of_lt a.bk.book.lt)
  have same : ∀ i, i < C → w'.heap[i]? = u.heap[i]? := fun i q => h4 i (Nat.lt_of_lt_of_le q hC) (nb i q)
  have bk := BookI.addInts a.bk h2 h3 h5
  have hWC : W.heap.size < C := by omega
  have e : ∀ o, w'.cell? ⟨W.heap.size, o, none⟩ = u.cell? ⟨W.heap.size, o, none⟩ := fun o => World.cell?_of_block (same _ hWC)
  refine ⟨⟨Nat.lt_of_lt_of_le a.gb.lt h2.size, (e 0).trans a.gb.c0, (e 1).trans a.gb.c1⟩, a.b.trans (h2.mono (Nat.le_of_lt hWC)), ⟨_, s1.turn (h2.mono l5) (fun k q r => h4 k q (fun z => r (s2 k (.inr (.inr (.inr (.inl z))))))), fun i q => ?_⟩, a.d.of_blocks (fun i q => same i (by rcases q with rfl | rfl <;> assumption)), (bk.stay (Nat.le_refl _) (fun _ _ => rfl)).1, a.lt, fun i q => ?_⟩
  · rcases q with q | q | q | q | q | q
    · exact .inl (s2 i (.inl q))
    · exact .inl (s2 i (.inr (.inl q)))
    · exact .inl (s2 i (.inr (.inr (.inl q))))
    · have hlt := (bk.lt i q).2
      rcases h6 i q with r | r | r
      · exact .inl (s2 i (.inr (.inr (.inr (.inl r)))))
      · exact .inl (s2 i (.inr (.inr (.inr (.inr (hX i r))))))
      · exact .inr ⟨r, hlt⟩
    · exact .inl (s2 i (.inr (.inr (.inr (.inr q)))))
    · exact .inr q
  · rcases q with q | q
    · exact ⟨(a.x i q).1, Nat.lt_of_lt_of_le (a.x i q).2 h2.size⟩
    · exact ⟨Nat.le_trans hC q.1, q.2⟩
/-- A list of the book, as it stands. -/
theorem AtS.lies (a : AtS W h l B B' C s H L V U p g cc kp LI MI X u) {x : IL} (hx : x ∈ LI) : LiesAt u x.a (vals x.l) := own_liesInts (a.bk.kInts.each x hx)
theorem AtS.apart (a : AtS W h l B B' C s H L V U p g cc kp LI MI X u) (hL : LI.length ≤ 200) : Calls Tryz.prog 22 #[.pointer (some ⟨kp, 0, none⟩)] u fun e w' => e = .returned (.bool true) ∧ Below W.heap.size W w' :=
  (apartI_is u u C kp LI MI a.bk hL).mono fun e w' ⟨h1, h2⟩ => ⟨h1, a.b.trans (h2.mono (by have := a.lt; omega))⟩
end
theorem objs_lt {h l : Int} {W : List Int} {y : Int} (hWl : (W.length : Int) = 16 + 2 * h) (hy : y ∈ (objs h l W).1) : y < (W.length : Int) := by
  rw [objs] at hy
  split at hy
  next q =>
    obtain ⟨f1, f2, _, f4, _⟩ := fine_yes q
    have hq := geOk_yes f1
    have hmul : hSp W * h ≤ h := by rcases f2 with e | e <;> rw [e] <;> omega
    have := (objGo_sorted (W := W) (fr := hFr W) 1000 (16 + hSp W * h)).2 y hy
    omega
  next => exact absurd hy List.not_mem_nil
/-- The same, whatever is kept besides. -/
def AtE (W : World) (h l : Int) (B B' C s H L : Nat) (V U : List Int) (p g cc kp : Nat) (LI MI : List IL) (u : World) : Prop := ∃ X, AtS W h l B B' C s H L V U p g cc kp LI MI X u
/-- A list that was just told lies beside all. -/
def AtO (W : World) (h l : Int) (B B' C s H L : Nat) (V U : List Int) (p g cc kp : Nat) (LI MI : List IL) (x : IL) (u : World) : Prop :=
  ∃ X, AtS W h l B B' C s H L V U p g cc kp LI MI X u ∧ u.ownsRow C 3 1 x.cell x.l.length (vals x.l) ∧ (∀ i, x.cell.ownBlock = some i → X i) ∧ ∀ y ∈ LI, ∀ i, y.cell.ownBlock = some i → x.cell.ownBlock ≠ some i
section
variable {W : World} {h l : Int} {B B' C s H L : Nat} {V U : List Int} {p g cc kp : Nat} {LI MI : List IL} {u u' : World}
theorem AtE.below (a : AtE W h l B B' C s H L V U p g cc kp LI MI u) (y : Below u.heap.size u u') : AtE W h l B B' C s H L V U p g cc kp LI MI u' := by
  obtain ⟨X, a⟩ := a
  exact ⟨X, a.below y⟩
theorem AtE.st (a : AtE W h l B B' C s H L V U p g cc kp LI MI u) : ∃ G, St B G u s H L V := by
  obtain ⟨X, a⟩ := a
  exact a.st
theorem AtE.d (a : AtE W h l B B' C s H L V U p g cc kp LI MI u) : HIs B' u p H L U g cc := by
  obtain ⟨X, a⟩ := a
  exact a.d
theorem AtE.b (a : AtE W h l B B' C s H L V U p g cc kp LI MI u) : Below W.heap.size W u := by
  obtain ⟨X, a⟩ := a
  exact a.b
theorem AtE.lies (a : AtE W h l B B' C s H L V U p g cc kp LI MI u) {x : IL} (hx : x ∈ LI) : LiesAt u x.a (vals x.l) := by
  obtain ⟨X, a⟩ := a
  exact a.lies hx
theorem AtE.apart (a : AtE W h l B B' C s H L V U p g cc kp LI MI u) (hL : LI.length ≤ 200) : Calls Tryz.prog 22 #[.pointer (some ⟨kp, 0, none⟩)] u fun e w' => e = .returned (.bool true) ∧ Below W.heap.size W w' := by
  obtain ⟨X, a⟩ := a
  exact a.apart hL
theorem AtE.objects (a : AtE W h l B B' C s H L V U p g cc kp LI MI u) : Calls Tryz.prog 14 #[.pointer (some ⟨s, 0, none⟩)] u fun e w' => ∃ ad c, e = .returned (.slice ad (objs H L V).1.length c) ∧ AtO W h l B B' C s H L V U p g cc kp LI MI ⟨ad, (objs H L V).1, c⟩ w' := by
  obtain ⟨X, a⟩ := a
  obtain ⟨G, s1⟩ := a.st
  refine (aobjs_st s1).mono fun e w' ⟨v, h1, h2, h3⟩ => ?_
  obtain ⟨ad, c, rfl⟩ := owns_slice h3
  have hC : C ≤ u.heap.size := Nat.le_trans a.bk.hp (Nat.le_of_lt a.bk.book.lt)
  refine ⟨ad, c, h1, _, a.more h2, owns_base hC h3, fun i q => .inr (h3.lt i q), fun y hy i q r => ?_⟩
  have z1 := ((a.bk.kInts.each y hy).lt i q).2
  have z2 := (h3.lt i r).1
  omega
theorem AtO.keep {x : IL} (a : AtO W h l B B' C s H L V U p g cc kp LI MI x u) (hs : x.l.length ≤ 1000) (hL : LI.length ≤ 200) :
    Calls Tryz.prog 15 #[.pointer (some ⟨kp, 0, none⟩), .slice x.a x.l.length x.c] u fun e w' => e = .returned (.tuple #[]) ∧ ∃ y, AtE W h l B B' C s H L V U p g cc kp (LI ++ [x]) (MI ++ [y]) w' := by
  obtain ⟨X, a, o, h1, h2⟩ := a
  exact (a.keep x o h1 h2 hs hL).mono fun e w' ⟨q1, y, q2⟩ => ⟨q1, y, _, q2⟩
end
end Go.Proofs.YtjpiadhhdgclpaaGreatDoor
