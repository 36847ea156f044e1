import Derived.Test.YtiiioeodanmieaaGreatDoorYAllocB
import Derived.Test.YtiiioeodanmieaaGreatDoorYBookE
import Derived.Test.YtiiioeodanmieaaGreatDoorYRaw
set_option linter.unusedVariables false
set_option linter.unusedSimpArgs false
namespace Go.Proofs.YtiiioeodanmieaaGreatDoor
open Go.RowKit Sec
open Go.Proofs.YtiiioeodanmieaaGreatDoor.Bk

theorem Bk.BookI.stay {w0 w w' : World} {base p : Nat} {L M : List IL} (h : BookI w0 w base p L M) (hs : w.heap.size ≤ w'.heap.size) (k : ∀ i, BGI w p L M i → w'.heap[i]? = w.heap[i]?) : BookI w' w' base p L M ∧ ∀ i, BGI w' p L M i ↔ BGI w p L M i := by
  have hp := k p (.inl rfl)
  have t : Turn w w' p (fun _ => False) (fun i => ¬ BGI w p L M i) := ⟨hs, fun g _ _ hr => k g (Classical.not_not.1 hr), fun j _ => World.cell?_of_block (a := ⟨p, j, none⟩) hp, book_of_block hp⟩
  exact ⟨⟨Below.refl _ _, h.hp, book_of_block hp h.book, h.kInts.blocks h.book (fun i q => k i q) hs, h.nils.turn t (fun _ q => q.elim)⟩, fun i => BGI.same hp i⟩
structure AtS (W : World) (h l : Int) (B B' C s H L : Nat) (V U : List Int) (p g cc kp : Nat) (LI MI : List IL) (X : Nat → Prop) (u : World) : Prop where
  gb : GBox u W.heap.size h l
  b : Below W.heap.size W u
  s : ∃ G, St B G u s H L V ∧ ∀ i, (i = W.heap.size ∨ i = p ∨ i = g ∨ BGI u kp LI MI i ∨ X i) → G i
  d : HIs B' u p H L U g cc
  bk : BookI u u C kp LI MI
  lt : W.heap.size < B ∧ B ≤ B' ∧ p < C ∧ g < C ∧ B ≤ C
  x : ∀ i, X i → C ≤ i ∧ i < u.heap.size
section
variable {W : World} {h l : Int} {B B' C s H L : Nat} {V V' U U' : List Int} {p g cc kp : Nat} {LI MI : List IL} {X : Nat → Prop} {u u' : World}
theorem AtS.below (a : AtS W h l B B' C s H L V U p g cc kp LI MI X u) (y : Below u.heap.size u u') : AtS W h l B B' C s H L V U p g cc kp LI MI X u' := by
  obtain ⟨G, s1, s2⟩ := a.s
  obtain ⟨k1, k2⟩ := a.bk.stay y.size (fun i q => y.block i (a.bk.lt i q).2)
  exact ⟨a.gb.below y, geo_next a.b y, ⟨G, s1.below y, fun i q => s2 i (by rw [k2 i] at q; exact q)⟩, a.d.below y, k1, a.lt, fun i q => ⟨(a.x i q).1, Nat.lt_of_lt_of_le (a.x i q).2 y.size⟩⟩
theorem AtS.more (a : AtS W h l B B' C s H L V U p g cc kp LI MI X u) (y : Below u.heap.size u u') : AtS W h l B B' C s H L V U p g cc kp LI MI (fun i => X i ∨ (u.heap.size ≤ i ∧ i < u'.heap.size)) u' := by
  obtain ⟨G, s1, s2⟩ := a.s
  obtain ⟨k1, k2⟩ := a.bk.stay y.size (fun i q => y.block i (a.bk.lt i q).2)
  have hC : C ≤ u.heap.size := Nat.le_trans a.bk.hp (Nat.le_of_lt a.bk.book.lt)
  refine ⟨a.gb.below y, geo_next a.b y, ⟨_, s1.more y, fun i q => ?_⟩, a.d.below y, k1, a.lt, fun i q => ?_⟩
  · rw [k2 i] at q
    rcases q with q | q | q | q | q | q
    · exact .inl (s2 i (.inl q))
    · exact .inl (s2 i (.inr (.inl q)))
    · exact .inl (s2 i (.inr (.inr (.inl q))))
    · exact .inl (s2 i (.inr (.inr (.inr (.inl q)))))
    · exact .inl (s2 i (.inr (.inr (.inr (.inr q)))))
    · exact .inr q
  · rcases q with q | q
    · exact ⟨(a.x i q).1, Nat.lt_of_lt_of_le (a.x i q).2 y.size⟩
    · exact ⟨Nat.le_trans hC q.1, q.2⟩
theorem AtS.st (a : AtS W h l B B' C s H L V U p g cc kp LI MI X u) : ∃ G, St B G u s H L V := by
  obtain ⟨G, s1, _⟩ := a.s
  exact ⟨G, s1⟩
theorem AtS.start {w2 w3 w4 : World} (x : GBox w2 W.heap.size h l) (b0 : Below W.heap.size W w2) (b1 : Below w2.heap.size w2 w3) (y : St w2.heap.size (fun k => k < w2.heap.size) w3 s H L V) (b2 : Below w3.heap.size w3 w4) (z : HIs w3.heap.size w4 p H L V g cc) :
    AtS W h l w2.heap.size w3.heap.size w4.heap.size s H L V V p g cc w4.heap.size [] [] (fun _ => False) (w4.alloc (.cells #[.slice none 0 0, .slice none 0 0, .slice none 0 0, .slice none 0 0, .slice none 0 0, .slice none 0 0, .slice none 0 0, .slice none 0 0, .slice none 0 0, .slice none 0 0, .slice none 0 0, .slice none 0 0] 41)) := by
  have bk := bookI_start w4 w4 (Below.refl _ _)
  generalize hu : w4.alloc (.cells #[.slice none 0 0, .slice none 0 0, .slice none 0 0, .slice none 0 0, .slice none 0 0, .slice none 0 0, .slice none 0 0, .slice none 0 0, .slice none 0 0, .slice none 0 0, .slice none 0 0, .slice none 0 0] 41) = u at *
  have b3 : Below w4.heap.size w4 u := by rw [← hu]; exact (Below.refl _ _).alloc (Nat.le_refl _) _
  have hW := x.lt
  have hp := z.lt
  have hg := z.glt
  have hz := z.hp
  have n2 := b1.size
  have n3 := b2.size
  have b23 : Below w3.heap.size w3 u := geo_next b2 b3
  refine ⟨(x.below b1).below b23, geo_next (geo_next b0 b1) b23, ⟨_, y.more b23, fun i q => ?_⟩, z.below b3, (bk.stay (Nat.le_refl _) (fun _ _ => rfl)).1, ⟨hW, n2, hp, hg.2, Nat.le_trans n2 n3⟩, fun i q => q.elim⟩
  rcases q with rfl | rfl | rfl | q | q
  · exact .inl hW
  · exact .inr ⟨hz, (z.below b3).lt⟩
  · exact .inr ⟨hg.1, (z.below b3).glt.2⟩
  · exact .inr ⟨Nat.le_trans n3 (bk.lt i q).1, (bk.lt i q).2⟩
  · exact q.elim
theorem AtS.apart (a : AtS W h l B B' C s H L V U p g cc kp LI MI X u) (hL : LI.length ≤ 200) : Calls Tryz.prog 33 #[.pointer (some ⟨kp, 0, none⟩)] u fun e w' => e = .returned (.bool true) ∧ Below W.heap.size W w' :=
  (apartI_is u u C kp LI MI a.bk hL).mono fun e w' ⟨h1, h2⟩ => ⟨h1, a.b.trans (h2.mono (by have := a.lt; omega))⟩
end
def AtE (W : World) (h l : Int) (B B' C s H L : Nat) (V U : List Int) (p g cc kp : Nat) (LI MI : List IL) (u : World) : Prop := ∃ X, AtS W h l B B' C s H L V U p g cc kp LI MI X u
section
variable {W : World} {h l : Int} {B B' C s H L : Nat} {V U : List Int} {p g cc kp : Nat} {LI MI : List IL} {u u' : World}
theorem AtE.below (a : AtE W h l B B' C s H L V U p g cc kp LI MI u) (y : Below u.heap.size u u') : AtE W h l B B' C s H L V U p g cc kp LI MI u' := by
  obtain ⟨X, a⟩ := a
  exact ⟨X, a.below y⟩
theorem AtE.st (a : AtE W h l B B' C s H L V U p g cc kp LI MI u) : ∃ G, St B G u s H L V := by
  obtain ⟨X, a⟩ := a
  exact a.st
theorem AtE.d (a : AtE W h l B B' C s H L V U p g cc kp LI MI u) : HIs B' u p H L U g cc := by
  obtain ⟨X, a⟩ := a
  exact a.d
theorem AtE.b (a : AtE W h l B B' C s H L V U p g cc kp LI MI u) : Below W.heap.size W u := by
  obtain ⟨X, a⟩ := a
  exact a.b
theorem AtE.apart (a : AtE W h l B B' C s H L V U p g cc kp LI MI u) (hL : LI.length ≤ 200) : Calls Tryz.prog 33 #[.pointer (some ⟨kp, 0, none⟩)] u fun e w' => e = .returned (.bool true) ∧ Below W.heap.size W w' := by
  obtain ⟨X, a⟩ := a
  exact a.apart hL
end
end Go.Proofs.YtiiioeodanmieaaGreatDoor
