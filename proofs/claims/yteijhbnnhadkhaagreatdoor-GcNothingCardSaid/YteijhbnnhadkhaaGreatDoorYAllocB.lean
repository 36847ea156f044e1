/- StoreTurn, AllocObjs, AllocLaws -/
import Derived.Test.YteijhbnnhadkhaaGreatDoorYStoreG
import Derived.Test.YteijhbnnhadkhaaGreatDoorYAllocA
import Derived.Test.YteijhbnnhadkhaaGreatDoorYHeapC
import Derived.Test.YteijhbnnhadkhaaGreatDoorYMathA
import Derived.Test.YteijhbnnhadkhaaGreatDoorYShelf
set_option linter.unusedVariables false
set_option linter.unusedSimpArgs false
-- StoreTurn
/- A store in a law, where what is kept beside it turns and news are made: St.turn. -/
namespace Go.Proofs.YteijhbnnhadkhaaGreatDoor
open Go.RowKit Sec
open Go.Proofs.YteijhbnnhadkhaaGreatDoor.Bk

section
variable {B : Nat} {G : Nat → Prop} {w w' : World}
theorem LogAt.turnS {q p : Nat} {D : Dsk} {fr n hd nx ep : Int} (h : LogAt B G w q p D fr n hd nx ep) (b : Below B w w') (hb : ∀ k, k < w.heap.size → ¬ G k → w'.heap[k]? = w.heap[k]?) : LogAt B (fun k => G k ∨ (w.heap.size ≤ k ∧ k < w'.heap.size)) w' q p D fr n hd nx ep := by
  obtain ⟨⟨t, y, e, hi, hf, hg⟩, hc, hge, hng⟩ := h
  refine ⟨⟨t.below b, y, e, hi.of_blocks b.size (fun k f => hb k (hi.small k f) (fun g => (hg k (.inl g)).2 f)), hf, fun k r => ?_⟩, hc.of_block (hb q hc.lt hng), hge, fun r => ?_⟩
  · rcases r with (r | r) | r
    · exact ⟨Nat.lt_of_lt_of_le (hg k (.inl r)).1 b.size, (hg k (.inl r)).2⟩
    · exact ⟨r.2, fun f => by have := hi.small k f; omega⟩
    · exact ⟨Nat.lt_of_lt_of_le (hg k (.inr r)).1 b.size, (hg k (.inr r)).2⟩
  · rcases r with r | r
    · exact hng r
    · have := hc.lt; omega
theorem StAt.turnS {s p q : Nat} {S : Sup} {X Y : List Int} {off : Bool} {vC vW : Value} {D : Dsk} {fr n hd nx ep : Int} (h : StAt B G w s p q D fr n hd nx ep S X Y off vC vW) (b : Below B w w') (hb : ∀ k, k < w.heap.size → ¬ G k → w'.heap[k]? = w.heap[k]?) : StAt B (fun k => G k ∨ (w.heap.size ≤ k ∧ k < w'.heap.size)) w' s p q D fr n hd nx ep S X Y off vC vW :=
  ⟨h.st.of_blocks (fun k r => hb k (h.st.foot k r).2 (h.ng k r)), (h.lg.turnS b (fun k q r => hb k q (fun g => r (.inl g)))).mono (fun k r => by
    rcases r with (r | r) | r
    · exact .inl (.inl r)
    · exact .inr r
    · exact .inl (.inr r)), fun k r g => by
    rcases g with g | g
    · exact h.ng k r g
    · have := (h.st.foot k r).2; omega⟩
theorem St.turn {s H L : Nat} {W : List Int} (h : St B G w s H L W) (b : Below B w w') (hb : ∀ k, k < w.heap.size → ¬ G k → w'.heap[k]? = w.heap[k]?) : St B (fun k => G k ∨ (w.heap.size ≤ k ∧ k < w'.heap.size)) w' s H L W := by
  obtain ⟨p, lq, q, hd, nx, e, K, C, D, vC, vW, h⟩ := h
  exact ⟨p, lq, q, hd, nx, e, K, C, D, vC, vW, h.m.turnS b hb, h.o, h.lit, h.len, h.fine⟩
end
end Go.Proofs.YteijhbnnhadkhaaGreatDoor
-- AllocObjs
/- Package alloc: Objects, Is, Shape, as the document's. -/
namespace Go.Proofs.YteijhbnnhadkhaaGreatDoor
open Go.RowKit Sec
open Go.Proofs.YteijhbnnhadkhaaGreatDoor.Bk

section
variable {w : World} {x : Option Addr} {gv : Int → Int} {h l : Int}
end
section
variable {B : Nat} {G : Nat → Prop} {w : World} {s H L : Nat} {W : List Int}
end
end Go.Proofs.YteijhbnnhadkhaaGreatDoor
-- AllocLaws
/- The laws of stage 12: their helper alive; what they keep. -/
namespace Go.Proofs.YteijhbnnhadkhaaGreatDoor
open Go.RowKit Sec
open Go.Proofs.YteijhbnnhadkhaaGreatDoor.Bk

/-- What the laws keep: the geometry's box, the store; the blocks G lie beside it. -/
structure LwS (W : World) (h l : Int) (B : Nat) (G : Nat → Prop) (s H L : Nat) (V : List Int) (u : World) : Prop where
  g : GBox u W.heap.size h l
  b : Below W.heap.size W u
  s : St B G u s H L V
  lt : W.heap.size < B
  gg : ∀ k, k < B → G k
section
variable {W u u' : World} {h l : Int} {B s H L : Nat} {G G' : Nat → Prop} {V V' : List Int}
theorem LwS.below (x : LwS W h l B G s H L V u) (y : Below u.heap.size u u') : LwS W h l B G s H L V u' := ⟨x.g.below y, geo_next x.b y, x.s.below y, x.lt, x.gg⟩
theorem LwS.start {v : World} (g : GBox v W.heap.size h l) (b : Below W.heap.size W v) (h3 : St v.heap.size (fun k => k < v.heap.size) u s H L V) (b3 : Below v.heap.size v u) : LwS W h l v.heap.size (fun k => k < v.heap.size) s H L V u :=
  ⟨g.below b3, geo_next b b3, h3, g.lt, fun _ q => q⟩
theorem LwS.set (x : LwS W h l B G s H L V u) (h1 : St B G u' s H L V') (h2 : Below B u u') (h3 : KeptG G u u') : LwS W h l B G s H L V' u' :=
  have c := x.gg _ x.lt
  ⟨⟨Nat.lt_of_lt_of_le x.g.lt h2.size, (h3.cell ⟨_, 0, none⟩ c).trans x.g.c0, (h3.cell ⟨_, 1, none⟩ c).trans x.g.c1⟩, x.b.trans (h2.mono (Nat.le_of_lt x.lt)), h1, x.lt, x.gg⟩
/-- What a call made is kept beside the store from then on. -/
theorem LwS.more (x : LwS W h l B G s H L V u) (y : Below u.heap.size u u') : LwS W h l B (fun k => G k ∨ (u.heap.size ≤ k ∧ k < u'.heap.size)) s H L V u' :=
  ⟨x.g.below y, geo_next x.b y, x.s.more y, x.lt, fun k q => .inl (x.gg k q)⟩
/-- What is kept beside the store has turned, and there are news. -/
theorem LwS.turn (x : LwS W h l B G s H L V u) (b : Below B u u') (hb : ∀ k, k < u.heap.size → ¬ G k → u'.heap[k]? = u.heap[k]?) (hk : u'.heap[W.heap.size]? = u.heap[W.heap.size]?) : LwS W h l B (fun k => G k ∨ (u.heap.size ≤ k ∧ k < u'.heap.size)) s H L V u' :=
  ⟨⟨Nat.lt_of_lt_of_le x.g.lt b.size, (World.cell?_of_block (a := ⟨_, 0, none⟩) hk).trans x.g.c0, (World.cell?_of_block (a := ⟨_, 1, none⟩) hk).trans x.g.c1⟩, x.b.trans (b.mono (Nat.le_of_lt x.lt)), x.s.turn b hb, x.lt, fun k q => .inl (x.gg k q)⟩
/-- A list of the law's own, beside the store. -/
structure LwA (W : World) (h l : Int) (B : Nat) (s H L : Nat) (V : List Int) (v : Value) (T : List Int) (u : World) : Prop where
  x : ∃ G, LwS W h l B G s H L V u ∧ (∀ g, v.ownBlock = some g → G g) ∧ ∀ k, G k → k < u.heap.size
  o : u.ownsRow B 3 1 v T.length (vals T)
variable {v : Value} {T : List Int}
theorem LwA.below (x : LwA W h l B s H L V v T u) (y : Below u.heap.size u u') : LwA W h l B s H L V v T u' := by
  obtain ⟨⟨G, x1, x2, x3⟩, o⟩ := x
  exact ⟨⟨G, x1.below y, x2, fun k q => Nat.lt_of_lt_of_le (x3 k q) y.size⟩, own_below o y⟩
/-- Behind a call that turns the store. -/
theorem LwA.new (x : LwA W h l B s H L V v T u) {f : FuncId} {args : Array Value} {r : Ending} (y : ∀ G, St B G u s H L V → Calls Tryz.prog f args u fun e w' => e = r ∧ St B G w' s H L V' ∧ Below B u w' ∧ KeptG G u w') :
    Calls Tryz.prog f args u fun e w' => e = r ∧ LwA W h l B s H L V' v T w' := by
  obtain ⟨⟨G, x1, x2, x3⟩, o⟩ := x
  exact (y G x1.s).mono fun e w' ⟨y0, y1, y2, y3⟩ => ⟨y0, ⟨G, x1.set y1 y2 y3, x2, fun k q => Nat.lt_of_lt_of_le (x3 k q) y2.size⟩, hb_same o fun g hg => y3 g (x2 g hg)⟩
theorem LwA.st (x : LwA W h l B s H L V v T u) : ∃ G, St B G u s H L V := by
  obtain ⟨⟨G, x1, _⟩, _⟩ := x
  exact ⟨G, x1.s⟩
theorem LwA.b (x : LwA W h l B s H L V v T u) : Below W.heap.size W u := by
  obtain ⟨⟨G, x1, _⟩, _⟩ := x
  exact x1.b
theorem LwA.start (x : LwS W h l B (fun k => k < B) s H L V u) : LwA W h l B s H L V (.slice none 0 0) [] u :=
  ⟨⟨_, x, fun g q => (by cases q), fun k q => Nat.lt_of_lt_of_le q x.s.le⟩, World.ownsRow_nil _ _ _ _⟩
/-- One number more. -/
theorem LwA.push (x : LwA W h l B s H L V v T u) {u1 : World} (y : Below u.heap.size u u1) {g c n : Nat} {z : Int} (hn : n = T.length + 1)
    (ho : u'.ownsRow B 3 1 (.slice (some ⟨g, 0, none⟩) n c) n (vals T ++ [.int .i64 z])) (hg : u1.grownBy u' v.ownBlock) (hat : v.ownBlock = some g ∨ g = u1.heap.size) (hlt : g < u'.heap.size) : LwA W h l B s H L V (.slice (some ⟨g, 0, none⟩) n c) (T ++ [z]) u' := by
  obtain ⟨⟨G, x1, x2, x3⟩, o⟩ := x
  subst hn
  have hB := x1.s.le
  have b1 : Below B u u' := (y.mono hB).grown hg (Nat.le_trans hB y.size) (fun k q => (o.lt k q).1)
  have hne : v.ownBlock ≠ some W.heap.size := fun e => by
    have := (o.lt _ e).1
    have := x1.lt
    omega
  have hW : W.heap.size < u.heap.size := x1.g.lt
  have same : ∀ k, k < u.heap.size → v.ownBlock ≠ some k → u'.heap[k]? = u.heap[k]? := fun k q r =>
    (hg.block k (Nat.lt_of_lt_of_le q y.size) (fun e => r e.symm)).trans (y.block k q)
  refine ⟨⟨_, x1.turn b1 (fun k q r => same k q (fun e => r (x2 k e))) (same _ hW hne), fun g' e => ?_, fun k q => ?_⟩, ?_⟩
  · obtain rfl : g = g' := by simpa [Value.ownBlock] using e
    rcases hat with q | q
    · exact .inl (x2 g q)
    · exact .inr ⟨by rw [q]; exact y.size, hlt⟩
  · rcases q with q | q
    · exact Nat.lt_of_lt_of_le (x3 k q) b1.size
    · exact q.2
  · rw [List.length_append]
    simpa [vals] using ho
end
end Go.Proofs.YteijhbnnhadkhaaGreatDoor
