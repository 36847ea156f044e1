import Derived.Test.YtbghglkplbnnkaaGreatDoorYAllocA
import Derived.Test.YtbghglkplbnnkaaGreatDoorYHeapC
import Derived.Test.YtbghglkplbnnkaaGreatDoorYMathA
import Derived.Test.YtbghglkplbnnkaaGreatDoorYShelf
import Derived.Test.YtbghglkplbnnkaaGreatDoorYStoreG
import Derived.Test.YtbghglkplbnnkaaGreatDoorYHeap
import Derived.Test.YtbghglkplbnnkaaGreatDoorYBook
set_option linter.unusedVariables false
set_option linter.unusedSimpArgs false
-- AllocObjs
namespace Go.Proofs.YtbghglkplbnnkaaGreatDoor
open Go.RowKit Sec
open Go.Proofs.YtbghglkplbnnkaaGreatDoor.Bk

section
variable {w : World} {x : Option Addr} {gv : Int → Int} {h l : Int}
end
section
variable {B : Nat} {G : Nat → Prop} {w : World} {s H L : Nat} {W : List Int}
end
end Go.Proofs.YtbghglkplbnnkaaGreatDoor
-- StoreTurn
namespace Go.Proofs.YtbghglkplbnnkaaGreatDoor
open Go.RowKit Sec
open Go.Proofs.YtbghglkplbnnkaaGreatDoor.Bk

section
variable {B : Nat} {G : Nat → Prop} {w w' : World}
theorem LogAt.turnS {q p : Nat} {D : Dsk} {fr n hd nx ep : Int} (h : LogAt B G w q p D fr n hd nx ep) (b : Below B w w') (hb : ∀ k, k < w.heap.size → ¬ G k → w'.heap[k]? = w.heap[k]?) : LogAt B (fun k => G k ∨ (w.heap.size ≤ k ∧ k < w'.heap.size)) w' q p D fr n hd nx ep := by
  obtain ⟨⟨t, y, e, hi, hf, hg⟩, hc, hge, hng⟩ := h
  refine ⟨⟨t.below b, y, e, hi.of_blocks b.size (fun k f => hb k (hi.small k f) (fun g => (hg k (.inl g)).2 f)), hf, fun k r => ?_⟩, hc.of_block (hb q hc.lt hng), hge, fun r => ?_⟩
  · rcases r with (r | r) | r
    · exact ⟨Nat.lt_of_lt_of_le (hg k (.inl r)).1 b.size, (hg k (.inl r)).2⟩
    · exact ⟨r.2, fun f => by have := hi.small k f; omega⟩
    · exact ⟨Nat.lt_of_lt_of_le (hg k (.inr r)).1 b.size, (hg k (.inr r)).2⟩
  · rcases r with r | r
    · exact hng r
    · have := hc.lt; omega
theorem StAt.turnS {s p q : Nat} {S : Sup} {X Y : List Int} {off : Bool} {vC vW : Value} {D : Dsk} {fr n hd nx ep : Int} (h : StAt B G w s p q D fr n hd nx ep S X Y off vC vW) (b : Below B w w') (hb : ∀ k, k < w.heap.size → ¬ G k → w'.heap[k]? = w.heap[k]?) : StAt B (fun k => G k ∨ (w.heap.size ≤ k ∧ k < w'.heap.size)) w' s p q D fr n hd nx ep S X Y off vC vW :=
  ⟨h.st.of_blocks (fun k r => hb k (h.st.foot k r).2 (h.ng k r)), (h.lg.turnS b (fun k q r => hb k q (fun g => r (.inl g)))).mono (fun k r => by
    rcases r with (r | r) | r
    · exact .inl (.inl r)
    · exact .inr r
    · exact .inl (.inr r)), fun k r g => by
    rcases g with g | g
    · exact h.ng k r g
    · have := (h.st.foot k r).2; omega⟩
theorem St.turn {s H L : Nat} {W : List Int} (h : St B G w s H L W) (b : Below B w w') (hb : ∀ k, k < w.heap.size → ¬ G k → w'.heap[k]? = w.heap[k]?) : St B (fun k => G k ∨ (w.heap.size ≤ k ∧ k < w'.heap.size)) w' s H L W := by
  obtain ⟨p, lq, q, hd, nx, e, K, C, D, vC, vW, h⟩ := h
  exact ⟨p, lq, q, hd, nx, e, K, C, D, vC, vW, h.m.turnS b hb, h.o, h.lit, h.len, h.fine⟩
end
end Go.Proofs.YtbghglkplbnnkaaGreatDoor
-- AllocLaws
namespace Go.Proofs.YtbghglkplbnnkaaGreatDoor
open Go.RowKit Sec
open Go.Proofs.YtbghglkplbnnkaaGreatDoor.Bk

section
variable {W u u' : World} {h l : Int} {B s H L : Nat} {G G' : Nat → Prop} {V V' : List Int}
variable {v : Value} {T : List Int}
end
end Go.Proofs.YtbghglkplbnnkaaGreatDoor
-- Raw
namespace Go.Proofs.YtbghglkplbnnkaaGreatDoor
open Go.RowKit Sec
open Go.Proofs.YtbghglkplbnnkaaGreatDoor.Bk

section
variable {w w' : World}
set_option maxRecDepth 100000 in
set_option maxHeartbeats 2000000 in
theorem Heap_st {B : Nat} {G : Nat → Prop} {s H L : Nat} {W : List Int} (h : St B G w s H L W) :
    Calls Tryz.prog 14 #[.pointer (some ⟨s, 0, none⟩)] w fun r w' => ∃ b g c, r = .returned (.pointer (some ⟨b, 0, none⟩)) ∧ HIs w.heap.size w' b H L W g c ∧ Below w.heap.size w w' := by
  have HG := Lib.hid (st_geo h)
  have HA := Lib.hid (fun u (y : Below w.heap.size w u) => st_all (h.below y))
  have hlen := h.len
  have hge := h.ge
  have HN := Lib.hid hlen
  have HH := Lib.hid hge
  clear h hlen hge
  go_enter Tryz.func14, Tryz.ntmps14
  go_wp2_with (first
    | (go_at_call 37; refine HG.out.mono ?_; rintro e w1 ⟨rfl, b1⟩; have H1 := Lib.hid b1; clear b1)
    | (go_at_call 38
       refine (HA.out _ H1.out).mono ?_
       rintro e w2 ⟨g, c, rfl, b2, o2⟩
       have H2 := Lib.hid (And.intro (geo_next H1.out b2) (owns_base' H1.out.size o2))
       clear b2 o2))
  go_ret
  rw [← HN.out] at H2
  refine ⟨w2.heap.size, g, c, ?_, ⟨H2.out.1.size, ?_, ?_, ?_, ?_⟩, H2.out.1.trans (((Below.refl _ _).alloc (Nat.le_refl _) _).mono H2.out.1.size)⟩
  · rfl
  · rw [HN.out]
    exact heap_alloc_last _ _
  · exact owns_below H2.out.2 ((Below.refl _ _).alloc (Nat.le_refl _) _)
  · rw [HN.out]
    omega
  · rw [HN.out]
    have := HH.out
    omega
end
end Go.Proofs.YtbghglkplbnnkaaGreatDoor
