import Derived.Test.YtiiioeodanmieaaGreatDoorYAllocA
import Derived.Test.YtiiioeodanmieaaGreatDoorYHeapC
import Derived.Test.YtiiioeodanmieaaGreatDoorYMathA
import Derived.Test.YtiiioeodanmieaaGreatDoorYShelf
import Derived.Test.YtiiioeodanmieaaGreatDoorYStoreG
set_option linter.unusedVariables false
set_option linter.unusedSimpArgs false
-- AllocObjs
namespace Go.Proofs.YtiiioeodanmieaaGreatDoor
open Go.RowKit Sec
open Go.Proofs.YtiiioeodanmieaaGreatDoor.Bk

section
variable {w : World} {x : Option Addr} {gv : Int → Int} {h l : Int}
end
section
variable {B : Nat} {G : Nat → Prop} {w : World} {s H L : Nat} {W : List Int}
end
end Go.Proofs.YtiiioeodanmieaaGreatDoor
-- StoreTurn
namespace Go.Proofs.YtiiioeodanmieaaGreatDoor
open Go.RowKit Sec
open Go.Proofs.YtiiioeodanmieaaGreatDoor.Bk

section
variable {B : Nat} {G : Nat → Prop} {w w' : World}
theorem LogAt.turnS {q p : Nat} {D : Dsk} {fr n hd nx ep : Int} (h : LogAt B G w q p D fr n hd nx ep) (b : Below B w w') (hb : ∀ k, k < w.heap.size → ¬ G k → w'.heap[k]? = w.heap[k]?) : LogAt B (fun k => G k ∨ (w.heap.size ≤ k ∧ k < w'.heap.size)) w' q p D fr n hd nx ep := by
  obtain ⟨⟨t, y, e, hi, hf, hg⟩, hc, hge, hng⟩ := h
  refine ⟨⟨t.below b, y, e, hi.of_blocks b.size (fun k f => hb k (hi.small k f) (fun g => (hg k (.inl g)).2 f)), hf, fun k r => ?_⟩, hc.of_block (hb q hc.lt hng), hge, fun r => ?_⟩
  · rcases r with (r | r) | r
    · exact ⟨Nat.lt_of_lt_of_le (hg k (.inl r)).1 b.size, (hg k (.inl r)).2⟩
    · exact ⟨r.2, fun f => by have := hi.small k f; omega⟩
    · exact ⟨Nat.lt_of_lt_of_le (hg k (.inr r)).1 b.size, (hg k (.inr r)).2⟩
  · rcases r with r | r
    · exact hng r
    · have := hc.lt; omega
theorem StAt.turnS {s p q : Nat} {S : Sup} {X Y : List Int} {off : Bool} {vC vW : Value} {D : Dsk} {fr n hd nx ep : Int} (h : StAt B G w s p q D fr n hd nx ep S X Y off vC vW) (b : Below B w w') (hb : ∀ k, k < w.heap.size → ¬ G k → w'.heap[k]? = w.heap[k]?) : StAt B (fun k => G k ∨ (w.heap.size ≤ k ∧ k < w'.heap.size)) w' s p q D fr n hd nx ep S X Y off vC vW :=
  ⟨h.st.of_blocks (fun k r => hb k (h.st.foot k r).2 (h.ng k r)), (h.lg.turnS b (fun k q r => hb k q (fun g => r (.inl g)))).mono (fun k r => by
    rcases r with (r | r) | r
    · exact .inl (.inl r)
    · exact .inr r
    · exact .inl (.inr r)), fun k r g => by
    rcases g with g | g
    · exact h.ng k r g
    · have := (h.st.foot k r).2; omega⟩
theorem St.turn {s H L : Nat} {W : List Int} (h : St B G w s H L W) (b : Below B w w') (hb : ∀ k, k < w.heap.size → ¬ G k → w'.heap[k]? = w.heap[k]?) : St B (fun k => G k ∨ (w.heap.size ≤ k ∧ k < w'.heap.size)) w' s H L W := by
  obtain ⟨p, lq, q, hd, nx, e, K, C, D, vC, vW, h⟩ := h
  exact ⟨p, lq, q, hd, nx, e, K, C, D, vC, vW, h.m.turnS b hb, h.o, h.lit, h.len, h.fine⟩
end
end Go.Proofs.YtiiioeodanmieaaGreatDoor
-- AllocLaws
namespace Go.Proofs.YtiiioeodanmieaaGreatDoor
open Go.RowKit Sec
open Go.Proofs.YtiiioeodanmieaaGreatDoor.Bk

section
variable {W u u' : World} {h l : Int} {B s H L : Nat} {G G' : Nat → Prop} {V V' : List Int}
variable {v : Value} {T : List Int}
end
end Go.Proofs.YtiiioeodanmieaaGreatDoor
