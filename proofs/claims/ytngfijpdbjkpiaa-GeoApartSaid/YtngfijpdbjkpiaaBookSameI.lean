/- The book: SameInts: two lists are held against each other. -/
import Derived.Test.YtngfijpdbjkpiaaBookLaws
namespace Go.Proofs.Ytngfijpdbjkpiaa.Bk
open Go.RowKit

def txts (l : List ByteArray) : List Value := l.map Value.string
theorem ne_int {x y : Int} (h : x ≠ y) : (x == y) = false := by simpa using h
theorem str_ext {a b : ByteArray} (h : a.toList = b.toList) : a = b := by
  rw [ByteArray.toList_eq, ByteArray.toList_eq] at h
  cases a; cases b; simp at h; simp [h]
theorem ne_str {x y : ByteArray} (h : x ≠ y) : (x.toList == y.toList) = false := by
  rw [beq_eq_false_iff_ne]
  exact fun e => h (str_ext e)
theorem take_next {α : Type} {l1 l2 : List α} {k : Nat} (h : l1.take k = l2.take k) (h1 : k < l1.length) (h2 : k < l2.length) (e : l1[k] = l2[k]) : l1.take (k + 1) = l2.take (k + 1) := by
  rw [List.take_succ_eq_append_getElem h1, List.take_succ_eq_append_getElem h2, h, e]
theorem drewN_drew (w : World) (m : Nat) : ∃ m', (w.drewN m).drew = w.drewN m' := ⟨m + 1, rfl⟩
theorem drewN_add (w : World) (m k : Nat) : ∃ m', (w.drewN m).drewN k = w.drewN m' := ⟨m + k, by simp [World.drewN, Nat.add_assoc]⟩
theorem LiesAt.at_ {w : World} {a : Option Addr} {cs : List Value} (h : LiesAt w a cs) {k : Nat} {v : Value} (hk : cs[k]? = some v) : ∃ b : Addr, a = some b ∧ b.block < w.heap.size ∧ w.cell? (b.add k) = some v := h k v hk

theorem own_form {w : World} {base : Nat} {e : TypeId} {v : Value} {n : Nat} {xs : List Value} (h : w.ownsRow base e 1 v n xs) : ∃ (a : Option Addr) (c : Nat), v = .slice a n c ∧ LiesAt w a xs ∧ (a = none ∨ ∃ g, a = some ⟨g, 0, none⟩ ∧ base ≤ g ∧ g < w.heap.size) := by
  have hlt := h.lt
  have h' := h
  rcases h.2 with ⟨hv, hn⟩ | ⟨g, cap, cur, hv, r⟩
  · have hx : xs = [] := List.eq_nil_of_length_eq_zero (by rw [h.1, hn])
    subst hx hn
    exact ⟨none, 0, hv, fun j u hu => by simp at hu, .inl rfl⟩
  · subst hv
    have hg := hlt g rfl
    refine ⟨some ⟨g, 0, none⟩, cap, rfl, fun j u hu => ⟨_, rfl, hg.2, ?_⟩, .inr ⟨g, rfl, hg⟩⟩
    have hj : j < n * 1 := by have := (List.getElem?_eq_some_iff.1 hu).1; rw [h.1] at this; exact this
    rw [Addr.add_mid, Nat.zero_add, h'.cellAt j hj, hu]

end Go.Proofs.Ytngfijpdbjkpiaa.Bk
