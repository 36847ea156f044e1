/- The book: rows of structs that live on through a long law. -/
import Derived.Test.YtebeegfgghbdlaaBookApartCE
import Derived.Test.YtebeegfgghbdlaaBookWLent
namespace Go.Proofs.Ytebeegfgghbdlaa.Bk
open Go.RowKit

structure RowK where
  e : TypeId
  k : Nat
  v : Value
  n : Nat
  xs : List Value
/-- Rows of changes and entries that live on. -/
structure RowsK (w0 w : World) (base : Nat) (R : List RowK) : Prop where
  below : Below base w0 w
  bs : base ≤ w.heap.size
  row : ∀ r ∈ R, w.ownsRow base r.e r.k r.v r.n r.xs ∧ (r.e = 56 ∨ r.e = 23)
theorem RowsK.next {w0 w w' : World} {base : Nat} {R : List RowK} (h : RowsK w0 w base R) (b : Below w.heap.size w w') : RowsK w0 w' base R :=
  ⟨h.below.trans (b.mono h.bs), Nat.le_trans h.bs b.size, fun r hr => ⟨own_belowK (h.row r hr).1 b, (h.row r hr).2⟩⟩
theorem RowsK.addC {w0 w : World} {base b : Nat} {R : List RowK} (h : RowsK w0 w base R) {v : Value} {n : Nat} {xs : List Value} (ho : w.ownsRow b 56 2 v n xs) (hb : base ≤ b) : RowsK w0 w base (⟨56, 2, v, n, xs⟩ :: R) :=
  ⟨h.below, h.bs, fun r hr => by
    rcases List.mem_cons.1 hr with q | q
    · subst q
      exact ⟨owns_base hb ho, .inl rfl⟩
    · exact h.row r q⟩
theorem RowsK.addE {w0 w : World} {base b : Nat} {R : List RowK} (h : RowsK w0 w base R) {v : Value} {n : Nat} {xs : List Value} (ho : w.ownsRow b 23 5 v n xs) (hb : base ≤ b) : RowsK w0 w base (⟨23, 5, v, n, xs⟩ :: R) :=
  ⟨h.below, h.bs, fun r hr => by
    rcases List.mem_cons.1 hr with q | q
    · subst q
      exact ⟨owns_base hb ho, .inr rfl⟩
    · exact h.row r q⟩
theorem RowsK.turn {w0 w w' : World} {base p : Nat} {R : List RowK} {J : Nat → Prop} {T : TypeId} (h : RowsK w0 w base R) (hb : BookB w p) (b : Below base w w') (t : Turn w w' p J (OfType w T)) (h1 : 56 ≠ T) (h2 : 23 ≠ T) : RowsK w0 w' base R :=
  ⟨h.below.trans b, Nat.le_trans h.bs t.size, fun r hr => by
    obtain ⟨o, e⟩ := h.row r hr
    refine ⟨owns_typed o hb t (by rcases e with e | e <;> rw [e] <;> assumption) (by rcases e with e | e <;> rw [e] <;> decide), e⟩⟩
theorem RowsK.get {w0 w : World} {base : Nat} {R : List RowK} (h : RowsK w0 w base R) (i : Nat) {r : RowK} (hi : R[i]? = some r) : w.ownsRow base r.e r.k r.v r.n r.xs := (h.row r (List.mem_of_getElem? hi)).1
/-- What lies at an owned row's head. -/
theorem lent_lies {α : Type} {enc : α → List Value} {w : World} {base : Nat} {e : TypeId} {k g c n : Nat} {l : List α} {x : α} (h : w.ownsRow base e k (.slice (some ⟨g, 0, none⟩) n c) n (flat enc (l ++ [x]))) : LiesAt w (some ⟨g, 0, none⟩) (flat enc l) := by
  obtain ⟨a', c', hv, hla, _⟩ := own_formK h
  obtain ⟨rfl, rfl⟩ : some ⟨g, 0, none⟩ = a' ∧ c = c' := by simpa using hv
  exact fun j u hu => hla j u (by rw [flat_app, List.getElem?_append_left (List.getElem?_eq_some_iff.1 hu).1]; exact hu)
theorem row_lies {w : World} {base : Nat} {e : TypeId} {k c n : Nat} {a : Option Addr} {xs : List Value} (h : w.ownsRow base e k (.slice a n c) n xs) : LiesAt w a xs := by
  obtain ⟨a', c', hv, hla, _⟩ := own_formK h
  rw [(Value.slice.inj hv).1]
  exact hla
end Go.Proofs.Ytebeegfgghbdlaa.Bk
