/- CrownTells: what its walk keeps. -/
import Derived.Test.YtpeidckpcjdfgaaCrownRefn
import Derived.Test.YtpeidckpcjdfgaaCrownAlive
import Derived.Deep.RegionWith
import Derived.IntWalk
import Derived.Test.YtpeidckpcjdfgaaTurnB
namespace Go.Proofs.Ytpeidckpcjdfgaa
open Go.RowKit

theorem size_alloc (w : World) (X : Obj) : (w.alloc X).heap.size = w.heap.size + 1 := by simp
theorem cr_get {s : Sup} (h : supOk s = true) : crIs (crB s) = true ∧ cgetS (crB s) = s := by
  obtain ⟨h1, h2⟩ := cr_put h
  exact ⟨h1, by rw [cgetS_yes h1, h2]⟩
theorem run_ne5 (w : World) (q0 h0 e0 f0 g0 : Int) : (binOp .neq 23 (.agg #[.int .i64 q0, .int .i64 h0, .int .i64 e0, .int .i64 f0, .int .i64 g0]) (.agg #[.int .i64 q0, .int .i64 h0, .int .i64 e0, .int .i64 f0, .int .i64 g0])).run Try.prog w = .ok (.bool false) w := by
  go_simp
theorem run_eq5s (w : World) (q0 h0 e0 f0 g0 : Int) : (binOp .eql 23 (.agg #[.int .i64 q0, .int .i64 h0, .int .i64 e0, .int .i64 f0, .int .i64 g0]) (.agg #[.int .i64 q0, .int .i64 h0, .int .i64 e0, .int .i64 f0, .int .i64 g0])).run Try.prog w = .ok (.bool true) w := by
  go_simp
/-- Two texts in a block of their own. -/
structure Pl2 (u : World) (P : Nat) (A B : ByteArray) : Prop where
  lt : P < u.heap.size
  c0 : u.cell? ⟨P, 0, none⟩ = some (.string A)
  c1 : u.cell? ⟨P, 1, none⟩ = some (.string B)
theorem Pl2.below {u u' : World} {P : Nat} {A B : ByteArray} (h : Pl2 u P A B) (b : Below u.heap.size u u') : Pl2 u' P A B :=
  ⟨Nat.lt_of_lt_of_le h.lt b.size, (b.cell (p := ⟨P, 0, none⟩) h.lt).trans h.c0, (b.cell (p := ⟨P, 1, none⟩) h.lt).trans h.c1⟩
theorem Pl2.made (w : World) (A B : ByteArray) (t : TypeId) : Pl2 (w.alloc (.cells #[.string A, .string B] t)) w.heap.size A B := by
  refine ⟨?_, ?_, ?_⟩ <;> simp
theorem bel_alloc {w u : World} (b : Below w.heap.size w u) (X : Obj) : Below w.heap.size w (u.alloc X) := b.alloc b.size _
theorem bel_self (u : World) (X : Obj) : Below u.heap.size u (u.alloc X) := (Below.refl _ _).alloc (Nat.le_refl _) _
/-- Texts that lie in one block. -/
def TextsAt (u : World) (P : Nat) (l : List ByteArray) : Prop := P < u.heap.size ∧ ∀ j v, l[j]? = some v → u.cell? ⟨P, j, none⟩ = some (.string v)
theorem TextsAt.below {u u' : World} {P : Nat} {l : List ByteArray} (h : TextsAt u P l) (b : Below u.heap.size u u') : TextsAt u' P l :=
  ⟨Nat.lt_of_lt_of_le h.1 b.size, fun j v hv => (b.cell (p := ⟨P, j, none⟩) h.1).trans (h.2 j v hv)⟩
theorem TextsAt.made (u : World) (l : List ByteArray) (t : TypeId) : TextsAt (u.alloc (.cells (l.map Value.string).toArray t)) u.heap.size l :=
  ⟨by simp, fun j v hv => by rw [World.cell?_alloc_new]; simp [hv]⟩
theorem small12 {a b s r : ByteArray} (ha : a.size ≤ 100) (hb : b.size ≤ 100) (hs : s.size ≤ 100) (hr : r.size ≤ 100) (j : Nat) (hj : j < 12) : ∃ v, [a, b, b, a, s, b, b, s, r, a, r, s][j]? = some v ∧ v.size ≤ 100 := by
  match j, hj with
  | 0, _ => exact ⟨a, rfl, ha⟩
  | 1, _ => exact ⟨b, rfl, hb⟩
  | 2, _ => exact ⟨b, rfl, hb⟩
  | 3, _ => exact ⟨a, rfl, ha⟩
  | 4, _ => exact ⟨s, rfl, hs⟩
  | 5, _ => exact ⟨b, rfl, hb⟩
  | 6, _ => exact ⟨b, rfl, hb⟩
  | 7, _ => exact ⟨s, rfl, hs⟩
  | 8, _ => exact ⟨r, rfl, hr⟩
  | 9, _ => exact ⟨a, rfl, ha⟩
  | 10, _ => exact ⟨r, rfl, hr⟩
  | 11, _ => exact ⟨s, rfl, hs⟩
theorem by_key {A G : Prop} (h : A → G) (a : A) : G := h a
theorem wrap_k (K : Nat) (h : (K : Int) < 32) : IntKind.i64.wrap ((K : Int) + 1) = (K : Int) + 1 ∧ wrap64 ((K : Int) + 1) = (K : Int) + 1 := ⟨IntWalk.i64_in _ (by omega), by unfold wrap64; omega⟩
theorem cut_to (s : ByteArray) (hi : Int) (j : Nat) (h1 : hi = j) (h3 : j ≤ s.size) (u : World) :
    (Instr.slice 9 (.string s) none (some (.int .i64 hi)) none).run Try.prog u = .ok (.string (s.extract 0 j)) u := by
  subst h1
  have hu : Try.prog.underlying 9 = some .string := Try.underlying9
  simp [Instr.slice, run_underlying hu, h3, go_sem]
theorem cut_from (s : ByteArray) (lo : Int) (i : Nat) (h0 : lo = i) (h2 : i ≤ s.size) (u : World) :
    (Instr.slice 9 (.string s) (some (.int .i64 lo)) none none).run Try.prog u = .ok (.string (s.extract i s.size)) u := by
  subst h0
  have hu : Try.prog.underlying 9 = some .string := Try.underlying9
  simp [Instr.slice, run_underlying hu, h2, go_sem]
theorem empty_no : crIs ByteArray.empty = false := decide_eq_false (fun q => absurd q.1 (by decide))
/-- Two boxed crowns, as they are kept through calls. -/
theorem keep10 {w u u' : World} {g : Nat} {a0 a1 a2 a3 a4 b0 b1 b2 b3 b4 : Value} (h : u.cell? ⟨g, 0, none⟩ = some a0 ∧ u.cell? ⟨g, 1, none⟩ = some a1 ∧ u.cell? ⟨g, 2, none⟩ = some a2 ∧ u.cell? ⟨g, 3, none⟩ = some a3 ∧ u.cell? ⟨g, 4, none⟩ = some a4 ∧ u.cell? ⟨g + 1, 0, none⟩ = some b0 ∧ u.cell? ⟨g + 1, 1, none⟩ = some b1 ∧ u.cell? ⟨g + 1, 2, none⟩ = some b2 ∧ u.cell? ⟨g + 1, 3, none⟩ = some b3 ∧ u.cell? ⟨g + 1, 4, none⟩ = some b4 ∧ g + 1 < u.heap.size ∧ Below g w u) (b : Below u.heap.size u u') :
    u'.cell? ⟨g, 0, none⟩ = some a0 ∧ u'.cell? ⟨g, 1, none⟩ = some a1 ∧ u'.cell? ⟨g, 2, none⟩ = some a2 ∧ u'.cell? ⟨g, 3, none⟩ = some a3 ∧ u'.cell? ⟨g, 4, none⟩ = some a4 ∧ u'.cell? ⟨g + 1, 0, none⟩ = some b0 ∧ u'.cell? ⟨g + 1, 1, none⟩ = some b1 ∧ u'.cell? ⟨g + 1, 2, none⟩ = some b2 ∧ u'.cell? ⟨g + 1, 3, none⟩ = some b3 ∧ u'.cell? ⟨g + 1, 4, none⟩ = some b4 ∧ g + 1 < u'.heap.size ∧ Below g w u' := by
  obtain ⟨h0, h1, h2, h3, h4, k0, k1, k2, k3, k4, h5, h6⟩ := h
  have c : ∀ o, u'.cell? ⟨g, o, none⟩ = u.cell? ⟨g, o, none⟩ := fun o => b.cell (p := ⟨g, o, none⟩) (show g < u.heap.size by omega)
  have d : ∀ o, u'.cell? ⟨g + 1, o, none⟩ = u.cell? ⟨g + 1, o, none⟩ := fun o => b.cell (p := ⟨g + 1, o, none⟩) h5
  exact ⟨(c 0).trans h0, (c 1).trans h1, (c 2).trans h2, (c 3).trans h3, (c 4).trans h4, (d 0).trans k0, (d 1).trans k1, (d 2).trans k2, (d 3).trans k3, (d 4).trans k4, Nat.lt_of_lt_of_le h5 b.size, h6.trans (b.mono (by omega))⟩
theorem rows10 {w u : World} {g : Nat} {a0 a1 a2 a3 a4 b0 b1 b2 b3 b4 : Value} (h : Row5 u g a0 a1 a2 a3 a4) (k : Row5 u (g + 1) b0 b1 b2 b3 b4) (b : Below g w u) :
    u.cell? ⟨g, 0, none⟩ = some a0 ∧ u.cell? ⟨g, 1, none⟩ = some a1 ∧ u.cell? ⟨g, 2, none⟩ = some a2 ∧ u.cell? ⟨g, 3, none⟩ = some a3 ∧ u.cell? ⟨g, 4, none⟩ = some a4 ∧ u.cell? ⟨g + 1, 0, none⟩ = some b0 ∧ u.cell? ⟨g + 1, 1, none⟩ = some b1 ∧ u.cell? ⟨g + 1, 2, none⟩ = some b2 ∧ u.cell? ⟨g + 1, 3, none⟩ = some b3 ∧ u.cell? ⟨g + 1, 4, none⟩ = some b4 ∧ g + 1 < u.heap.size ∧ Below g w u :=
  ⟨h.c0, h.c1, h.c2, h.c3, h.c4, k.c0, k.c1, k.c2, k.c3, k.c4, k.lt, b⟩
end Go.Proofs.Ytpeidckpcjdfgaa
