/- CrownLine's walk: the line itself. -/
import Derived.Test.YtcpgbjbngjiecaaCrownLine
import Derived.Test.YtcpgbjbngjiecaaCrownTorn
namespace Go.Proofs.Ytcpgbjbngjiecaa
open Go.RowKit

def Sup.at_ (s : Sup) (k : Nat) : Sup := ⟨s.q + k, s.h, s.e, s.f, s.g⟩
theorem at_ok {s : Sup} (h : supOk s = true) (hq : s.q ≤ 1000000) (k : Nat) (hk : k ≤ 60) : supOk (s.at_ k) = true := by
  obtain ⟨⟨q0, q1⟩, ⟨h0, h1⟩, ⟨e0, e1⟩, ⟨f0, f1⟩, ⟨g0, g1⟩⟩ := sup_of h
  rw [supOk_is]
  have a1 : within (s.at_ k).q 0 900000000 = true := decide_eq_true (show 0 ≤ s.q + (k : Int) ∧ s.q + (k : Int) ≤ 900000000 by omega)
  have a2 : within (s.at_ k).h 0 900000000 = true := decide_eq_true (show 0 ≤ s.h ∧ s.h ≤ 900000000 by omega)
  have a3 : within (s.at_ k).e 0 900000000 = true := decide_eq_true (show 0 ≤ s.e ∧ s.e ≤ 900000000 by omega)
  have a4 : within (s.at_ k).f 8 400 = true := decide_eq_true (show 8 ≤ s.f ∧ s.f ≤ 400 by omega)
  have a5 : within (s.at_ k).g 4 300 = true := decide_eq_true (show 4 ≤ s.g ∧ s.g ≤ 300 by omega)
  rw [a1, a2, a3, a4, a5]
  rfl
/-- What a place may hold: no crown, or one of the line so far. -/
def Fit (s : Sup) (k : Nat) (X : ByteArray) : Prop := X.size ≤ 100 ∧ (crIs X = false ∨ ∃ j, j < k ∧ X = crB (s.at_ j))
theorem Fit.up {s : Sup} {k : Nat} {X : ByteArray} (h : Fit s k X) : Fit s (k + 1) X := ⟨h.1, h.2.imp id fun ⟨j, hj, e⟩ => ⟨j, by omega, e⟩⟩
theorem Fit.new (s : Sup) (k : Nat) : Fit s (k + 1) (crB (s.at_ k)) := ⟨by rw [crB_size]; omega, .inr ⟨k, by omega, rfl⟩⟩
theorem fit_empty (s : Sup) : Fit s 0 ByteArray.empty := ⟨Nat.zero_le _, .inl (decide_eq_false (fun q => absurd q.1 (by decide)))⟩
theorem cr_get {s : Sup} (h : supOk s = true) : crIs (crB s) = true ∧ cgetS (crB s) = s := by
  obtain ⟨h1, h2⟩ := cr_put h
  exact ⟨h1, by rw [cgetS_yes h1, h2]⟩
theorem new_a {s : Sup} (h : supOk s = true) (hq : s.q ≤ 1000000) {k : Nat} (hk : k ≤ 60) {Y : ByteArray} (hY : Fit s k Y) :
    newS (crB (s.at_ k)) Y = s.at_ k ∧ newN (crB (s.at_ k)) Y = 0 ∧ (crIs (crB (s.at_ k)) || crIs Y) = true := by
  obtain ⟨h1, h2⟩ := cr_get (at_ok h hq k hk)
  have hf : nwF (crIs (crB (s.at_ k))) (crIs Y) (cgetS (crB (s.at_ k))) (cgetS Y) = true := by
    unfold nwF
    rw [h1, h2]
    rcases hY.2 with q | ⟨j, hj, rfl⟩
    · rw [q]; rfl
    · obtain ⟨h3, h4⟩ := cr_get (at_ok h hq j (by omega))
      rw [h3, h4]
      have : (s.at_ j).q ≤ (s.at_ k).q := show s.q + (j : Int) ≤ s.q + (k : Int) by omega
      simp [this]
  refine ⟨?_, ?_, ?_⟩
  · rw [newS, nwS, if_pos hf, h2]
  · rw [newN, nwN, if_pos hf]
  · rw [h1]; rfl
theorem new_b {s : Sup} (h : supOk s = true) (hq : s.q ≤ 1000000) {k : Nat} (hk : k ≤ 60) {Y : ByteArray} (hY : Fit s k Y) :
    newS Y (crB (s.at_ k)) = s.at_ k ∧ newN Y (crB (s.at_ k)) = 1 ∧ (crIs Y || crIs (crB (s.at_ k))) = true := by
  obtain ⟨h1, h2⟩ := cr_get (at_ok h hq k hk)
  have hf : nwF (crIs Y) (crIs (crB (s.at_ k))) (cgetS Y) (cgetS (crB (s.at_ k))) = false := by
    unfold nwF
    rw [h1, h2]
    rcases hY.2 with q | ⟨j, hj, rfl⟩
    · rw [q]; rfl
    · obtain ⟨h3, h4⟩ := cr_get (at_ok h hq j (by omega))
      rw [h3, h4]
      have : ¬ (s.at_ k).q ≤ (s.at_ j).q := show ¬ s.q + (k : Int) ≤ s.q + (j : Int) by omega
      simp [this]
  refine ⟨?_, ?_, ?_⟩
  · rw [newS, nwS, if_neg (by rw [hf]; decide), h2]
  · rw [newN, nwN, if_neg (by rw [hf]; decide), if_pos h1]
  · rw [h1]; simp
theorem and1 (x : Int) (h0 : 0 ≤ x) (h1 : x < 4294967296) : bits BinOp.and IntKind.i64 x 1 = x % 2 := by
  obtain ⟨X, rfl⟩ := Int.eq_ofNat_of_zero_le h0
  show IntKind.i64.wrap ((BitVec.ofInt 64 (X : Int) &&& BitVec.ofInt 64 ((1 : Nat) : Int)).toNat : Int) = _
  rw [BitVec.toNat_and, ofInt_u64 _ (by omega), ofInt_u64 _ (by omega), Nat.and_one_is_mod, IntKind.wrap_i64]
  omega
/-- Two texts in a block of their own. -/
structure Pl2 (u : World) (P : Nat) (A B : ByteArray) : Prop where
  lt : P < u.heap.size
  c0 : u.cell? ⟨P, 0, none⟩ = some (.string A)
  c1 : u.cell? ⟨P, 1, none⟩ = some (.string B)
  f0 : u.frozen? ⟨P, 0, none⟩ = false
  f1 : u.frozen? ⟨P, 1, none⟩ = false
theorem Pl2.below {u u' : World} {P : Nat} {A B : ByteArray} (h : Pl2 u P A B) (b : Below u.heap.size u u') : Pl2 u' P A B :=
  ⟨Nat.lt_of_lt_of_le h.lt b.size, (b.cell (p := ⟨P, 0, none⟩) h.lt).trans h.c0, (b.cell (p := ⟨P, 1, none⟩) h.lt).trans h.c1, (b.frozen (p := ⟨P, 0, none⟩) h.lt).trans h.f0, (b.frozen (p := ⟨P, 1, none⟩) h.lt).trans h.f1⟩
theorem Pl2.made (w : World) (A B : ByteArray) (t : TypeId) : Pl2 (w.alloc (.cells #[.string A, .string B] t)) w.heap.size A B := by
  refine ⟨?_, ?_, ?_, ?_, ?_⟩ <;> simp
theorem Pl2.alloc' {u : World} {P : Nat} {A B : ByteArray} (h : Pl2 u P A B) (X : Obj) : Pl2 (u.alloc X) P A B := h.below ((Below.refl _ _).alloc (Nat.le_refl _) _)
theorem bel_alloc {w u : World} (b : Below w.heap.size w u) (X : Obj) : Below w.heap.size w (u.alloc X) := b.alloc b.size _
theorem Row5.off {u : World} {g : Nat} {v0 v1 v2 v3 v4 : Value} (h : Row5 u g v0 v1 v2 v3 v4) {a : Addr} {v : Value} (hne : ¬ a.block = g) : Row5 (u.setCell a v) g v0 v1 v2 v3 v4 := by
  have o : ∀ o, (u.setCell a v).cell? ⟨g, o, none⟩ = u.cell? ⟨g, o, none⟩ := fun o => World.cell?_setCell_other _ _ _ _ (fun e => hne (by rw [e]))
  have f : ∀ o, (u.setCell a v).frozen? ⟨g, o, none⟩ = u.frozen? ⟨g, o, none⟩ := fun o => by rw [World.frozen?_setCell]
  exact ⟨by simpa using h.lt, (o 0).trans h.c0, (o 1).trans h.c1, (o 2).trans h.c2, (o 3).trans h.c3, (o 4).trans h.c4, (f 0).trans h.f0, (f 1).trans h.f1, (f 2).trans h.f2, (f 3).trans h.f3, (f 4).trans h.f4⟩
theorem Pl2.set0 {u : World} {P : Nat} {A B : ByteArray} (h : Pl2 u P A B) (X : ByteArray) : Pl2 (u.setCell ⟨P, 0, none⟩ (.string X)) P X B := by
  obtain ⟨l, c0, c1, f0, f1⟩ := h
  exact ⟨by simpa using l, World.cell?_setCell_same _ _ _ c0, (World.cell?_setCell_other _ _ _ _ (by simp)).trans c1, by rw [World.frozen?_setCell]; exact f0, by rw [World.frozen?_setCell]; exact f1⟩
theorem Pl2.set1 {u : World} {P : Nat} {A B : ByteArray} (h : Pl2 u P A B) (X : ByteArray) : Pl2 (u.setCell ⟨P, 1, none⟩ (.string X)) P A X := by
  obtain ⟨l, c0, c1, f0, f1⟩ := h
  exact ⟨by simpa using l, (World.cell?_setCell_other _ _ _ _ (by simp)).trans c0, World.cell?_setCell_same _ _ _ c1, by rw [World.frozen?_setCell]; exact f0, by rw [World.frozen?_setCell]; exact f1⟩
end Go.Proofs.Ytcpgbjbngjiecaa
