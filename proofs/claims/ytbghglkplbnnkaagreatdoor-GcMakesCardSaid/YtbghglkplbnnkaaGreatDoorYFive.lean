import Derived.Deep.RegionHeld3
import Derived.Test.YtbghglkplbnnkaaGreatDoorYSeal
set_option linter.unusedVariables false
set_option linter.unusedSimpArgs false
namespace Go.Proofs.YtbghglkplbnnkaaGreatDoor
open Go.RowKit

theorem below_next {w w1 w2 : World} (h1 : Below w.heap.size w w1) (h2 : Below w1.heap.size w1 w2) : Below w.heap.size w w2 := h1.trans (h2.mono h1.size)
theorem rt_b {a b : Bool} (h : a = b) : Ending.returned (.bool a) = .returned (.bool b) := by rw [h]
theorem keep5 {w u u' : World} {v0 v1 v2 v3 v4 : Value} (h : u.cell? ⟨w.heap.size, 0, none⟩ = some v0 ∧ u.cell? ⟨w.heap.size, 1, none⟩ = some v1 ∧ u.cell? ⟨w.heap.size, 2, none⟩ = some v2 ∧ u.cell? ⟨w.heap.size, 3, none⟩ = some v3 ∧ u.cell? ⟨w.heap.size, 4, none⟩ = some v4 ∧ w.heap.size < u.heap.size ∧ Below w.heap.size w u) (b : Below u.heap.size u u') :
    u'.cell? ⟨w.heap.size, 0, none⟩ = some v0 ∧ u'.cell? ⟨w.heap.size, 1, none⟩ = some v1 ∧ u'.cell? ⟨w.heap.size, 2, none⟩ = some v2 ∧ u'.cell? ⟨w.heap.size, 3, none⟩ = some v3 ∧ u'.cell? ⟨w.heap.size, 4, none⟩ = some v4 ∧ w.heap.size < u'.heap.size ∧ Below w.heap.size w u' := by
  obtain ⟨h0, h1, h2, h3, h4, h5, h6⟩ := h
  exact ⟨(b.cell (p := ⟨w.heap.size, 0, none⟩) h5).trans h0, (b.cell (p := ⟨w.heap.size, 1, none⟩) h5).trans h1, (b.cell (p := ⟨w.heap.size, 2, none⟩) h5).trans h2, (b.cell (p := ⟨w.heap.size, 3, none⟩) h5).trans h3, (b.cell (p := ⟨w.heap.size, 4, none⟩) h5).trans h4,
    Nat.lt_of_lt_of_le h5 b.size, below_next h6 b⟩
theorem box5 (w : World) (v0 v1 v2 v3 v4 : Value) (t : TypeId) : (w.alloc (.cells #[v0, v1, v2, v3, v4] t)).cell? ⟨w.heap.size, 0, none⟩ = some v0 ∧ (w.alloc (.cells #[v0, v1, v2, v3, v4] t)).cell? ⟨w.heap.size, 1, none⟩ = some v1 ∧ (w.alloc (.cells #[v0, v1, v2, v3, v4] t)).cell? ⟨w.heap.size, 2, none⟩ = some v2 ∧ (w.alloc (.cells #[v0, v1, v2, v3, v4] t)).cell? ⟨w.heap.size, 3, none⟩ = some v3 ∧ (w.alloc (.cells #[v0, v1, v2, v3, v4] t)).cell? ⟨w.heap.size, 4, none⟩ = some v4 ∧ w.heap.size < (w.alloc (.cells #[v0, v1, v2, v3, v4] t)).heap.size ∧ Below w.heap.size w (w.alloc (.cells #[v0, v1, v2, v3, v4] t)) := by
  refine ⟨?_, ?_, ?_, ?_, ?_, by simp, (Below.refl _ _).alloc (Nat.le_refl _) _⟩ <;> simp

theorem bcell {W w1 : World} (hb : Below W.heap.size W w1) : (∀ b o, b < W.heap.size → w1.cell? ⟨b, o, none⟩ = W.cell? ⟨b, o, none⟩) ∧ (∀ b o, b < W.heap.size → w1.frozen? ⟨b, o, none⟩ = W.frozen? ⟨b, o, none⟩) :=
  ⟨fun b o h => hb.cell (p := ⟨b, o, none⟩) h, fun b o h => hb.frozen (p := ⟨b, o, none⟩) h⟩
theorem set_same {w : World} {a : Addr} {x : Value} (h : (w.cell? a).isSome = true) : (w.setCell a x).cell? a = some x := by
  obtain ⟨v, hv⟩ := Option.isSome_iff_exists.1 h
  exact World.cell?_setCell_same _ _ _ hv
structure Row5 (u : World) (g : Nat) (v0 v1 v2 v3 v4 : Value) : Prop where
  lt : g < u.heap.size
  c0 : u.cell? ⟨g, 0, none⟩ = some v0
  c1 : u.cell? ⟨g, 1, none⟩ = some v1
  c2 : u.cell? ⟨g, 2, none⟩ = some v2
  c3 : u.cell? ⟨g, 3, none⟩ = some v3
  c4 : u.cell? ⟨g, 4, none⟩ = some v4
  f0 : u.frozen? ⟨g, 0, none⟩ = false
  f1 : u.frozen? ⟨g, 1, none⟩ = false
  f2 : u.frozen? ⟨g, 2, none⟩ = false
  f3 : u.frozen? ⟨g, 3, none⟩ = false
  f4 : u.frozen? ⟨g, 4, none⟩ = false
theorem Row5.below {u u' : World} {g : Nat} {v0 v1 v2 v3 v4 : Value} (h : Row5 u g v0 v1 v2 v3 v4) (b : Below u.heap.size u u') : Row5 u' g v0 v1 v2 v3 v4 :=
  have c : ∀ o, u'.cell? ⟨g, o, none⟩ = u.cell? ⟨g, o, none⟩ := fun o => b.cell (p := ⟨g, o, none⟩) h.lt
  have f : ∀ o, u'.frozen? ⟨g, o, none⟩ = u.frozen? ⟨g, o, none⟩ := fun o => b.frozen (p := ⟨g, o, none⟩) h.lt
  ⟨Nat.lt_of_lt_of_le h.lt b.size, (c 0).trans h.c0, (c 1).trans h.c1, (c 2).trans h.c2, (c 3).trans h.c3, (c 4).trans h.c4, (f 0).trans h.f0, (f 1).trans h.f1, (f 2).trans h.f2, (f 3).trans h.f3, (f 4).trans h.f4⟩
theorem Row5.made (w : World) (v0 v1 v2 v3 v4 : Value) (t : TypeId) : Row5 (w.alloc (.cells #[v0, v1, v2, v3, v4] t)) w.heap.size v0 v1 v2 v3 v4 := by
  refine ⟨?_, ?_, ?_, ?_, ?_, ?_, ?_, ?_, ?_, ?_, ?_⟩ <;> simp
theorem Row5.laid {w u : World} {v0 v1 v2 v3 v4 : Value} {t : TypeId} (b : Below (w.alloc (.cells #[v0, v1, v2, v3, v4] t)).heap.size (w.alloc (.cells #[v0, v1, v2, v3, v4] t)) u) : Row5 u w.heap.size v0 v1 v2 v3 v4 ∧ Below w.heap.size w u :=
  ⟨(Row5.made w v0 v1 v2 v3 v4 t).below b, ((Below.refl _ _).alloc (Nat.le_refl _) _).trans (b.mono (by simp))⟩
theorem Row5.kept {w u : World} {v0 v1 v2 v3 v4 : Value} (b : Below w.heap.size w u) : Below w.heap.size w (((((u.setCell ⟨w.heap.size, 0, none⟩ v0).setCell ⟨w.heap.size, 1, none⟩ v1).setCell ⟨w.heap.size, 2, none⟩ v2).setCell ⟨w.heap.size, 3, none⟩ v3).setCell ⟨w.heap.size, 4, none⟩ v4) :=
  ((((b.setCell (p := ⟨w.heap.size, 0, none⟩) (Nat.le_refl _) _).setCell (p := ⟨w.heap.size, 1, none⟩) (Nat.le_refl _) _).setCell (p := ⟨w.heap.size, 2, none⟩) (Nat.le_refl _) _).setCell (p := ⟨w.heap.size, 3, none⟩) (Nat.le_refl _) _).setCell (p := ⟨w.heap.size, 4, none⟩) (Nat.le_refl _) _
theorem Row5.alloc {u : World} {g : Nat} {v0 v1 v2 v3 v4 : Value} (h : Row5 u g v0 v1 v2 v3 v4) (X : Obj) : Row5 (u.alloc X) g v0 v1 v2 v3 v4 :=
  h.below ((Below.refl _ _).alloc (Nat.le_refl _) _)
theorem Row5.set5 {u : World} {g : Nat} {z0 z1 z2 z3 z4 : Value} (h : Row5 u g z0 z1 z2 z3 z4) (v0 v1 v2 v3 v4 : Value) :
    Row5 (((((u.setCell ⟨g, 0, none⟩ v0).setCell ⟨g, 1, none⟩ v1).setCell ⟨g, 2, none⟩ v2).setCell ⟨g, 3, none⟩ v3).setCell ⟨g, 4, none⟩ v4) g v0 v1 v2 v3 v4 := by
  obtain ⟨l0, c0, c1, c2, c3, c4, f0, f1, f2, f3, f4⟩ := h
  refine ⟨?_, ?_, ?_, ?_, ?_, ?_, ?_, ?_, ?_, ?_, ?_⟩ <;> (first | exact (by simpa using l0) | (simp only [World.frozen?_setCell]; assumption) | simp [go_sem, set_same, c0, c1, c2, c3, c4])
theorem results_cell1 {fn : Func} {t : Tmp} {T : TypeId} (h : fn.results = #[.cell t T]) {tmps : Array Value} {P : Program} {w : World} {a : Addr} {x : Value} (ht : tmps.getD t undef = .pointer (some a)) (hl : (loadVar T a).run P w = .ok x w) :
    (results fn tmps).run P w = .ok x w := by
  have ht' : tmps[t]?.getD undef = .pointer (some a) := by simpa using ht
  simp [results, h, ht', hl, asAddr]
theorem results_cell2 {fn : Func} {t u : Tmp} {T : TypeId} (h : fn.results = #[.cell t T, .tmp u]) {tmps : Array Value} {P : Program} {w : World} {a : Addr} {x y : Value} (ht : tmps.getD t undef = .pointer (some a)) (hl : (loadVar T a).run P w = .ok x w) (hu : tmps.getD u undef = y) :
    (results fn tmps).run P w = .ok (.tuple #[x, y]) w := by
  have ht' : tmps[t]?.getD undef = .pointer (some a) := by simpa using ht
  have hu' : tmps[u]?.getD undef = y := by simpa using hu
  simp [results, h, ht', hu', hl, asAddr]
theorem results_cell3 {fn : Func} {t u v : Tmp} {T : TypeId} (h : fn.results = #[.cell t T, .tmp u, .tmp v]) {tmps : Array Value} {P : Program} {w : World} {a : Addr} {x y z : Value} (ht : tmps.getD t undef = .pointer (some a)) (hl : (loadVar T a).run P w = .ok x w) (hu : tmps.getD u undef = y) (hv : tmps.getD v undef = z) :
    (results fn tmps).run P w = .ok (.tuple #[x, y, z]) w := by
  have ht' : tmps[t]?.getD undef = .pointer (some a) := by simpa using ht
  have hu' : tmps[u]?.getD undef = y := by simpa using hu
  have hv' : tmps[v]?.getD undef = z := by simpa using hv
  simp [results, h, ht', hu', hv', hl, asAddr]
theorem cut_str (s : ByteArray) (lo hi : Int) (i j : Nat) (h0 : lo = i) (h1 : hi = j) (h2 : i ≤ j) (h3 : j ≤ s.size) (u : World) :
    (Instr.slice 9 (.string s) (some (.int .i64 lo)) (some (.int .i64 hi)) none).run Tryz.prog u = .ok (.string (s.extract i j)) u := by
  subst h0 h1
  have hu : Tryz.prog.underlying 9 = some .string := Tryz.underlying9
  simp [Instr.slice, run_underlying hu, h2, h3, go_sem]

theorem str_inj {a b : ByteArray} : a.toList = b.toList ↔ a = b := by
  rw [ByteArray.toList_eq, ByteArray.toList_eq]
  exact ⟨ba_ext, fun h => by rw [h]⟩
theorem str_eqB {a b : ByteArray} {c : Bool} (h : decide (a = b) = c) : (a.toList == b.toList) = c := by
  rw [← h, Bool.eq_iff_iff, beq_iff_eq, str_inj, decide_eq_true_eq]

theorem size_alloc (w : World) (X : Obj) : (w.alloc X).heap.size = w.heap.size + 1 := by simp
end Go.Proofs.YtbghglkplbnnkaaGreatDoor
