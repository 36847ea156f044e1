/- The book: lists of structs: what is asked at the end. -/
import Derived.Test.YtebeegfgghbdlaaBookWGrow
namespace Go.Proofs.Ytebeegfgghbdlaa.Bk
open Go.RowKit

theorem own_liesChanges {w : World} {base : Nat} {x : CL} {xs : List Value} (h : w.ownsRow base 56 2 x.cell x.l.length xs) : LiesAt w x.a xs := by
  obtain ⟨a', c', hv, hl, _⟩ := own_formK h
  have : x.a = a' ∧ x.c = c' := by simpa [CL.cell] using hv
  rw [this.1]
  exact hl
theorem KeepChanges.both {w : World} {base p : Nat} {L M : List CL} (h : KeepChanges w base p L M) : ∃ ao am co cm, BothChanges w p L M ao am co cm := by
  obtain ⟨vO, vM, c0, c1, o0, o1, _⟩ := h.ex
  obtain ⟨ao, co, rfl, l0, _⟩ := own_formK o0
  obtain ⟨am, cm, rfl, l1, _⟩ := own_formK o1
  have hsm : ∀ y ∈ M, y.l.length ≤ 1000 := fun y hy => by
    obtain ⟨i, hi, rfl⟩ := List.getElem_of_mem hy
    have hiL : i < L.length := by rw [h.len]; exact hi
    have := h.same i L[i] M[i] (List.getElem?_eq_getElem hiL) (List.getElem?_eq_getElem hi)
    rw [← this]
    exact h.small _ (List.getElem_mem hiL)
  exact ⟨ao, am, co, cm, c0, c1, ⟨l0, fun x hx => own_liesChanges (h.each x hx), fun x hx => by have := h.small x hx; omega⟩, ⟨l1, fun x hx => own_liesChanges (h.copy x hx), fun x hx => by have := hsm x hx; omega⟩, h.len, h.same⟩
/-- The book's lists, and those that were told, are marked. -/
structure FinChanges (w : World) (p : Nat) (vo : Value) : Prop where
  field : ∃ ao co, ∃ L : List CL, w.cell? ⟨p, 4, none⟩ = some (.slice ao L.length co) ∧ L.length ≤ 1000 ∧ OutChanges w ao L ∧ MarkedChanges L
  told : ∃ ao co, ∃ L : List CL, vo = .slice ao L.length co ∧ L.length ≤ 1000 ∧ OutChanges w ao L ∧ MarkedChanges L
theorem FinChanges.below {w w' : World} {p : Nat} {vo : Value} (h : FinChanges w p vo) (hp : p < w.heap.size) (b : Below w.heap.size w w') : FinChanges w' p vo := by
  obtain ⟨ao, co, L, h1, h2, h3, h4⟩ := h.field
  obtain ⟨ao', co', L', k1, k2, k3, k4⟩ := h.told
  exact ⟨⟨ao, co, L, (b.cell (p := ⟨p, 4, none⟩) hp).trans h1, h2, h3.below b, h4⟩, ⟨ao', co', L', k1, k2, k3.below b, k4⟩⟩
theorem finChanges {w : World} {base b2 p : Nat} {L Lo : List CL} {C : Nat → List Chg} {vo : Value} (h : HeldChanges w base p L C) (hC : ∀ (k : Nat) (x : CL), L[k]? = some x → C k = marksChanges (k : Int) 0 x.l.length) (hL : L.length ≤ 100) (hlen : Lo.length = L.length)
    (ho : w.ownsRow b2 24 1 vo Lo.length (Lo.map CL.cell)) (hlo : ∀ (i : Nat) (y : CL), Lo[i]? = some y → w.ownsRow base 56 2 y.cell y.l.length (flat Chg.cells y.l) ∧ y.l = marksChanges (i : Int) 0 y.l.length ∧ y.l.length ≤ 2000) : FinChanges w p vo := by
  obtain ⟨ao, co, c0, o0⟩ := h.ex
  obtain ⟨a', c', hv, l0, _⟩ := own_formK o0
  obtain ⟨rfl, rfl⟩ : ao = a' ∧ co = c' := by simpa using hv
  obtain ⟨a2, c2, rfl, l2, _⟩ := own_formK ho
  let Lm : List CL := L.mapIdx fun i x => ⟨x.a, marksChanges (i : Int) 0 x.l.length, x.c⟩
  have hlm : Lm.length = L.length := by simp [Lm]
  have hcell : Lm.map CL.cell = L.map CL.cell := by
    apply List.ext_getElem
    · simp [Lm]
    · intro i h1 h2
      simp [Lm, CL.cell, marksChanges_len]
  have hat : ∀ (i : Nat) (z : CL), Lm[i]? = some z → ∃ x, L[i]? = some x ∧ z = ⟨x.a, marksChanges (i : Int) 0 x.l.length, x.c⟩ := fun i z hz => by
    obtain ⟨hi, rfl⟩ := List.getElem?_eq_some_iff.1 hz
    have hi' : i < L.length := by rw [← hlm]; exact hi
    exact ⟨L[i], List.getElem?_eq_getElem hi', by simp [Lm]⟩
  have hel : ∀ (i n : Nat), (marksChanges (i : Int) 0 n).length = n := fun i n => by
    exact marksChanges_len _ _ _
  refine ⟨⟨ao, co, Lm, by rw [hlm]; exact c0, by omega, ⟨by rw [hcell]; exact l0, fun z hz => ?_, fun z hz => ?_⟩, fun i z hz => ?_⟩, ⟨a2, c2, Lo, rfl, by omega, ⟨l2, fun y hy => ?_, fun y hy => ?_⟩, fun i y hy => (hlo i y hy).2.1⟩⟩
  · obtain ⟨i, hi⟩ := List.getElem?_of_mem hz
    obtain ⟨x, hx, rfl⟩ := hat i z hi
    have := own_liesChanges (h.each i x hx)
    rw [hC i x hx] at this
    exact this
  · obtain ⟨i, hi⟩ := List.getElem?_of_mem hz
    obtain ⟨x, hx, rfl⟩ := hat i z hi
    show (marksChanges (i : Int) 0 x.l.length).length < _
    rw [hel]
    have := h.small x (List.mem_of_getElem? hx)
    omega
  · obtain ⟨x, hx, rfl⟩ := hat i z hz
    show marksChanges (i : Int) 0 x.l.length = marksChanges (i : Int) 0 (marksChanges (i : Int) 0 x.l.length).length
    rw [hel]
  · obtain ⟨i, hi⟩ := List.getElem?_of_mem hy
    exact own_liesChanges (hlo i y hi).1
  · obtain ⟨i, hi⟩ := List.getElem?_of_mem hy
    have := (hlo i y hi).2.2
    omega
theorem own_liesEntries {w : World} {base : Nat} {x : EL} {xs : List Value} (h : w.ownsRow base 23 5 x.cell x.l.length xs) : LiesAt w x.a xs := by
  obtain ⟨a', c', hv, hl, _⟩ := own_formK h
  have : x.a = a' ∧ x.c = c' := by simpa [EL.cell] using hv
  rw [this.1]
  exact hl
theorem KeepEntries.both {w : World} {base p : Nat} {L M : List EL} (h : KeepEntries w base p L M) : ∃ ao am co cm, BothEntries w p L M ao am co cm := by
  obtain ⟨vO, vM, c0, c1, o0, o1, _⟩ := h.ex
  obtain ⟨ao, co, rfl, l0, _⟩ := own_formK o0
  obtain ⟨am, cm, rfl, l1, _⟩ := own_formK o1
  have hsm : ∀ y ∈ M, y.l.length ≤ 1000 := fun y hy => by
    obtain ⟨i, hi, rfl⟩ := List.getElem_of_mem hy
    have hiL : i < L.length := by rw [h.len]; exact hi
    have := h.same i L[i] M[i] (List.getElem?_eq_getElem hiL) (List.getElem?_eq_getElem hi)
    rw [← this]
    exact h.small _ (List.getElem_mem hiL)
  exact ⟨ao, am, co, cm, c0, c1, ⟨l0, fun x hx => own_liesEntries (h.each x hx), fun x hx => by have := h.small x hx; omega⟩, ⟨l1, fun x hx => own_liesEntries (h.copy x hx), fun x hx => by have := hsm x hx; omega⟩, h.len, h.same⟩
/-- The book's lists, and those that were told, are marked. -/
structure FinEntries (w : World) (p : Nat) (vo : Value) : Prop where
  field : ∃ ao co, ∃ L : List EL, w.cell? ⟨p, 6, none⟩ = some (.slice ao L.length co) ∧ L.length ≤ 1000 ∧ OutEntries w ao L ∧ MarkedEntries L
  told : ∃ ao co, ∃ L : List EL, vo = .slice ao L.length co ∧ L.length ≤ 1000 ∧ OutEntries w ao L ∧ MarkedEntries L
theorem FinEntries.below {w w' : World} {p : Nat} {vo : Value} (h : FinEntries w p vo) (hp : p < w.heap.size) (b : Below w.heap.size w w') : FinEntries w' p vo := by
  obtain ⟨ao, co, L, h1, h2, h3, h4⟩ := h.field
  obtain ⟨ao', co', L', k1, k2, k3, k4⟩ := h.told
  exact ⟨⟨ao, co, L, (b.cell (p := ⟨p, 6, none⟩) hp).trans h1, h2, h3.below b, h4⟩, ⟨ao', co', L', k1, k2, k3.below b, k4⟩⟩
theorem finEntries {w : World} {base b2 p : Nat} {L Lo : List EL} {C : Nat → List Ent} {vo : Value} (h : HeldEntries w base p L C) (hC : ∀ (k : Nat) (x : EL), L[k]? = some x → C k = marksEntries (k : Int) 0 x.l.length) (hL : L.length ≤ 100) (hlen : Lo.length = L.length)
    (ho : w.ownsRow b2 25 1 vo Lo.length (Lo.map EL.cell)) (hlo : ∀ (i : Nat) (y : EL), Lo[i]? = some y → w.ownsRow base 23 5 y.cell y.l.length (flat Ent.cells y.l) ∧ y.l = marksEntries (i : Int) 0 y.l.length ∧ y.l.length ≤ 2000) : FinEntries w p vo := by
  obtain ⟨ao, co, c0, o0⟩ := h.ex
  obtain ⟨a', c', hv, l0, _⟩ := own_formK o0
  obtain ⟨rfl, rfl⟩ : ao = a' ∧ co = c' := by simpa using hv
  obtain ⟨a2, c2, rfl, l2, _⟩ := own_formK ho
  let Lm : List EL := L.mapIdx fun i x => ⟨x.a, marksEntries (i : Int) 0 x.l.length, x.c⟩
  have hlm : Lm.length = L.length := by simp [Lm]
  have hcell : Lm.map EL.cell = L.map EL.cell := by
    apply List.ext_getElem
    · simp [Lm]
    · intro i h1 h2
      simp [Lm, EL.cell, marksEntries_len]
  have hat : ∀ (i : Nat) (z : EL), Lm[i]? = some z → ∃ x, L[i]? = some x ∧ z = ⟨x.a, marksEntries (i : Int) 0 x.l.length, x.c⟩ := fun i z hz => by
    obtain ⟨hi, rfl⟩ := List.getElem?_eq_some_iff.1 hz
    have hi' : i < L.length := by rw [← hlm]; exact hi
    exact ⟨L[i], List.getElem?_eq_getElem hi', by simp [Lm]⟩
  have hel : ∀ (i n : Nat), (marksEntries (i : Int) 0 n).length = n := fun i n => by
    exact marksEntries_len _ _ _
  refine ⟨⟨ao, co, Lm, by rw [hlm]; exact c0, by omega, ⟨by rw [hcell]; exact l0, fun z hz => ?_, fun z hz => ?_⟩, fun i z hz => ?_⟩, ⟨a2, c2, Lo, rfl, by omega, ⟨l2, fun y hy => ?_, fun y hy => ?_⟩, fun i y hy => (hlo i y hy).2.1⟩⟩
  · obtain ⟨i, hi⟩ := List.getElem?_of_mem hz
    obtain ⟨x, hx, rfl⟩ := hat i z hi
    have := own_liesEntries (h.each i x hx)
    rw [hC i x hx] at this
    exact this
  · obtain ⟨i, hi⟩ := List.getElem?_of_mem hz
    obtain ⟨x, hx, rfl⟩ := hat i z hi
    show (marksEntries (i : Int) 0 x.l.length).length < _
    rw [hel]
    have := h.small x (List.mem_of_getElem? hx)
    omega
  · obtain ⟨x, hx, rfl⟩ := hat i z hz
    show marksEntries (i : Int) 0 x.l.length = marksEntries (i : Int) 0 (marksEntries (i : Int) 0 x.l.length).length
    rw [hel]
  · obtain ⟨i, hi⟩ := List.getElem?_of_mem hy
    exact own_liesEntries (hlo i y hi).1
  · obtain ⟨i, hi⟩ := List.getElem?_of_mem hy
    have := (hlo i y hi).2.2
    omega
end Go.Proofs.Ytebeegfgghbdlaa.Bk
