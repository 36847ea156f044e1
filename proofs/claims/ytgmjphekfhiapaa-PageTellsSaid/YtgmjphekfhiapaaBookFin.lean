/- The book: what is asked at the end. -/
import Derived.Test.YtgmjphekfhiapaaBookGrowW
import Derived.Test.YtgmjphekfhiapaaBookNil
namespace Go.Proofs.Ytgmjphekfhiapaa.Bk
open Go.RowKit

theorem own_liesTexts {w : World} {base : Nat} {x : TL} {xs : List Value} (h : w.ownsRow base 9 1 x.cell x.l.length xs) : LiesAt w x.a xs := by
  obtain ⟨a', c', hv, hl, _⟩ := own_form h
  have : x.a = a' ∧ x.c = c' := by simpa [TL.cell] using hv
  rw [this.1]
  exact hl
theorem KeepTexts.both {w : World} {base p : Nat} {L M : List TL} (h : KeepTexts w base p L M) : ∃ ao am co cm, BothTexts w p L M ao am co cm := by
  obtain ⟨vO, vM, c0, c1, o0, o1, _⟩ := h.ex
  obtain ⟨ao, co, rfl, l0, _⟩ := own_form o0
  obtain ⟨am, cm, rfl, l1, _⟩ := own_form o1
  have hsm : ∀ y ∈ M, y.l.length ≤ 1000 := fun y hy => by
    obtain ⟨i, hi, rfl⟩ := List.getElem_of_mem hy
    have hiL : i < L.length := by rw [h.len]; exact hi
    have := h.same i L[i] M[i] (List.getElem?_eq_getElem hiL) (List.getElem?_eq_getElem hi)
    rw [← this]
    exact h.small _ (List.getElem_mem hiL)
  exact ⟨ao, am, co, cm, c0, c1, ⟨l0, fun x hx => own_liesTexts (h.each x hx), fun x hx => by have := h.small x hx; omega⟩, ⟨l1, fun x hx => own_liesTexts (h.copy x hx), fun x hx => by have := hsm x hx; omega⟩, h.len, h.same⟩
/-- The book's lists, and those that were told, are marked. -/
structure FinTexts (w : World) (p : Nat) (vo : Value) : Prop where
  field : ∃ ao co, ∃ L : List TL, w.cell? ⟨p, 0, none⟩ = some (.slice ao L.length co) ∧ L.length ≤ 1000 ∧ OutTexts w ao L ∧ MarkedTexts L
  told : ∃ ao co, ∃ L : List TL, vo = .slice ao L.length co ∧ L.length ≤ 1000 ∧ OutTexts w ao L ∧ MarkedTexts L
theorem FinTexts.below {w w' : World} {p : Nat} {vo : Value} (h : FinTexts w p vo) (hp : p < w.heap.size) (b : Below w.heap.size w w') : FinTexts w' p vo := by
  obtain ⟨ao, co, L, h1, h2, h3, h4⟩ := h.field
  obtain ⟨ao', co', L', k1, k2, k3, k4⟩ := h.told
  exact ⟨⟨ao, co, L, (b.cell (p := ⟨p, 0, none⟩) hp).trans h1, h2, h3.below b, h4⟩, ⟨ao', co', L', k1, k2, k3.below b, k4⟩⟩
theorem finTexts {w : World} {base b2 p : Nat} {L Lo : List TL} {C : Nat → List ByteArray} {vo : Value} (h : HeldTexts w base p L C) (hC : ∀ (k : Nat) (x : TL), L[k]? = some x → C k = marksT k 0 x.l.length) (hL : L.length ≤ 100) (hlen : Lo.length = L.length)
    (ho : w.ownsRow b2 34 1 vo Lo.length (Lo.map TL.cell)) (hlo : ∀ (i : Nat) (y : TL), Lo[i]? = some y → w.ownsRow base 9 1 y.cell y.l.length (txts y.l) ∧ y.l = marksT i 0 y.l.length ∧ y.l.length ≤ 2000) : FinTexts w p vo := by
  obtain ⟨ao, co, c0, o0⟩ := h.ex
  obtain ⟨a', c', hv, l0, _⟩ := own_form o0
  obtain ⟨rfl, rfl⟩ : ao = a' ∧ co = c' := by simpa using hv
  obtain ⟨a2, c2, rfl, l2, _⟩ := own_form ho
  let Lm : List TL := L.mapIdx fun i x => ⟨x.a, marksT i 0 x.l.length, x.c⟩
  have hlm : Lm.length = L.length := by simp [Lm]
  have hcell : Lm.map TL.cell = L.map TL.cell := by
    apply List.ext_getElem
    · simp [Lm]
    · intro i h1 h2
      simp [Lm, TL.cell, marksT_len, marksI_len]
  have hat : ∀ (i : Nat) (z : TL), Lm[i]? = some z → ∃ x, L[i]? = some x ∧ z = ⟨x.a, marksT i 0 x.l.length, x.c⟩ := fun i z hz => by
    obtain ⟨hi, rfl⟩ := List.getElem?_eq_some_iff.1 hz
    have hi' : i < L.length := by rw [← hlm]; exact hi
    exact ⟨L[i], List.getElem?_eq_getElem hi', by simp [Lm]⟩
  have hel : ∀ (i n : Nat), (marksT i 0 n).length = n := fun i n => by
    first
      | exact marksT_len _ _ _
      | exact marksI_len _ _ _
  refine ⟨⟨ao, co, Lm, by rw [hlm]; exact c0, by omega, ⟨by rw [hcell]; exact l0, fun z hz => ?_, fun z hz => ?_⟩, fun i z hz => ?_⟩, ⟨a2, c2, Lo, rfl, by omega, ⟨l2, fun y hy => ?_, fun y hy => ?_⟩, fun i y hy => (hlo i y hy).2.1⟩⟩
  · obtain ⟨i, hi⟩ := List.getElem?_of_mem hz
    obtain ⟨x, hx, rfl⟩ := hat i z hi
    have := own_liesTexts (h.each i x hx)
    rw [hC i x hx] at this
    exact this
  · obtain ⟨i, hi⟩ := List.getElem?_of_mem hz
    obtain ⟨x, hx, rfl⟩ := hat i z hi
    show (marksT i 0 x.l.length).length < _
    rw [hel]
    have := h.small x (List.mem_of_getElem? hx)
    omega
  · obtain ⟨x, hx, rfl⟩ := hat i z hz
    show marksT i 0 x.l.length = marksT i 0 (marksT i 0 x.l.length).length
    rw [hel]
  · obtain ⟨i, hi⟩ := List.getElem?_of_mem hy
    exact own_liesTexts (hlo i y hi).1
  · obtain ⟨i, hi⟩ := List.getElem?_of_mem hy
    have := (hlo i y hi).2.2
    omega
theorem own_liesInts {w : World} {base : Nat} {x : IL} {xs : List Value} (h : w.ownsRow base 3 1 x.cell x.l.length xs) : LiesAt w x.a xs := by
  obtain ⟨a', c', hv, hl, _⟩ := own_form h
  have : x.a = a' ∧ x.c = c' := by simpa [IL.cell] using hv
  rw [this.1]
  exact hl
theorem KeepInts.both {w : World} {base p : Nat} {L M : List IL} (h : KeepInts w base p L M) : ∃ ao am co cm, BothInts w p L M ao am co cm := by
  obtain ⟨vO, vM, c0, c1, o0, o1, _⟩ := h.ex
  obtain ⟨ao, co, rfl, l0, _⟩ := own_form o0
  obtain ⟨am, cm, rfl, l1, _⟩ := own_form o1
  have hsm : ∀ y ∈ M, y.l.length ≤ 1000 := fun y hy => by
    obtain ⟨i, hi, rfl⟩ := List.getElem_of_mem hy
    have hiL : i < L.length := by rw [h.len]; exact hi
    have := h.same i L[i] M[i] (List.getElem?_eq_getElem hiL) (List.getElem?_eq_getElem hi)
    rw [← this]
    exact h.small _ (List.getElem_mem hiL)
  exact ⟨ao, am, co, cm, c0, c1, ⟨l0, fun x hx => own_liesInts (h.each x hx), fun x hx => by have := h.small x hx; omega⟩, ⟨l1, fun x hx => own_liesInts (h.copy x hx), fun x hx => by have := hsm x hx; omega⟩, h.len, h.same⟩
/-- The book's lists, and those that were told, are marked. -/
structure FinInts (w : World) (p : Nat) (vo : Value) : Prop where
  field : ∃ ao co, ∃ L : List IL, w.cell? ⟨p, 2, none⟩ = some (.slice ao L.length co) ∧ L.length ≤ 1000 ∧ OutInts w ao L ∧ MarkedInts L
  told : ∃ ao co, ∃ L : List IL, vo = .slice ao L.length co ∧ L.length ≤ 1000 ∧ OutInts w ao L ∧ MarkedInts L
theorem FinInts.below {w w' : World} {p : Nat} {vo : Value} (h : FinInts w p vo) (hp : p < w.heap.size) (b : Below w.heap.size w w') : FinInts w' p vo := by
  obtain ⟨ao, co, L, h1, h2, h3, h4⟩ := h.field
  obtain ⟨ao', co', L', k1, k2, k3, k4⟩ := h.told
  exact ⟨⟨ao, co, L, (b.cell (p := ⟨p, 2, none⟩) hp).trans h1, h2, h3.below b, h4⟩, ⟨ao', co', L', k1, k2, k3.below b, k4⟩⟩
theorem finInts {w : World} {base b2 p : Nat} {L Lo : List IL} {C : Nat → List Int} {vo : Value} (h : HeldInts w base p L C) (hC : ∀ (k : Nat) (x : IL), L[k]? = some x → C k = marksI (k : Int) 0 x.l.length) (hL : L.length ≤ 100) (hlen : Lo.length = L.length)
    (ho : w.ownsRow b2 22 1 vo Lo.length (Lo.map IL.cell)) (hlo : ∀ (i : Nat) (y : IL), Lo[i]? = some y → w.ownsRow base 3 1 y.cell y.l.length (vals y.l) ∧ y.l = marksI (i : Int) 0 y.l.length ∧ y.l.length ≤ 2000) : FinInts w p vo := by
  obtain ⟨ao, co, c0, o0⟩ := h.ex
  obtain ⟨a', c', hv, l0, _⟩ := own_form o0
  obtain ⟨rfl, rfl⟩ : ao = a' ∧ co = c' := by simpa using hv
  obtain ⟨a2, c2, rfl, l2, _⟩ := own_form ho
  let Lm : List IL := L.mapIdx fun i x => ⟨x.a, marksI (i : Int) 0 x.l.length, x.c⟩
  have hlm : Lm.length = L.length := by simp [Lm]
  have hcell : Lm.map IL.cell = L.map IL.cell := by
    apply List.ext_getElem
    · simp [Lm]
    · intro i h1 h2
      simp [Lm, IL.cell, marksT_len, marksI_len]
  have hat : ∀ (i : Nat) (z : IL), Lm[i]? = some z → ∃ x, L[i]? = some x ∧ z = ⟨x.a, marksI (i : Int) 0 x.l.length, x.c⟩ := fun i z hz => by
    obtain ⟨hi, rfl⟩ := List.getElem?_eq_some_iff.1 hz
    have hi' : i < L.length := by rw [← hlm]; exact hi
    exact ⟨L[i], List.getElem?_eq_getElem hi', by simp [Lm]⟩
  have hel : ∀ (i n : Nat), (marksI (i : Int) 0 n).length = n := fun i n => by
    first
      | exact marksT_len _ _ _
      | exact marksI_len _ _ _
  refine ⟨⟨ao, co, Lm, by rw [hlm]; exact c0, by omega, ⟨by rw [hcell]; exact l0, fun z hz => ?_, fun z hz => ?_⟩, fun i z hz => ?_⟩, ⟨a2, c2, Lo, rfl, by omega, ⟨l2, fun y hy => ?_, fun y hy => ?_⟩, fun i y hy => (hlo i y hy).2.1⟩⟩
  · obtain ⟨i, hi⟩ := List.getElem?_of_mem hz
    obtain ⟨x, hx, rfl⟩ := hat i z hi
    have := own_liesInts (h.each i x hx)
    rw [hC i x hx] at this
    exact this
  · obtain ⟨i, hi⟩ := List.getElem?_of_mem hz
    obtain ⟨x, hx, rfl⟩ := hat i z hi
    show (marksI (i : Int) 0 x.l.length).length < _
    rw [hel]
    have := h.small x (List.mem_of_getElem? hx)
    omega
  · obtain ⟨x, hx, rfl⟩ := hat i z hz
    show marksI (i : Int) 0 x.l.length = marksI (i : Int) 0 (marksI (i : Int) 0 x.l.length).length
    rw [hel]
  · obtain ⟨i, hi⟩ := List.getElem?_of_mem hy
    exact own_liesInts (hlo i y hi).1
  · obtain ⟨i, hi⟩ := List.getElem?_of_mem hy
    have := (hlo i y hi).2.2
    omega
end Go.Proofs.Ytgmjphekfhiapaa.Bk
