/- A slice of slices of changes as an argument: opened. -/
import Derived.Test.YtjfccpajcdpahaaDoorEntryOpen
namespace Go.Proofs.YtjfccpajcdpahaaDoor
open Go.ChangeShapes Go.WideShapes Go.ChangeAt Go.RowKit Go.Deep
open Go.Proofs.YtjfccpajcdpahaaDoor.Bk

/-- A slice of slices of changes. -/
structure ArgL where
  a : Option Addr
  l : List Chg
  c : Nat
def ArgIs (W : World) (a0 : Option Addr) (L : List ArgL) : Prop := ∀ (i : Nat) (x : ArgL), L[i]? = some x → (∃ b : Addr, a0 = some b ∧ b.block < W.heap.size ∧ W.cell? (b.add i) = some (.slice x.a x.l.length x.c)) ∧ LiesAt W x.a (flat Chg.cells x.l)
theorem chgls_cells : Tryd.prog.cellsOf 27 = 1 := by kernel_rfl
set_option maxRecDepth 100000 in
theorem open_chglsAt {H : Type} {enc : TypeId × Value → H} {W : World} {base : Nat} {spare : Nat → Bool} {held : Bool} {a0 : Option Addr} {len cap : Nat} {d : DataW H} {p : List MemPlace}
    (h : DataW.Trod enc Tryd.prog W base spare held 32 (.slice a0 len cap) d p) : ∃ L : List ArgL, L.length = len ∧ ArgIs W a0 L := by
  obtain ⟨fuel, hx⟩ := h
  rcases open_slice1 Tryd.underlying32 chgls_cells hx with ⟨hcs, _⟩ | ⟨a, len', cap', m, n, V, D, Pl, hcs, _, hl, hm, hmm, _, hi⟩
  · simp [Value.cells] at hcs
    obtain ⟨rfl, rfl, rfl⟩ := hcs
    exact ⟨[], rfl, fun i x hx => by simp at hx⟩
  · simp [Value.cells] at hcs
    obtain ⟨rfl, rfl, rfl⟩ := hcs
    have hge : len ≤ m := by split at hmm <;> omega
    have one : ∀ i, ∃ x : ArgL, i < len → W.cell? (a.add i) = some (.slice x.a x.l.length x.c) ∧ LiesAt W x.a (flat Chg.cells x.l) := fun i => by
      by_cases hil : i < len
      · obtain ⟨hc, ht⟩ := hi i (by omega)
        have h4 : ∃ a4 len4 cap4, V i = .slice a4 len4 cap4 := by
          rcases open_slice Tryd.underlying27 ht with ⟨q, _⟩ | ⟨b, l4, c4, _, _, _, _, q, _⟩
          · exact ⟨none, 0, 0, by simpa using q⟩
          · exact ⟨some b, l4, c4, by simpa using q⟩
        obtain ⟨a4, len4, cap4, hV⟩ := h4
        rw [hV] at hc ht
        obtain ⟨l4, rfl, hl4, _, _⟩ := open_chgsAt ⟨n, ht⟩
        exact ⟨⟨a4, l4, cap4⟩, fun _ => ⟨hc, hl4⟩⟩
      · exact ⟨⟨none, [], 0⟩, fun q => absurd q hil⟩
    obtain ⟨f, hf⟩ := Classical.axiomOfChoice one
    refine ⟨(List.range len).map f, by simp, fun i x hx => ?_⟩
    rw [List.getElem?_map] at hx
    obtain ⟨y, h1, rfl⟩ := Option.map_eq_some_iff.1 hx
    have hil : i < len := by have := (List.getElem?_eq_some_iff.1 h1).1; simpa using this
    rw [List.getElem?_range hil] at h1
    obtain rfl : i = y := by simpa using h1
    obtain ⟨h2, h3⟩ := hf i hil
    refine ⟨⟨a, rfl, ?_, h2⟩, h3⟩
    have := World.block_lt_of_cell? W _ h2
    rwa [add_block] at this
end Go.Proofs.YtjfccpajcdpahaaDoor
