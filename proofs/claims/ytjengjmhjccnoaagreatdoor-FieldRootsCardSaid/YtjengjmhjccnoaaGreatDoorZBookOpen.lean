/- Arguments that are slices of texts or numbers, as what lies in memory (free of sector). -/
import Derived.SliceStrings
import Derived.Test.YtjengjmhjccnoaaGreatDoorZBook
import Derived.Test.YtjengjmhjccnoaaGreatDoorZLaw
set_option linter.unusedVariables false
set_option linter.unusedSimpArgs false
namespace Go.Proofs.YtjengjmhjccnoaaGreatDoor.Bk
open Go.ChangeShapes Go.WideShapes Go.ChangeAt Go.RowKit

section
variable {H : Type} {enc : TypeId × Value → H} {P : Program} {W : World} {base : Nat} {spare : Nat → Bool} {held : Bool}
theorem cell_block_lt {a : Addr} {v : Value} (h : W.cell? a = some v) : a.block < W.heap.size := World.block_lt_of_cell? W a h
theorem lies_txts {a : Option Addr} {l : List ByteArray} (h : ∀ (j : Nat) (s : ByteArray), l[j]? = some s → ∃ b : Addr, a = some b ∧ b.block < W.heap.size ∧ W.cell? (b.add j) = some (.string s)) : LiesAt W a (txts l) := fun j u hu => by
  rw [txts, List.getElem?_map, Option.map_eq_some_iff] at hu
  obtain ⟨x, hx, rfl⟩ := hu
  exact h j x hx
theorem lies_vals {a : Option Addr} {l : List Int} (h : ∀ (j : Nat) (s : Int), l[j]? = some s → ∃ b : Addr, a = some b ∧ b.block < W.heap.size ∧ W.cell? (b.add j) = some (.int .i64 s)) : LiesAt W a (vals l) := fun j u hu => by
  rw [vals, List.getElem?_map, Option.map_eq_some_iff] at hu
  obtain ⟨x, hx, rfl⟩ := hu
  exact h j x hx
/-- An argument that is a slice of texts. -/
theorem open_strsAt {t e : TypeId} {a0 : Option Addr} {len cap : Nat} {d : DataW H} {p : List MemPlace} (ht : P.underlying t = some (.slice e)) (he : P.underlying e = some .string) (hc : P.cellsOf e = 1)
    (h : DataW.Trod enc P W base spare held t (.slice a0 len cap) d p) : ∃ l : List ByteArray, l.length = len ∧ LiesAt W a0 (txts l) ∧ (∀ s ∈ l, s.size ≤ maxLen) ∧ len ≤ maxLen := by
  obtain ⟨fuel, hf⟩ := h
  rcases open_strings ht he hc hf with ⟨hcs, _⟩ | ⟨a, len', cap', ss, hcs, _, hl, hm, hz, _, hcell, hws⟩
  · simp [Value.cells] at hcs
    obtain ⟨rfl, rfl, rfl⟩ := hcs
    exact ⟨[], rfl, lies_txts (fun j s hs => by simp at hs), fun s hs => by simp at hs, Nat.zero_le _⟩
  · simp [Value.cells] at hcs
    obtain ⟨rfl, rfl, rfl⟩ := hcs
    have hge : len ≤ ss.length := by split at hz <;> omega
    refine ⟨ss.take len, by simp; omega, lies_txts (fun j s hs => ?_), fun s hs => hws s (List.mem_of_mem_take hs), by omega⟩
    have hj : j < len := by have := (List.getElem?_eq_some_iff.1 hs).1; simp at this; omega
    have hs' : ss[j]? = some s := by rw [List.getElem?_take_of_lt hj] at hs; exact hs
    have := hcell j (by omega)
    rw [List.getD, hs'] at this
    exact ⟨a, rfl, by have := cell_block_lt this; rwa [add_block] at this, this⟩
/-- An argument that is a slice of numbers. -/
theorem open_intsAt {t e : TypeId} {a0 : Option Addr} {len cap : Nat} {d : DataW H} {p : List MemPlace} (ht : P.underlying t = some (.slice e)) (he : P.underlying e = some (.int .i64)) (hc : P.cellsOf e = 1)
    (h : DataW.Trod enc P W base spare held t (.slice a0 len cap) d p) : ∃ l : List Int, l.length = len ∧ LiesAt W a0 (vals l) ∧ (∀ x ∈ l, (Lit.int .i64 x).wf = true) ∧ len ≤ maxLen := by
  obtain ⟨fuel, hf⟩ := h
  rcases open_ints ht he hc hf with ⟨hcs, _⟩ | ⟨a, len', cap', zs, hcs, _, hl, hm, hz, _, hcell, hws⟩
  · simp [Value.cells] at hcs
    obtain ⟨rfl, rfl, rfl⟩ := hcs
    exact ⟨[], rfl, lies_vals (fun j s hs => by simp at hs), fun s hs => by simp at hs, Nat.zero_le _⟩
  · simp [Value.cells] at hcs
    obtain ⟨rfl, rfl, rfl⟩ := hcs
    have hge : len ≤ zs.length := by split at hz <;> omega
    refine ⟨zs.take len, by simp; omega, lies_vals (fun j s hs => ?_), fun s hs => hws s (List.mem_of_mem_take hs), by omega⟩
    have hj : j < len := by have := (List.getElem?_eq_some_iff.1 hs).1; simp at this; omega
    have hs' : zs[j]? = some s := by rw [List.getElem?_take_of_lt hj] at hs; exact hs
    have := hcell j (by omega)
    rw [List.getD, hs'] at this
    exact ⟨a, rfl, by have := cell_block_lt this; rwa [add_block] at this, this⟩
end

theorem cellsInt : Tryz.prog.cellsOf 3 = 1 := by kernel_rfl
theorem cellsStr : Tryz.prog.cellsOf 9 = 1 := by kernel_rfl
end Go.Proofs.YtjengjmhjccnoaaGreatDoor.Bk
