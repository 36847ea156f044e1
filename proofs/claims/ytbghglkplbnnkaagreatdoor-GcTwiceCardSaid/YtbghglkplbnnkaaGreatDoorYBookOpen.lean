import Derived.SliceStrings
import Derived.Test.YtbghglkplbnnkaaGreatDoorYBook
import Derived.Test.YtbghglkplbnnkaaGreatDoorYLawT
set_option linter.unusedVariables false
set_option linter.unusedSimpArgs false
namespace Go.Proofs.YtbghglkplbnnkaaGreatDoor.Bk
open Go.ChangeShapes Go.WideShapes Go.ChangeAt Go.RowKit

section
variable {H : Type} {enc : TypeId × Value → H} {P : Program} {W : World} {base : Nat} {spare : Nat → Bool} {held : Bool}
theorem cell_block_lt {a : Addr} {v : Value} (h : W.cell? a = some v) : a.block < W.heap.size := World.block_lt_of_cell? W a h
theorem lies_vals {a : Option Addr} {l : List Int} (h : ∀ (j : Nat) (s : Int), l[j]? = some s → ∃ b : Addr, a = some b ∧ b.block < W.heap.size ∧ W.cell? (b.add j) = some (.int .i64 s)) : LiesAt W a (vals l) := fun j u hu => by
  rw [vals, List.getElem?_map, Option.map_eq_some_iff] at hu
  obtain ⟨x, hx, rfl⟩ := hu
  exact h j x hx
theorem open_intsAt {t e : TypeId} {a0 : Option Addr} {len cap : Nat} {d : DataW H} {p : List MemPlace} (ht : P.underlying t = some (.slice e)) (he : P.underlying e = some (.int .i64)) (hc : P.cellsOf e = 1)
    (h : DataW.Trod enc P W base spare held t (.slice a0 len cap) d p) : ∃ l : List Int, l.length = len ∧ LiesAt W a0 (vals l) ∧ (∀ x ∈ l, (Lit.int .i64 x).wf = true) ∧ len ≤ maxLen := by
  obtain ⟨fuel, hf⟩ := h
  rcases open_ints ht he hc hf with ⟨hcs, _⟩ | ⟨a, len', cap', zs, hcs, _, hl, hm, hz, _, hcell, hws⟩
  · simp [Value.cells] at hcs
    obtain ⟨rfl, rfl, rfl⟩ := hcs
    exact ⟨[], rfl, lies_vals (fun j s hs => by simp at hs), fun s hs => by simp at hs, Nat.zero_le _⟩
  · simp [Value.cells] at hcs
    obtain ⟨rfl, rfl, rfl⟩ := hcs
    have hge : len ≤ zs.length := by split at hz <;> omega
    refine ⟨zs.take len, by simp; omega, lies_vals (fun j s hs => ?_), fun s hs => hws s (List.mem_of_mem_take hs), by omega⟩
    have hj : j < len := by have := (List.getElem?_eq_some_iff.1 hs).1; simp at this; omega
    have hs' : zs[j]? = some s := by rw [List.getElem?_take_of_lt hj] at hs; exact hs
    have := hcell j (by omega)
    rw [List.getD, hs'] at this
    exact ⟨a, rfl, by have := cell_block_lt this; rwa [add_block] at this, this⟩
end

theorem cellsInt : Tryz.prog.cellsOf 3 = 1 := by kernel_rfl
end Go.Proofs.YtbghglkplbnnkaaGreatDoor.Bk
