/- Open, the document's own: what is opened, and what comes of it. -/
import Derived.Test.YtbcdmcafobjpcaaGreatDoorSealSeal
import Derived.Deep.QuietTactic
import Derived.BigQuiet
namespace Go.Proofs.YtbcdmcafobjpcaaGreatDoor
open Go.RowKit

theorem bel_draws (B : Nat) (w : World) (n : Nat) : Below B w (w.drewN n) := ⟨rfl, rfl, rfl, Nat.le_refl _, fun _ _ => rfl⟩
def bodyOf (b : ByteArray) : ByteArray := b.extract 0 (b.size - 4)
def tailOf (b : ByteArray) : ByteArray := b.extract (b.size - 4) b.size
/-- Is it opened? -/
def opens (b : ByteArray) : Bool := decide (4 ≤ b.size ∧ getI (tailOf b) = sumI (bodyOf b).data.toList)
def openS (b : ByteArray) : ByteArray := if opens b = true then bodyOf b else ByteArray.empty
theorem bodyOf_size (b : ByteArray) : (bodyOf b).size = b.size - 4 := by simp [bodyOf, ByteArray.size_extract]
theorem tailOf_size (b : ByteArray) (h : 4 ≤ b.size) : (tailOf b).size = 4 := by simp [tailOf, ByteArray.size_extract]; omega
theorem getI_range (b : ByteArray) : 0 ≤ getI b ∧ getI b < 72057594037927936 := by
  refine ⟨numL_nonneg _, ?_⟩
  have := numL_lt (b.data.toList.take 7) 7 (List.length_take_le _ _)
  exact this
theorem opens_no (b : ByteArray) (h : ¬ (4 ≤ b.size ∧ getI (tailOf b) = sumI (bodyOf b).data.toList)) : opens b = false ∧ openS b = ByteArray.empty := by
  have : opens b = false := decide_eq_false h
  exact ⟨this, by rw [openS, this]; rfl⟩
theorem opens_yes (b : ByteArray) (h : 4 ≤ b.size ∧ getI (tailOf b) = sumI (bodyOf b).data.toList) : opens b = true ∧ openS b = bodyOf b := by
  have : opens b = true := decide_eq_true h
  exact ⟨this, by rw [openS, this]; rfl⟩

theorem open_facts (b : ByteArray) (h0 : 4 ≤ b.size) (h1 : b.size ≤ 281474976710656) : ((bodyOf b).size ≤ 281474976710656 ∧ (bodyOf b).size ≤ maxLen) ∧ (tailOf b).size ≤ maxLen := by
  rw [bodyOf_size, tailOf_size b h0]
  unfold maxLen
  omega
end Go.Proofs.YtbcdmcafobjpcaaGreatDoor
