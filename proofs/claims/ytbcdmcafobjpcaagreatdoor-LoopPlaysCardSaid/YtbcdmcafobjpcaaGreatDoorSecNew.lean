/- sector.New by its contract. -/
import Derived.Test.YtbcdmcafobjpcaaGreatDoorSecMore
import Derived.RegionTactic
import Derived.ChangeAlike
namespace Go.Proofs.YtbcdmcafobjpcaaGreatDoor.Sec
open Go.RowKit

/-- A sector of zeros. -/
def zero32 : ByteArray := ⟨Array.replicate 32 0⟩
/-- A new disk. -/
def newD (m : Nat) : Dsk := { on := true, lasts := List.replicate m zero32, now := List.replicate m zero32, waits := [], deeds := 0, lit := false, left := 0, keep := [] }
theorem blockInfo : (Tryz.prog.info? 75).map (fun i => (i.zero, i.size, i.bytes)) = some (some (.agg (Array.replicate 32 (.int .u8 0))), 32, 32) := by kernel_rfl

/-- The cells of m sectors of zeros. -/
def zrows (m : Nat) : Array Value := madeCells (Array.replicate 32 (.int .u8 0)) (m * 32)
theorem zrows_size (m : Nat) : (zrows m).size = m * 32 := by simp [zrows, madeCells]
theorem zrows_at (m j : Nat) (h : j < m * 32) : (zrows m)[j]? = some (.int .u8 0) := by
  have : j % 32 < 32 := Nat.mod_lt _ (by omega)
  simp [zrows, madeCells, h, getElem!_def, this]
theorem bcells_zero : bcells zero32 = List.replicate 32 (.int .u8 0) := by simp [bcells, zero32]
theorem rows_new {w : World} {b m : Nat} (t : TypeId) (hb : w.heap[b]? = some (.cells (zrows m) t (0, 0))) : Rows w b 32 ((List.replicate m zero32).map bcells) := fun j x hx v u hv => by
  rw [List.getElem?_map, List.getElem?_replicate] at hx
  split at hx
  · rename_i hj
    obtain rfl : bcells zero32 = x := by simpa using hx
    rw [bcells_zero, List.getElem?_replicate] at hv
    split at hv
    · rename_i hu
      obtain rfl : Value.int .u8 0 = u := by simpa using hv
      have : j * 32 + 32 ≤ m * 32 := by omega
      rw [cell_of_row w b _ _ t (0, 0) hb]
      exact zrows_at m _ (by omega)
    · cases hv
  · cases hx
theorem there_new {w : World} {b m : Nat} (t : TypeId) (hb : w.heap[b]? = some (.cells (zrows m) t (0, 0))) : w.there b 0 (m * 32) := fun j hj => by
  refine ⟨?_, ?_⟩
  · rw [cell_of_row w b _ _ t (0, 0) hb, zrows_at m _ (by omega)]; rfl
  · simp [World.frozen?, hb]

/-- The world behind New: two rows, in whichever order they were made, and the struct. -/
abbrev newW (w : World) (m L N : Nat) : World :=
  ((w.alloc (.cells (zrows m) 75)).alloc (.cells (zrows m) 75)).alloc
    (.cells #[.bool true, .bool true, .slice (some ⟨L, 0, none⟩) m m, .slice (some ⟨N, 0, none⟩) m m, .slice none 0 0, .int .i64 0, .bool false, .int .i64 0, .slice none 0 0] 61)
theorem heapA (w : World) (o : Obj) : (w.alloc o).heap = w.heap.push o := rfl
theorem newW_blocks (w : World) (m L N : Nat) : (newW w m L N).heap[w.heap.size]? = some (.cells (zrows m) 75 (0, 0)) ∧ (newW w m L N).heap[w.heap.size + 1]? = some (.cells (zrows m) 75 (0, 0)) ∧
    (newW w m L N).heap[w.heap.size + 2]? = some (.cells #[.bool true, .bool true, .slice (some ⟨L, 0, none⟩) m m, .slice (some ⟨N, 0, none⟩) m m, .slice none 0 0, .int .i64 0, .bool false, .int .i64 0, .slice none 0 0] 61 (0, 0)) := by
  refine ⟨?_, ?_, ?_⟩
  · simp only [newW, heapA, Array.getElem?_push, Array.size_push]
    rw [if_neg (by omega), if_neg (by omega), if_pos trivial]
  · simp only [newW, heapA, Array.getElem?_push, Array.size_push]
    rw [if_neg (by omega), if_pos trivial]
  · simp only [newW, heapA, Array.getElem?_push, Array.size_push]
    rw [if_pos trivial]
theorem new_done (w : World) (m L N : Nat) (hm : m ≤ 3000) (hLN : (L = w.heap.size ∧ N = w.heap.size + 1) ∨ (L = w.heap.size + 1 ∧ N = w.heap.size)) :
    ∃ y : Lay, Ending.returned (.pointer (some ⟨w.heap.size + 1 + 1, 0, none⟩)) = .returned (.pointer (some ⟨y.p, 0, none⟩)) ∧ IsD (newW w m L N).drew y (newD m) ∧ (∀ b, y.foot b → w.heap.size ≤ b) ∧ Only (fun _ => False) w (newW w m L N).drew := by
  obtain ⟨b0, b1, b2⟩ := newW_blocks w m L N
  have bL : (newW w m L N).heap[L]? = some (.cells (zrows m) 75 (0, 0)) := by rcases hLN with ⟨rfl, _⟩ | ⟨rfl, _⟩ <;> assumption
  have bN : (newW w m L N).heap[N]? = some (.cells (zrows m) 75 (0, 0)) := by rcases hLN with ⟨_, rfl⟩ | ⟨_, rfl⟩ <;> assumption
  have hsz : (newW w m L N).heap.size = w.heap.size + 3 := by simp [newW]
  have hzl : ∀ b ∈ List.replicate m zero32, b.size = 32 := fun b hb => by rw [(List.mem_replicate.1 hb).2]; rfl
  refine ⟨{ p := w.heap.size + 2, L := L, N := N, W := w.heap.size + 2, K := w.heap.size + 2, cL := m, cN := m, cW := 0, cK := 0, la := some ⟨L, 0, none⟩, na := some ⟨N, 0, none⟩, wa := none, ka := none }, rfl, IsD.drew ⟨⟨?_, ?_⟩, ?_, ?_, ?_⟩, ?_, ?_⟩
  · intro j v hv
    rw [Nat.zero_add, cell_of_row _ _ _ _ _ _ b2]
    simpa [headc, newD] using hv
  · intro j hj
    rw [Nat.zero_add]
    refine ⟨?_, ?_⟩
    · rw [cell_of_row _ _ _ _ _ _ b2, Array.getElem?_eq_getElem (by simpa using hj)]; rfl
    · unfold World.frozen?
      rw [b2]
      simp
  · exact ⟨rows_new _ bL, rows_new _ bN, World.ownsRow_nil _ _ _ _, by simpa [newD] using there_new _ bL, by simpa [newD] using there_new _ bN, fun j z hz => by simp [newD] at hz⟩
  · exact ⟨by simp [newD], by simpa [newD] using hm, hzl, hzl, fun x hx => by simp [newD] at hx, by simp [newD], by simp [newD], by simp [newD], by simp [newD], by simp [newD], by simp [newD], by simp [newD],
      fun _ => rfl, fun _ => rfl, .inl rfl, fun q => by simp [newD] at q, fun _ => ⟨by simp; omega, by simp; omega, by simp; omega⟩, fun q => by simp at q, fun q => by simp [newD] at q⟩
  · intro b q
    rw [hsz]
    simp only [Lay.foot] at q
    omega
  · intro b q
    simp only [Lay.foot] at q
    omega
  · exact ((((Only.refl _ _).alloc _).alloc _).alloc _).drew

set_option maxHeartbeats 1000000 in
theorem New_is (n : Int) (w : World) :
    Calls Tryz.prog 5 #[.int .i64 n] w fun e w' => ∃ y : Lay, e = .returned (.pointer (some ⟨y.p, 0, none⟩)) ∧ IsD w' y (newD (min (max n 0) 3000).toNat) ∧ (∀ b, y.foot b → w.heap.size ≤ b) ∧ Only (fun _ => False) w w' := by
  obtain ⟨i0, hi, hz0, hz1, hz2⟩ := info_parts blockInfo
  have hmk : ∀ (m : Nat) (u : World), m ≤ 3000 → (Instr.makeSlice 56 (.int .i64 (m : Int)) (.int .i64 (m : Int))).run Tryz.prog u =
      .ok (.slice (some ⟨u.heap.size, 0, none⟩) m m) (u.alloc (.cells (zrows m) 75)) := fun m u hm => by
    have h := run_make (P := Tryz.prog) u 56 75 i0 _ Tryz.underlying56 hi hz0 .i64 .i64 (m : Int) (m : Int) (by omega) (Int.le_refl _) (by rw [hz2]; omega) (by omega)
    simpa [hz1, Value.cells, zrows] using h
  have key : ∀ (m : Nat), m ≤ 3000 → (min (max n 0) 3000).toNat = m → ((n < 0 ∧ m = 0) ∨ (0 ≤ n ∧ n ≤ 3000 ∧ n = m) ∨ (3000 < n ∧ m = 3000)) → Calls Tryz.prog 5 #[.int .i64 n] w fun e w' => ∃ y : Lay, e = .returned (.pointer (some ⟨y.p, 0, none⟩)) ∧ IsD w' y (newD m) ∧ (∀ b, y.foot b → w.heap.size ≤ b) ∧ Only (fun _ => False) w w' := by
    intro m hm _ hn
    have hm0 : ∀ u : World, (Instr.makeSlice 56 (.int .i64 0) (.int .i64 0)).run Tryz.prog u =
      .ok (.slice (some ⟨u.heap.size, 0, none⟩) 0 0) (u.alloc (.cells (zrows 0) 75)) := fun u => hmk 0 u (by omega)
    have hm3 : ∀ u : World, (Instr.makeSlice 56 (.int .i64 3000) (.int .i64 3000)).run Tryz.prog u =
      .ok (.slice (some ⟨u.heap.size, 0, none⟩) 3000 3000) (u.alloc (.cells (zrows 3000) 75)) := fun u => hmk 3000 u (by omega)
    have hmm : ∀ u : World, (Instr.makeSlice 56 (.int .i64 (m : Int)) (.int .i64 (m : Int))).run Tryz.prog u =
      .ok (.slice (some ⟨u.heap.size, 0, none⟩) m m) (u.alloc (.cells (zrows m) 75)) := fun u => hmk m u hm
    clear hi hz0 hz1 hz2 hmk
    rcases hn with ⟨h1, rfl⟩ | ⟨h1, h2, rfl⟩ | ⟨h1, rfl⟩
    all_goals
      go_enter Tryz.func5, Tryz.ntmps5
      go_wp2
      go_region
      all_goals
        go_wp2
        go_ret
        first
        | exact new_done w _ _ _ hm (.inl ⟨rfl, rfl⟩)
        | exact new_done w _ _ _ hm (.inr ⟨rfl, rfl⟩)
  exact key _ (by omega) rfl (by omega)
end Go.Proofs.YtbcdmcafobjpcaaGreatDoor.Sec
