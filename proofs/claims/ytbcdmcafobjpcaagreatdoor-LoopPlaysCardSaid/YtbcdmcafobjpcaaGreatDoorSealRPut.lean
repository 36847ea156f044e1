/- The document's own Put. -/
import Derived.Test.YtbcdmcafobjpcaaGreatDoorSealGet
namespace Go.Proofs.YtbcdmcafobjpcaaGreatDoor
open Go.RowKit

theorem sl_info {P : Program} {t : TypeId} {z : Value} {s b : Nat} (h : (P.info? t).map (fun i => (i.zero, i.size, i.bytes)) = some (some z, s, b)) : ∃ i, P.info? t = some i ∧ i.zero = some z ∧ i.size = s ∧ i.bytes = b := by
  cases hi : P.info? t with
  | none => rw [hi] at h; simp at h
  | some i => rw [hi] at h; simp at h; exact ⟨i, rfl, h.1, h.2.1, h.2.2⟩
theorem sl_u8Info : (Tryz.prog.info? 5).map (fun i => (i.zero, i.size, i.bytes)) = some (some (.int .u8 0), 1, 1) := by kernel_rfl
theorem mkBytes (u : World) (n : Nat) (hn : n ≤ 1000) : (Instr.makeSlice 157 (.int .i64 (n : Int)) (.int .i64 (n : Int))).run Tryz.prog u =
      .ok (.slice (some ⟨u.heap.size, 0, none⟩) n n) (u.alloc (.cells (Array.replicate n (.int .u8 0)) 5)) := by
  obtain ⟨i1, hi, hz0, hz1, hz2⟩ := sl_info sl_u8Info
  have h := run_make (P := Tryz.prog) u 157 5 i1 _ Tryz.underlying157 hi hz0 .i64 .i64 n n (by omega) (Int.le_refl _) (by rw [hz2]; omega) (by omega)
  simpa [hz1, Value.cells, show madeCells #[Value.int .u8 0] n = Array.replicate n (.int .u8 0) from by apply Array.ext <;> simp [madeCells, Nat.mod_one]] using h

theorem Number_is (v : Int) (w : World) : Calls Tryz.prog 28 #[.int .i64 v] w fun e w' => e = .returned (.bool (decide (0 ≤ v ∧ v < 4294967296))) ∧ w' = w := by
  by_cases h : 0 ≤ v
  · by_cases h1 : v < 4294967296
    · rw [decide_eq_true (show 0 ≤ v ∧ v < 4294967296 from ⟨h, h1⟩)]
      go_enter Tryz.func28, Tryz.ntmps28
      go_wp2
      all_goals
        go_ret
        exact ⟨rfl, rfl⟩
    · rw [decide_eq_false (show ¬ (0 ≤ v ∧ v < 4294967296) by omega)]
      go_enter Tryz.func28, Tryz.ntmps28
      go_wp2
      all_goals
        go_ret
        exact ⟨rfl, rfl⟩
  · rw [decide_eq_false (show ¬ (0 ≤ v ∧ v < 4294967296) by omega)]
    go_enter Tryz.func28, Tryz.ntmps28
    go_wp2
    all_goals
      go_ret
      exact ⟨rfl, rfl⟩

/-- The cells of the first k bytes of n. -/
def putRow (v : Int) (n k : Nat) : Array Value := ((List.range n).map fun j => Value.int .u8 (if j < k then v / 256 ^ j % 256 else 0)).toArray
theorem putRow_size (v : Int) (n k : Nat) : (putRow v n k).size = n := by simp [putRow]
theorem putRow_zero (v : Int) (n : Nat) : Array.replicate n (.int .u8 0) = putRow v n 0 := by
  apply Array.ext <;> simp [putRow]

theorem putRow_at (v : Int) (n k : Nat) (h : k < n) : (putRow v n k)[k]? = some (.int .u8 0) := by
  simp [putRow, h]
theorem putNext (v : Int) (k : Nat) : v / 256 ^ (k + 1) = v / 256 ^ k / 256 := by
  rw [Int.pow_succ, Int.ediv_ediv_of_nonneg]
  exact Int.le_of_lt (Int.pow_pos (by decide))
theorem putBound (v : Int) (k : Nat) (h0 : 0 ≤ v) (h1 : v < 4294967296) : 0 ≤ v / 256 ^ k ∧ v / 256 ^ k < 4294967296 := by
  have hp : (0 : Int) < 256 ^ k := Int.pow_pos (by decide)
  exact ⟨Int.ediv_nonneg h0 (Int.le_of_lt hp), Int.lt_of_le_of_lt (Int.ediv_le_self _ h0) h1⟩
theorem putRow_next (v : Int) (n k : Nat) (h : k < n) : putRow v n (k + 1) = (putRow v n k).set! k (.int .u8 (v / 256 ^ k % 256)) := by
  apply Array.ext
  · simp [putRow]
  · intro i h1 h2
    by_cases hi : i = k
    · subst hi
      simp [putRow]
    · simp [putRow, Ne.symm hi, show (i < k + 1) = (i < k) from propext ⟨fun q => by omega, fun q => by omega⟩]
theorem and255 (x : Int) (h0 : 0 ≤ x) (h1 : x < 4294967296) : bits BinOp.and IntKind.i64 x 255 % 256 = x % 256 := by
  obtain ⟨X, rfl⟩ := Int.eq_ofNat_of_zero_le h0
  show IntKind.i64.wrap ((BitVec.ofInt 64 (X : Int) &&& BitVec.ofInt 64 ((255 : Nat) : Int)).toNat : Int) % 256 = _
  rw [BitVec.toNat_and, ofInt_u64 _ (by omega), ofInt_u64 _ (by omega), nat_mask8, IntKind.wrap_i64]
  omega

end Go.Proofs.YtbcdmcafobjpcaaGreatDoor
