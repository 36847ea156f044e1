/- Package page: rows that are filled cell by cell; cut. -/
import Derived.Test.YtgmjphekfhiapaaPageBytes
namespace Go.Proofs.Ytgmjphekfhiapaa
open Go.RowKit
open Go.Proofs.Ytgmjphekfhiapaa.Bk

/-- The first k of these values, then z, as many as they are. -/
def rowK (vs : List Value) (z : Value) (k : Nat) : Array Value := ((List.range vs.length).map fun j => if j < k then vs.getD j z else z).toArray
theorem rowK_zero (vs : List Value) (z : Value) (n : Nat) (h : vs.length = n) : Array.replicate n z = rowK vs z 0 := by
  subst h; apply Array.ext <;> simp [rowK]
theorem rowK_at (vs : List Value) (z : Value) (k : Nat) (h : k < vs.length) : (rowK vs z k)[k]? = some z := by simp [rowK, h]
theorem rowK_next (vs : List Value) (z : Value) (k : Nat) (h : k < vs.length) : rowK vs z (k + 1) = (rowK vs z k).set! k (vs.getD k z) := by
  apply Array.ext
  · simp [rowK]
  · intro i h1 h2
    by_cases hi : i = k
    · subst hi
      simp [rowK]
    · simp [rowK, Ne.symm hi, show (i < k + 1) = (i < k) from propext ⟨fun q => by omega, fun q => by omega⟩]
theorem rowK_end (vs : List Value) (z : Value) (k : Nat) (h : vs.length = k) : rowK vs z k = vs.toArray := by
  subst h
  apply Array.ext
  · simp [rowK]
  · intro i h1 h2
    have : i < vs.length := by simpa [rowK] using h1
    simp [rowK, this]
/-- A row that was just laid, as an owned one. -/
theorem owns_laid (w : World) (base : Nat) (e : TypeId) (vs : List Value) (n : Nat) (hn : vs.length = n) (hb : base ≤ w.heap.size) (hm : n ≤ maxLen) : (w.alloc (.cells vs.toArray e)).ownsRow base e 1 (.slice (some ⟨w.heap.size, 0, none⟩) n n) n vs :=
  ⟨by omega, .inr ⟨w.heap.size, n, vs.toArray, rfl, hb, heap_alloc_new w _, Nat.le_refl _, hm, by simp [hn], by simp [← hn]⟩⟩

/-- A sector of a page's bytes; all three. -/
def part (s : ByteArray) (k : Nat) : ByteArray := s.extract (k * 32) ((k + 1) * 32)
def parts (s : ByteArray) : List ByteArray := [part s 0, part s 1, part s 2]
theorem parts_at (s : ByteArray) (k : Nat) (h : k < 3) : (txts (parts s)).getD k (.string .empty) = .string (part s k) := by
  have : k = 0 ∨ k = 1 ∨ k = 2 := by omega
  rcases this with rfl | rfl | rfl <;> rfl

theorem pg_strInfo : (Try.prog.info? 9).map (fun i => (i.zero, i.size, i.bytes)) = some (some (.string .empty), 1, 16) := by kernel_rfl
theorem mkTexts (u : World) (n : Nat) (hn : n ≤ 1000) : (Instr.makeSlice 34 (.int .i64 (n : Int)) (.int .i64 (n : Int))).run Try.prog u =
      .ok (.slice (some ⟨u.heap.size, 0, none⟩) n n) (u.alloc (.cells (Array.replicate n (.string .empty)) 9)) := by
  obtain ⟨i1, hi, hz0, hz1, hz2⟩ := sl_info pg_strInfo
  have h := run_make (P := Try.prog) u 34 9 i1 _ Try.underlying34 hi hz0 .i64 .i64 n n (by omega) (Int.le_refl _) (by rw [hz2]; omega) (by omega)
  simpa [hz1, Value.cells, show madeCells #[Value.string .empty] n = Array.replicate n (.string .empty) from by apply Array.ext <;> simp [madeCells, Nat.mod_one]] using h

set_option maxRecDepth 100000 in
set_option maxHeartbeats 400000 in
theorem cut_is (s : ByteArray) (hs : s.size = 96) (w : World) :
    Calls Try.prog 22 #[.string s] w fun e w' => ∃ v, e = .returned v ∧ Below w.heap.size w w' ∧ w'.ownsRow w.heap.size 9 1 v 3 (txts (parts s)) := by
  have hmk : (Instr.makeSlice 34 (.int .i64 3) (.int .i64 3)).run Try.prog w = .ok (.slice (some ⟨w.heap.size, 0, none⟩) 3 3) (w.alloc (.cells (Array.replicate 3 (.string .empty)) 9)) := mkTexts w 3 (by omega)
  rw [rowK_zero (txts (parts s)) _ 3 rfl] at hmk
  have HE := Lib.hid (owns_laid w w.heap.size 9 (txts (parts s)) 3 rfl (Nat.le_refl _) (by unfold maxLen; omega))
  rw [← rowK_end (txts (parts s)) (.string .empty) 3 rfl] at HE
  go_enter Try.func22, Try.ntmps22
  go_wp2
  go_loopw [4, 8] (fun _ i wr => ∃ k : Nat, k ≤ 3 ∧ i = .int .i64 (k : Int) ∧ wr = w.alloc (.cells (rowK (txts (parts s)) (.string .empty) k) 9)) (fun _ i _ => 3 - (intOf i).toNat)
  case atStart => exact ⟨0, Nat.zero_le _, rfl, rfl⟩
  case round =>
    obtain ⟨k, hk, rfl, rfl⟩ := hrel
    by_cases hlt : k < 3
    · have hck := rowK_at (txts (parts s)) (.string .empty) k hlt
      have HV := Lib.hid (rowK_next (txts (parts s)) (.string .empty) k hlt)
      rw [parts_at s k hlt] at HV
      clear hmk
      have : k = 0 ∨ k = 1 ∨ k = 2 := by omega
      rcases this with rfl | rfl | rfl
      all_goals
        go_wp2
        first
          | exact ⟨⟨1, by omega, rfl, by rw [HV.out, Array.set!_eq_setIfInBounds]; rfl⟩, by simp [intOf]⟩
          | exact ⟨⟨2, by omega, rfl, by rw [HV.out, Array.set!_eq_setIfInBounds]; rfl⟩, by simp [intOf]⟩
          | exact ⟨⟨3, by omega, rfl, by rw [HV.out, Array.set!_eq_setIfInBounds]; rfl⟩, by simp [intOf]⟩
    · obtain rfl : k = 3 := by omega
      clear hlt hk hmk
      go_wp2
      go_ret
      exact ⟨_, rfl, (Below.refl _ _).alloc (Nat.le_refl _) _, HE.out⟩
end Go.Proofs.Ytgmjphekfhiapaa
