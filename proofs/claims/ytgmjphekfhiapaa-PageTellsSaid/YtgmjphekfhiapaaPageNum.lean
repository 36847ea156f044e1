/- Package page: the numbers that bytes tell (numberAt, numbersOf). -/
import Derived.Test.YtgmjphekfhiapaaPagePut
namespace Go.Proofs.Ytgmjphekfhiapaa
open Go.RowKit
open Go.Proofs.Ytgmjphekfhiapaa.Bk

def numAt (s : ByteArray) (k : Nat) : Int := getI (s.extract (k * 4) ((k + 1) * 4))
def nums (s : ByteArray) : List Int := (List.range 16).map fun i => numAt s (i + 2)
theorem nums_len (s : ByteArray) : (nums s).length = 16 := by simp [nums]
theorem nums_at (s : ByteArray) (k : Nat) (h : k < 16) : (vals (nums s)).getD k (.int .i64 0) = .int .i64 (numAt s (k + 2)) := by
  simp [vals, nums, h]
theorem slice_str (s : ByteArray) (lo hi : Int) (i j : Nat) (h0 : lo = i) (h1 : hi = j) (h2 : i ≤ j) (h3 : j ≤ s.size) (u : World) :
    (Instr.slice 9 (.string s) (some (.int .i64 lo)) (some (.int .i64 hi)) none).run Try.prog u = .ok (.string (s.extract i j)) u := by
  subst h0 h1
  have hu : Try.prog.underlying 9 = some .string := Try.underlying9
  simp [Instr.slice, run_underlying hu, h2, h3, go_sem]

theorem numAt_range (s : ByteArray) (k : Nat) : 0 ≤ numAt s k ∧ numAt s k < 72057594037927936 := getI_range _
set_option maxRecDepth 100000 in
theorem numberAt_is (s : ByteArray) (hs : s.size ≤ 1000) (k : Nat) (hk : (k + 1) * 4 ≤ s.size) (w : World) :
    Calls Try.prog 68 #[.string s, .int .i64 (k : Int)] w fun e w' => e = .returned (.int .i64 (numAt s k)) ∧ w' = w := by
  have hsl := slice_str s ((k : Int) * 4) (((k : Int) + 1) * 4) (k * 4) ((k + 1) * 4) (by omega) (by omega) (by omega) hk w
  have HG := Lib.hid (fun u => Get_is (s.extract (k * 4) ((k + 1) * 4)) (by rw [ByteArray.size_extract]; unfold maxLen; omega) u)
  have HN := Lib.hid (show getI (s.extract (k * 4) ((k + 1) * 4)) = numAt s k from rfl)
  rw [HN.out] at HG
  have h1 : (k : Int) ≤ 1000 := by omega
  clear hk
  generalize numAt s k = x at *
  generalize s.extract (k * 4) ((k + 1) * 4) = t at *
  go_enter Try.func68, Try.ntmps68
  go_wp2_with (go_at_call 84; refine (HG.out _).mono ?_; rintro e w1 ⟨rfl, rfl⟩)
  go_ret
  exact ⟨rfl, rfl⟩
theorem pg_intInfo : (Try.prog.info? 3).map (fun i => (i.zero, i.size, i.bytes)) = some (some (.int .i64 0), 1, 8) := by kernel_rfl
theorem mkInts (u : World) (n : Nat) (hn : n ≤ 1000) : (Instr.makeSlice 22 (.int .i64 (n : Int)) (.int .i64 (n : Int))).run Try.prog u =
      .ok (.slice (some ⟨u.heap.size, 0, none⟩) n n) (u.alloc (.cells (Array.replicate n (.int .i64 0)) 3)) := by
  obtain ⟨i1, hi, hz0, hz1, hz2⟩ := sl_info pg_intInfo
  have h := run_make (P := Try.prog) u 22 3 i1 _ Try.underlying22 hi hz0 .i64 .i64 n n (by omega) (Int.le_refl _) (by rw [hz2]; omega) (by omega)
  simpa [hz1, Value.cells, show madeCells #[Value.int .i64 0] n = Array.replicate n (.int .i64 0) from by apply Array.ext <;> simp [madeCells, Nat.mod_one]] using h
theorem mkInts16 (u : World) : (Instr.makeSlice 22 (.int .i64 16) (.int .i64 16)).run Try.prog u =
      .ok (.slice (some ⟨u.heap.size, 0, none⟩) 16 16) (u.alloc (.cells (Array.replicate 16 (.int .i64 0)) 3)) := mkInts u 16 (by omega)

set_option maxRecDepth 100000 in
set_option maxHeartbeats 400000 in
theorem numbersOf_is (s : ByteArray) (hs : s.size = 96) (w : World) :
    Calls Try.prog 31 #[.string s] w fun e w' => ∃ v, e = .returned (.tuple #[.int .i64 (numAt s 0), .int .i64 (numAt s 1), v]) ∧ Below w.heap.size w w' ∧ w'.ownsRow w.heap.size 3 1 v 16 (vals (nums s)) := by
  have hmk := mkInts16 w
  have hvl : (vals (nums s)).length = 16 := by rw [vals_len, nums_len]
  rw [rowK_zero (vals (nums s)) _ 16 hvl] at hmk
  have HE := Lib.hid (owns_laid w w.heap.size 3 (vals (nums s)) 16 hvl (Nat.le_refl _) (by unfold maxLen; omega))
  rw [← rowK_end (vals (nums s)) (.int .i64 0) 16 hvl] at HE
  have HN := Lib.hid (fun (k : Nat) (h : k < 18) u => numberAt_is s (by omega) k (by omega) u)
  have H0 : Hid (∀ u, Calls Try.prog 68 #[.string s, .int .i64 0] u fun e w' => e = .returned (.int .i64 (numAt s 0)) ∧ w' = u) := Lib.hid (fun u => HN.out 0 (by omega) u)
  have H1 : Hid (∀ u, Calls Try.prog 68 #[.string s, .int .i64 1] u fun e w' => e = .returned (.int .i64 (numAt s 1)) ∧ w' = u) := Lib.hid (fun u => HN.out 1 (by omega) u)
  generalize numAt s 0 = x0 at *
  generalize numAt s 1 = y0 at *
  go_enter Try.func31, Try.ntmps31
  go_wp2
  go_loopw [6, 10] (fun _ i wr => ∃ k : Nat, k ≤ 16 ∧ i = .int .i64 (k : Int) ∧ wr = w.alloc (.cells (rowK (vals (nums s)) (.int .i64 0) k) 3)) (fun _ i _ => 16 - (intOf i).toNat)
  case atStart => exact ⟨0, Nat.zero_le _, rfl, rfl⟩
  case round =>
    obtain ⟨k, hk, rfl, rfl⟩ := hrel
    by_cases hlt : k < 16
    · have hck := rowK_at (vals (nums s)) (.int .i64 0) k (by omega)
      have HV := Lib.hid (rowK_next (vals (nums s)) (.int .i64 0) k (by omega))
      rw [nums_at s k hlt] at HV
      have hi1 : (k : Int) < 16 := by omega
      have HX := Lib.hid (fun u => HN.out (2 + k) (by omega) u)
      rw [Nat.add_comm 2 k] at HX
      generalize hx : numAt s (k + 2) = x at *
      have e2 : ((k + 2 : Nat) : Int) = 2 + (k : Int) := by omega
      rw [e2] at HX
      clear hmk hvl e2 hx
      go_wp2_with (go_at_call 68; refine (HX.out _).mono ?_; rintro e w1 ⟨rfl, rfl⟩)
      exact ⟨⟨k + 1, by omega, by go_num, by rw [HV.out, Array.set!_eq_setIfInBounds]⟩, by simp [intOf]; omega⟩
    · obtain rfl : k = 16 := by omega
      clear hlt hk hmk
      go_wp2_with (go_at_call 68; (first | (with_reducible refine (H0.out _).mono ?_) | (with_reducible refine (H1.out _).mono ?_)); rintro e w1 ⟨rfl, rfl⟩)
      go_ret3
      exact ⟨_, rfl, (Below.refl _ _).alloc (Nat.le_refl _) _, HE.out⟩
end Go.Proofs.Ytgmjphekfhiapaa
