/- Package crown: numbersOf. -/
import Derived.Test.YtpeidckpcjdfgaaCrownRow
import Derived.Deep.RegionWith
namespace Go.Proofs.Ytpeidckpcjdfgaa
open Go.RowKit

theorem cut_str (s : ByteArray) (lo hi : Int) (i j : Nat) (h0 : lo = i) (h1 : hi = j) (h2 : i ≤ j) (h3 : j ≤ s.size) (u : World) :
    (Instr.slice 9 (.string s) (some (.int .i64 lo)) (some (.int .i64 hi)) none).run Try.prog u = .ok (.string (s.extract i j)) u := by
  subst h0 h1
  have hu : Try.prog.underlying 9 = some .string := Try.underlying9
  simp [Instr.slice, run_underlying hu, h2, h3, go_sem]

set_option maxRecDepth 100000 in
set_option maxHeartbeats 4000000 in
theorem numbers_is (b : ByteArray) (hb : b.size = 32) (w : World) : Calls Try.prog 20 #[.string b] w fun e w' => e = .returned (supOf b).val ∧ Below w.heap.size w w' := by
  have G : ∀ (i j : Nat), j ≤ 32 → ∀ u, Calls Try.prog 27 #[.string (b.extract i j)] u fun e w' => e = .returned (.int .i64 (getI (b.extract i j))) ∧ w' = u := fun i j hj u => Get_is _ (by rw [ByteArray.size_extract]; unfold maxLen; omega) u
  have G1 := Lib.hid (G 4 8 (by omega))
  have G2 := Lib.hid (G 8 12 (by omega))
  have G3 := Lib.hid (G 12 16 (by omega))
  have G4 := Lib.hid (G 16 18 (by omega))
  have G5 := Lib.hid (G 18 20 (by omega))
  have s1 := cut_str b 4 8 4 8 rfl rfl (by omega) (by omega)
  have s2 := cut_str b 8 12 8 12 rfl rfl (by omega) (by omega)
  have s3 := cut_str b 12 16 12 16 rfl rfl (by omega) (by omega)
  have s4 := cut_str b 16 18 16 18 rfl rfl (by omega) (by omega)
  have s5 := cut_str b 18 20 18 20 rfl rfl (by omega) (by omega)
  show Calls Try.prog 20 #[.string b] w fun e w' => e = .returned (.agg #[.int .i64 (getI (b.extract 4 8)), .int .i64 (getI (b.extract 8 12)), .int .i64 (getI (b.extract 12 16)), .int .i64 (getI (b.extract 16 18)), .int .i64 (getI (b.extract 18 20))]) ∧ Below w.heap.size w w'
  clear G hb
  generalize getI (b.extract 4 8) = x1 at *
  generalize getI (b.extract 8 12) = x2 at *
  generalize getI (b.extract 12 16) = x3 at *
  generalize getI (b.extract 16 18) = x4 at *
  generalize getI (b.extract 18 20) = x5 at *
  generalize b.extract 4 8 = t1 at *
  generalize b.extract 8 12 = t2 at *
  generalize b.extract 12 16 = t3 at *
  generalize b.extract 16 18 = t4 at *
  generalize b.extract 18 20 = t5 at *
  go_enter Try.func20, Try.ntmps20
  go_wp2_with fail
  go_region_with (first
    | (go_at_call 27
       (first | (with_reducible refine (G1.out _).mono ?_) | (with_reducible refine (G2.out _).mono ?_) | (with_reducible refine (G3.out _).mono ?_) | (with_reducible refine (G4.out _).mono ?_) | (with_reducible refine (G5.out _).mono ?_))
       rintro e' w2 ⟨rfl, rfl⟩))
  all_goals
    go_wp2
    exact bodyPost_ret (v := .agg #[.int .i64 x1, .int .i64 x2, .int .i64 x3, .int .i64 x4, .int .i64 x5]) (by simp [results, Try.results20, go_sem]) rfl ⟨rfl, ((Below.refl _ _).alloc (Nat.le_refl _) _).drew⟩
end Go.Proofs.Ytpeidckpcjdfgaa
