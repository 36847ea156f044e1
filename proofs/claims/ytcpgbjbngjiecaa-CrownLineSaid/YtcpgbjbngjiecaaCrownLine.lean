/- CrownLine's walk. -/
import Derived.Test.YtcpgbjbngjiecaaCrownAlive
namespace Go.Proofs.Ytcpgbjbngjiecaa
open Go.RowKit

theorem size_alloc (w : World) (X : Obj) : (w.alloc X).heap.size = w.heap.size + 1 := by simp
set_option maxRecDepth 100000 in
set_option maxHeartbeats 2000000 in
theorem Line_out (s : Sup) (n : Int) (hc : supOk s = false ∨ (supOk s = true ∧ n < 1) ∨ (supOk s = true ∧ 1 ≤ n ∧ 60 < n) ∨ (supOk s = true ∧ 1 ≤ n ∧ n ≤ 60 ∧ 1000000 < s.q)) (w : World) :
    Calls Try.prog 3 #[s.val, .int .i64 n] w fun e w' => e = .returned (.bool true) ∧ Below w.heap.size w w' := by
  have HA := Lib.hid alive_is
  have H1 := Lib.hid (right_is s)
  generalize supOk s = p at *
  obtain ⟨q0, h0, e0, f0, g0⟩ := s
  simp only [Sup.val] at *
  have hB : Hid (Below w.heap.size w _) := Lib.hid ((Below.refl w.heap.size w).alloc (Nat.le_refl _) (.cells #[.int .i64 q0, .int .i64 h0, .int .i64 e0, .int .i64 f0, .int .i64 g0] 23))
  have R1 := Lib.hid (Row5.made w (.int .i64 q0) (.int .i64 h0) (.int .i64 e0) (.int .i64 f0) (.int .i64 g0) 23)
  rcases hc with rfl | ⟨rfl, hn⟩ | ⟨rfl, hn, hn1⟩ | ⟨rfl, hn, hn1, hq⟩
  all_goals
    go_enter Try.func3, Try.ntmps3
    go_wp2_with (first
      | (go_at_call 5
         with_reducible refine (H1.out _).mono ?_
         rintro e w1 ⟨rfl, b1⟩
         obtain ⟨_, c0, c1, c2, c3, c4, _, _, _, _, _⟩ := R1.out.below b1
         replace hB := Lib.hid (below_next hB.out b1)
         clear b1 R1)
      | (go_at_call 6
         refine (HA.out _).mono ?_
         rintro e w1 ⟨rfl, b1⟩
         replace hB := Lib.hid (below_next hB.out b1)
         clear b1))
    all_goals
      go_ret
      exact ⟨rfl, hB.out⟩
end Go.Proofs.Ytcpgbjbngjiecaa
