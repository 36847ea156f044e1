/- CrownTells' walk, all cases. -/
import Derived.Test.YtpeidckpcjdfgaaCrownTellsB
import Derived.Test.YtpeidckpcjdfgaaCrownTellsC
namespace Go.Proofs.Ytpeidckpcjdfgaa
open Go.RowKit

set_option maxRecDepth 100000 in
set_option maxHeartbeats 1000000 in
theorem Tells_much (s t : Sup) (at_ cb : Int) (raw : ByteArray) (hraw : 100 < raw.size) (hm : raw.size ≤ maxLen) (w : World) :
    Calls Try.prog 3 #[s.val, t.val, .int .i64 at_, .int .u8 cb, .string raw] w fun e w' => e = .returned (.bool true) ∧ Below w.heap.size w w' := by
  have HA := Lib.hid alive_is
  unfold maxLen at hm
  have hr1 : (100 : Int) < (raw.size : Int) := by omega
  obtain ⟨q0, h0, e0, f0, g0⟩ := s
  obtain ⟨q1, h1, e1, f1, g1⟩ := t
  simp only [Sup.val] at *
  have HB := Lib.hid (((Below.refl w.heap.size w).alloc (Nat.le_refl _) (.cells #[.int .i64 q0, .int .i64 h0, .int .i64 e0, .int .i64 f0, .int .i64 g0] 23)).alloc (by simp) (.cells #[.int .i64 q1, .int .i64 h1, .int .i64 e1, .int .i64 f1, .int .i64 g1] 23))
  go_enter Try.func3, Try.ntmps3
  go_wp2_with (go_at_call 4; refine (HA.out _).mono ?_; rintro e w1 ⟨rfl, b1⟩; replace HB := Lib.hid (below_next HB.out b1); clear b1)
  all_goals
    go_ret
    exact ⟨rfl, HB.out⟩
theorem Tells_walk (s t : Sup) (at_ cb : Int) (raw : ByteArray) (hcb0 : 0 ≤ cb) (hcb1 : cb < 256) (hm : raw.size ≤ maxLen) (w : World) :
    Calls Try.prog 3 #[s.val, t.val, .int .i64 at_, .int .u8 cb, .string raw] w fun e w' => e = .returned (.bool true) ∧ Below w.heap.size w w' := by
  by_cases hr : raw.size ≤ 100
  · cases hs : supOk s
    · exact Tells_no s t at_ cb raw hs hr w
    · exact Tells_yes s t at_ cb raw hs hcb0 hcb1 hr w
  · exact Tells_much s t at_ cb raw (by omega) hm w
end Go.Proofs.Ytpeidckpcjdfgaa
