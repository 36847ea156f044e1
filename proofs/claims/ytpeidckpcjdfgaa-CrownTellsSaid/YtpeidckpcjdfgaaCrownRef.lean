/- The document's own crowns: most, Super. -/
import Derived.Test.YtpeidckpcjdfgaaCrownMath
namespace Go.Proofs.Ytpeidckpcjdfgaa
open Go.RowKit

theorem rt_bool {a b : Bool} (h : a = b) : Ending.returned (.bool a) = .returned (.bool b) := by rw [h]
theorem most_yes (v : Int) (h : 0 ≤ v) : decide (v ≤ 900000000) = mostI v := by
  unfold mostI
  by_cases h2 : v ≤ 900000000
  · rw [decide_eq_true h2, decide_eq_true ⟨h, h2⟩]
  · rw [decide_eq_false h2, decide_eq_false (fun q => h2 q.2)]
theorem most_is (v : Int) (w : World) : Calls Try.prog 16 #[.int .i64 v] w fun e w' => e = .returned (.bool (mostI v)) ∧ w' = w := by
  by_cases h : 0 ≤ v
  · have H := Lib.hid (most_yes v h)
    go_enter Try.func16, Try.ntmps16
    go_wp2
    all_goals
      go_ret
      exact ⟨rt_bool H.out, rfl⟩
  · have H := Lib.hid (show false = mostI v from (decide_eq_false (fun q => h q.1)).symm)
    go_enter Try.func16, Try.ntmps16
    go_wp2
    all_goals
      go_ret
      exact ⟨rt_bool H.out, rfl⟩

set_option maxRecDepth 100000 in
set_option maxHeartbeats 1000000 in
theorem rsuper_is (s : Sup) (w : World) : Calls Try.prog 6 #[s.val] w fun e w' => e = .returned (.bool (supOk s)) ∧ Below w.heap.size w w' := by
  obtain ⟨q, h, e, f, g⟩ := s
  show Calls Try.prog 6 #[.agg #[.int .i64 q, .int .i64 h, .int .i64 e, .int .i64 f, .int .i64 g]] w _
  have HM := Lib.hid (fun (v : Int) z => most_is v z)
  have hB : Hid (Below w.heap.size w w) := Lib.hid (Below.refl _ _)
  unfold supOk
  generalize hq : mostI q = mq
  generalize hh : mostI h = mh
  generalize he : mostI e = me
  have Hq := Lib.hid hq
  have Hh := Lib.hid hh
  have He := Lib.hid he
  clear hq hh he
  go_enter Try.func6, Try.ntmps6
  cases mq <;> cases mh <;> cases me
  all_goals
    go_wp2_with (go_at_call 16; refine (HM.out _ _).mono ?_; rintro e' w1 ⟨rfl, rfl⟩; first | rw [Hq.out] | rw [Hh.out] | rw [He.out])
  all_goals
    go_ret
    refine ⟨rt_bool ?_, (Below.refl _ _).alloc (Nat.le_refl _) _⟩
    (try simp_all) <;> (try omega)
end Go.Proofs.Ytpeidckpcjdfgaa
