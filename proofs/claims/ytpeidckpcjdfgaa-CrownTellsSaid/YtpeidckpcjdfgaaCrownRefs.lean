/- The document's own crowns: Crown, Crowned, Newer. -/
import Derived.Test.YtpeidckpcjdfgaaCrownRef
import Derived.Test.YtpeidckpcjdfgaaCrownNewer
import Derived.StillTailTactics
namespace Go.Proofs.Ytpeidckpcjdfgaa
open Go.RowKit

set_option maxRecDepth 100000 in
set_option maxHeartbeats 4000000 in
theorem rcrown_is (s : Sup) (w : World) : Calls Try.prog 8 #[s.val] w fun e w' => e = .returned (.string (crB s)) ∧ Below w.heap.size w w' := by
  obtain ⟨q, h, e, f, g⟩ := s
  show Calls Try.prog 8 #[.agg #[.int .i64 q, .int .i64 h, .int .i64 e, .int .i64 f, .int .i64 g]] w _
  have P1 := Lib.hid (rPut_is q 4)
  have P2 := Lib.hid (rPut_is h 4)
  have P3 := Lib.hid (rPut_is e 4)
  have P4 := Lib.hid (rPut_is f 2)
  have P5 := Lib.hid (rPut_is g 2)
  have m1 := putS_max q 4 (by omega)
  have m2 := putS_max h 4 (by omega)
  have m3 := putS_max e 4 (by omega)
  have m4 := putS_max f 2 (by omega)
  have m5 := putS_max g 2 (by omega)
  have HB := Lib.hid (show crB ⟨q, h, e, f, g⟩ = sealS (flit ++ putS q 4 ++ putS h 4 ++ putS e 4 ++ putS f 2 ++ putS g 2) 32 from (crB_is _).symm)
  have HBX := Lib.hid (box5 w (.int .i64 q) (.int .i64 h) (.int .i64 e) (.int .i64 f) (.int .i64 g) 23)
  generalize putS q 4 = p1 at *
  generalize putS h 4 = p2 at *
  generalize putS e 4 = p3 at *
  generalize putS f 2 = p4 at *
  generalize putS g 2 = p5 at *
  have HM := Lib.hid (show (flit ++ p1 ++ p2 ++ p3 ++ p4 ++ p5).size ≤ maxLen by simp only [ByteArray.size_append, maxLen, show flit.size = 4 from rfl]; omega)
  have HS := Lib.hid (rSeal_is (flit ++ p1 ++ p2 ++ p3 ++ p4 ++ p5) 32 HM.out)
  rw [← HB.out] at HS
  have y1 : ¬ 9223372036854775807 < 4 + p1.size := by omega
  have y2 : ¬ 9223372036854775807 < 4 + p1.size + p2.size := by omega
  have y3 : ¬ 9223372036854775807 < 4 + p1.size + p2.size + p3.size := by omega
  have y4 : ¬ 9223372036854775807 < 4 + p1.size + p2.size + p3.size + p4.size := by omega
  have y5 : ¬ 9223372036854775807 < 4 + p1.size + p2.size + p3.size + p4.size + p5.size := by omega
  clear m1 m2 m3 m4 m5 HM
  go_enter Try.func8, Try.ntmps8
  go_wp2_with fail
  go_region_held3 (fun u => u.cell? ⟨w.heap.size, 0, none⟩ = some (.int .i64 q) ∧ u.cell? ⟨w.heap.size, 1, none⟩ = some (.int .i64 h) ∧ u.cell? ⟨w.heap.size, 2, none⟩ = some (.int .i64 e) ∧ u.cell? ⟨w.heap.size, 3, none⟩ = some (.int .i64 f) ∧ u.cell? ⟨w.heap.size, 4, none⟩ = some (.int .i64 g) ∧ w.heap.size < u.heap.size ∧ Below w.heap.size w u) (first
      | assumption
      | exact HBX.out
      | exact keep5 HBX.out (Below.refl _ _).drew
      | exact keep5 (by assumption) b2) (first
    | (go_at_call 19
       (first | (with_reducible refine (P1.out _).mono ?_) | (with_reducible refine (P2.out _).mono ?_) | (with_reducible refine (P3.out _).mono ?_) | (with_reducible refine (P4.out _).mono ?_) | (with_reducible refine (P5.out _).mono ?_))
       rintro e' w2 ⟨rfl, b2⟩)
    | (go_at_call 18
       refine (HS.out _).mono ?_
       rintro e' w2 ⟨rfl, b2⟩))
  rename_i hH
  have HK := Lib.hid hH
  clear hH
  go_wp2_with fail
  go_ret
  exact ⟨rfl, HK.out.2.2.2.2.2.2⟩
end Go.Proofs.Ytpeidckpcjdfgaa
