/- The document's own entries: Entry, Laid. -/
import Derived.Test.YtebeegfgghbdlaaEntryGet
import Derived.StillTailTactics
namespace Go.Proofs.Ytebeegfgghbdlaa
open Go.RowKit

theorem numR_is (v : Int) (w : World) : Calls Try.prog 26 #[.int .i64 v] w fun e w' => e = .returned (.bool (numI v)) ∧ w' = w := Number_is v w

set_option maxRecDepth 100000 in
set_option maxHeartbeats 1000000 in
theorem rentry_is (s : Ent) (w : World) : Calls Try.prog 6 #[s.val] w fun e w' => e = .returned (.bool (entOk s)) ∧ Below w.heap.size w w' := by
  obtain ⟨k, l, e, c, v⟩ := s
  show Calls Try.prog 6 #[.agg #[.int .i64 k, .int .i64 l, .int .i64 e, .int .i64 c, .int .i64 v]] w _
  have HM := Lib.hid numR_is
  by_cases hk1 : k = 1
  · subst hk1
    have HE := Lib.hid (show entOk ⟨1, l, e, c, v⟩ = (numI l && numI e && numI c && numI v) by simp [entOk])
    rw [HE.out]
    go_enter Try.func6, Try.ntmps6
    go_wp2_with (go_at_call 26; refine (HM.out _ _).mono ?_; rintro e' w1 ⟨rfl, rfl⟩)
    all_goals
      go_ret
      refine ⟨rt_b ?_, (Below.refl _ _).alloc (Nat.le_refl _) _⟩
      simp_all
  · have hq1 : (k == 1) = false := by simpa using hk1
    by_cases hk2 : k = 2
    · subst hk2
      by_cases hv : v = 0
      · subst hv
        have HE := Lib.hid (show entOk ⟨2, l, e, c, 0⟩ = (numI l && numI e && numI c && numI 0) by simp [entOk])
        rw [HE.out]
        go_enter Try.func6, Try.ntmps6
        go_wp2_with (go_at_call 26; refine (HM.out _ _).mono ?_; rintro e' w1 ⟨rfl, rfl⟩)
        all_goals
          go_ret
          refine ⟨rt_b ?_, (Below.refl _ _).alloc (Nat.le_refl _) _⟩
          simp_all
      · have HE := Lib.hid (show entOk ⟨2, l, e, c, v⟩ = false by simp [entOk, hv])
        have hv1 : (v == 0) = false := by simpa using hv
        rw [HE.out]
        go_enter Try.func6, Try.ntmps6
        go_wp2_with (go_at_call 26; refine (HM.out _ _).mono ?_; rintro e' w1 ⟨rfl, rfl⟩)
        all_goals
          go_ret
          exact ⟨rfl, (Below.refl _ _).alloc (Nat.le_refl _) _⟩
    · have hq2 : (k == 2) = false := by simpa using hk2
      have HE := Lib.hid (show entOk ⟨k, l, e, c, v⟩ = false by simp [entOk, hk1, hk2])
      rw [HE.out]
      go_enter Try.func6, Try.ntmps6
      go_wp2_with (go_at_call 26; refine (HM.out _ _).mono ?_; rintro e' w1 ⟨rfl, rfl⟩)
      all_goals
        go_ret
        exact ⟨rfl, (Below.refl _ _).alloc (Nat.le_refl _) _⟩

set_option maxRecDepth 100000 in
set_option maxHeartbeats 4000000 in
theorem rlaid_is (s : Ent) (w : World) : Calls Try.prog 8 #[s.val] w fun e w' => e = .returned (.string (enB s)) ∧ Below w.heap.size w w' := by
  obtain ⟨q, h, e, f, g⟩ := s
  show Calls Try.prog 8 #[.agg #[.int .i64 q, .int .i64 h, .int .i64 e, .int .i64 f, .int .i64 g]] w _
  have P1 := Lib.hid (rPut_is q 1)
  have P2 := Lib.hid (rPut_is h 4)
  have P3 := Lib.hid (rPut_is e 4)
  have P4 := Lib.hid (rPut_is f 4)
  have P5 := Lib.hid (rPut_is g 4)
  have m1 := putE_max q 1 (by omega)
  have m2 := putE_max h 4 (by omega)
  have m3 := putE_max e 4 (by omega)
  have m4 := putE_max f 4 (by omega)
  have m5 := putE_max g 4 (by omega)
  have HB := Lib.hid (show enB ⟨q, h, e, f, g⟩ = sealS (putS q 1 ++ putS h 4 ++ putS e 4 ++ putS f 4 ++ putS g 4) 32 from (enB_is _).symm)
  have HBX := Lib.hid (box5 w (.int .i64 q) (.int .i64 h) (.int .i64 e) (.int .i64 f) (.int .i64 g) 23)
  generalize putS q 1 = p1 at *
  generalize putS h 4 = p2 at *
  generalize putS e 4 = p3 at *
  generalize putS f 4 = p4 at *
  generalize putS g 4 = p5 at *
  have HM := Lib.hid (show (p1 ++ p2 ++ p3 ++ p4 ++ p5).size ≤ maxLen by simp only [ByteArray.size_append, maxLen]; omega)
  have HS := Lib.hid (rSeal_is (p1 ++ p2 ++ p3 ++ p4 ++ p5) 32 HM.out)
  rw [← HB.out] at HS
  have y2 : ¬ 9223372036854775807 < p1.size + p2.size := by omega
  have y3 : ¬ 9223372036854775807 < p1.size + p2.size + p3.size := by omega
  have y4 : ¬ 9223372036854775807 < p1.size + p2.size + p3.size + p4.size := by omega
  have y5 : ¬ 9223372036854775807 < p1.size + p2.size + p3.size + p4.size + p5.size := by omega
  clear m1 m2 m3 m4 m5 HM
  go_enter Try.func8, Try.ntmps8
  go_wp2_with fail
  go_region_held3 (fun u => u.cell? ⟨w.heap.size, 0, none⟩ = some (.int .i64 q) ∧ u.cell? ⟨w.heap.size, 1, none⟩ = some (.int .i64 h) ∧ u.cell? ⟨w.heap.size, 2, none⟩ = some (.int .i64 e) ∧ u.cell? ⟨w.heap.size, 3, none⟩ = some (.int .i64 f) ∧ u.cell? ⟨w.heap.size, 4, none⟩ = some (.int .i64 g) ∧ w.heap.size < u.heap.size ∧ Below w.heap.size w u) (first
      | assumption
      | exact HBX.out
      | exact keep5 HBX.out (Below.refl _ _).drew
      | exact keep5 (by assumption) b2) (first
    | (go_at_call 29
       (first | (with_reducible refine (P1.out _).mono ?_) | (with_reducible refine (P2.out _).mono ?_) | (with_reducible refine (P3.out _).mono ?_) | (with_reducible refine (P4.out _).mono ?_) | (with_reducible refine (P5.out _).mono ?_))
       rintro e' w2 ⟨rfl, b2⟩)
    | (go_at_call 28
       refine (HS.out _).mono ?_
       rintro e' w2 ⟨rfl, b2⟩))
  rename_i hH
  have HK := Lib.hid hH
  clear hH
  go_wp2_with fail
  go_ret
  exact ⟨rfl, HK.out.2.2.2.2.2.2⟩
end Go.Proofs.Ytebeegfgghbdlaa
