/- Package entry: isNumber, Right, Put. -/
import Derived.Test.YtbcdmcafobjpcaaGreatDoorEntryMath
import Derived.Test.YtbcdmcafobjpcaaGreatDoorFive
import Derived.Deep.RegionHeld3
namespace Go.Proofs.YtbcdmcafobjpcaaGreatDoor
open Go.RowKit

theorem numE_is (v : Int) (w : World) : Calls Tryz.prog 91 #[.int .i64 v] w fun e w' => e = .returned (.bool (numI v)) ∧ w' = w := by
  by_cases h : 0 ≤ v
  · by_cases h2 : v < 4294967296
    · have H := Lib.hid (show numI v = true from decide_eq_true ⟨h, h2⟩)
      rw [H.out]
      go_enter Tryz.func91, Tryz.ntmps91
      go_wp2
      all_goals
        go_ret
        exact ⟨rfl, rfl⟩
    · have H := Lib.hid (show numI v = false from decide_eq_false (fun q => h2 q.2))
      rw [H.out]
      go_enter Tryz.func91, Tryz.ntmps91
      go_wp2
      all_goals
        go_ret
        exact ⟨rfl, rfl⟩
  · have H := Lib.hid (show numI v = false from decide_eq_false (fun q => h q.1))
    rw [H.out]
    go_enter Tryz.func91, Tryz.ntmps91
    go_wp2
    all_goals
      go_ret
      exact ⟨rfl, rfl⟩

set_option maxRecDepth 100000 in
set_option maxHeartbeats 1000000 in
theorem right_is (s : Ent) (w : World) : Calls Tryz.prog 78 #[s.val] w fun e w' => e = .returned (.bool (entOk s)) ∧ Below w.heap.size w w' := by
  obtain ⟨k, l, e, c, v⟩ := s
  show Calls Tryz.prog 78 #[.agg #[.int .i64 k, .int .i64 l, .int .i64 e, .int .i64 c, .int .i64 v]] w _
  have HM := Lib.hid numE_is
  by_cases hk2 : k = 2
  · subst hk2
    by_cases hv : v = 0
    · subst hv
      have HE := Lib.hid (show entOk ⟨2, l, e, c, 0⟩ = (numI l && numI e && numI c && numI 0) by simp [entOk])
      rw [HE.out]
      go_enter Tryz.func78, Tryz.ntmps78
      go_wp2_with (go_at_call 91; refine (HM.out _ _).mono ?_; rintro e' w1 ⟨rfl, rfl⟩)
      all_goals
        go_ret
        refine ⟨rt_b ?_, (Below.refl _ _).alloc (Nat.le_refl _) _⟩
        simp_all
    · have HE := Lib.hid (show entOk ⟨2, l, e, c, v⟩ = false by simp [entOk, hv])
      have hv1 : (v == 0) = false := by simpa using hv
      have hv2 : (v != 0) = true := by simpa using hv
      rw [HE.out]
      go_enter Tryz.func78, Tryz.ntmps78
      go_wp2_with (go_at_call 91; refine (HM.out _ _).mono ?_; rintro e' w1 ⟨rfl, rfl⟩)
      all_goals
        go_ret
        exact ⟨rfl, (Below.refl _ _).alloc (Nat.le_refl _) _⟩
  · have hq2 : (k == 2) = false := by simpa using hk2
    by_cases hk1 : k = 1
    · subst hk1
      have HE := Lib.hid (show entOk ⟨1, l, e, c, v⟩ = (numI l && numI e && numI c && numI v) by simp [entOk])
      rw [HE.out]
      go_enter Tryz.func78, Tryz.ntmps78
      go_wp2_with (go_at_call 91; refine (HM.out _ _).mono ?_; rintro e' w1 ⟨rfl, rfl⟩)
      all_goals
        go_ret
        refine ⟨rt_b ?_, (Below.refl _ _).alloc (Nat.le_refl _) _⟩
        simp_all
    · have hq1 : (k == 1) = false := by simpa using hk1
      have HE := Lib.hid (show entOk ⟨k, l, e, c, v⟩ = false by simp [entOk, hk1, hk2])
      rw [HE.out]
      go_enter Tryz.func78, Tryz.ntmps78
      go_wp2_with (go_at_call 91; refine (HM.out _ _).mono ?_; rintro e' w1 ⟨rfl, rfl⟩)
      all_goals
        go_ret
        exact ⟨rfl, (Below.refl _ _).alloc (Nat.le_refl _) _⟩

/-- What Put tells. -/
def eputS (s : Ent) : ByteArray := if entOk s = true then enB s else ByteArray.empty
theorem eput_no (s : Ent) (h : entOk s = false) (w : World) : Calls Tryz.prog 79 #[s.val] w fun e w' => e = .returned (.tuple #[.string ByteArray.empty, .bool false]) ∧ Below w.heap.size w w' := by
  have HR := Lib.hid (right_is s)
  rw [h] at HR
  clear h
  obtain ⟨q, h, e, f, g⟩ := s
  show Calls Tryz.prog 79 #[.agg #[.int .i64 q, .int .i64 h, .int .i64 e, .int .i64 f, .int .i64 g]] w _
  go_enter Tryz.func79, Tryz.ntmps79
  go_wp2_with (go_at_call 78; refine (HR.out _).mono ?_; rintro e' w1 ⟨rfl, b1⟩)
  go_ret2
  exact ⟨rfl, ((Below.refl _ _).alloc (Nat.le_refl _) _).trans (b1.mono (by simp))⟩

set_option maxRecDepth 100000 in
set_option maxHeartbeats 4000000 in
theorem eput_yes (s : Ent) (hk : entOk s = true) (w : World) : Calls Tryz.prog 79 #[s.val] w fun e w' => e = .returned (.tuple #[.string (enB s), .bool true]) ∧ Below w.heap.size w w' := by
  have HR := Lib.hid (right_is s)
  rw [hk] at HR
  clear hk
  obtain ⟨q, h, e, f, g⟩ := s
  show Calls Tryz.prog 79 #[.agg #[.int .i64 q, .int .i64 h, .int .i64 e, .int .i64 f, .int .i64 g]] w _
  have P1 := Lib.hid (Put_is q 1)
  have P2 := Lib.hid (Put_is h 4)
  have P3 := Lib.hid (Put_is e 4)
  have P4 := Lib.hid (Put_is f 4)
  have P5 := Lib.hid (Put_is g 4)
  have m1 := putE_max q 1 (by omega)
  have m2 := putE_max h 4 (by omega)
  have m3 := putE_max e 4 (by omega)
  have m4 := putE_max f 4 (by omega)
  have m5 := putE_max g 4 (by omega)
  have HB := Lib.hid (show enB ⟨q, h, e, f, g⟩ = sealS (putS q 1 ++ putS h 4 ++ putS e 4 ++ putS f 4 ++ putS g 4) 32 from (enB_is _).symm)
  have HBX := Lib.hid (box5 w (.int .i64 q) (.int .i64 h) (.int .i64 e) (.int .i64 f) (.int .i64 g) 101)
  go_enter Tryz.func79, Tryz.ntmps79
  go_wp2_with (go_at_call 78; refine (HR.out _).mono ?_; rintro e' w1 ⟨rfl, b1⟩)
  have HK := Lib.hid (keep5 HBX.out b1)
  clear b1 HBX
  generalize putS q 1 = p1 at *
  generalize putS h 4 = p2 at *
  generalize putS e 4 = p3 at *
  generalize putS f 4 = p4 at *
  generalize putS g 4 = p5 at *
  have z2' : ¬ 9223372036854775807 < p1.size + p2.size := by omega
  have z3' : ¬ 9223372036854775807 < p1.size + p2.size + p3.size := by omega
  go_region_held3 (fun u => u.cell? ⟨w.heap.size, 0, none⟩ = some (.int .i64 q) ∧ u.cell? ⟨w.heap.size, 1, none⟩ = some (.int .i64 h) ∧ u.cell? ⟨w.heap.size, 2, none⟩ = some (.int .i64 e) ∧ u.cell? ⟨w.heap.size, 3, none⟩ = some (.int .i64 f) ∧ u.cell? ⟨w.heap.size, 4, none⟩ = some (.int .i64 g) ∧ w.heap.size < u.heap.size ∧ Below w.heap.size w u) (first
      | assumption
      | exact HK.out
      | exact keep5 HK.out (Below.refl _ _).drew
      | exact keep5 (by assumption) b2) (first
    | (go_at_call 92
       (first | (with_reducible refine (P1.out _).mono ?_) | (with_reducible refine (P2.out _).mono ?_) | (with_reducible refine (P3.out _).mono ?_))
       rintro e' w2 ⟨rfl, b2⟩))
  rename_i hH
  have HK := Lib.hid hH
  clear hH
  have mW : (p1 ++ p2 ++ p3).size ≤ 9 := by simp only [ByteArray.size_append]; omega
  go_wp2_with fail
  generalize p1 ++ p2 ++ p3 = wd at *
  have y2 : ¬ 9223372036854775807 < wd.size + p4.size := by omega
  have y3 : ¬ 9223372036854775807 < wd.size + p4.size + p5.size := by omega
  have HM := Lib.hid (show (wd ++ p4 ++ p5).size ≤ maxLen by simp only [ByteArray.size_append, maxLen]; omega)
  have HS := Lib.hid (Seal_is (wd ++ p4 ++ p5) 32 HM.out)
  rw [← HB.out] at HS
  clear mW m1 m2 m3 m4 m5 z2' z3' HR P1 P2 P3 HM
  go_region_held3 (fun u => u.cell? ⟨w.heap.size, 0, none⟩ = some (.int .i64 q) ∧ u.cell? ⟨w.heap.size, 1, none⟩ = some (.int .i64 h) ∧ u.cell? ⟨w.heap.size, 2, none⟩ = some (.int .i64 e) ∧ u.cell? ⟨w.heap.size, 3, none⟩ = some (.int .i64 f) ∧ u.cell? ⟨w.heap.size, 4, none⟩ = some (.int .i64 g) ∧ w.heap.size < u.heap.size ∧ Below w.heap.size w u) (first
      | assumption
      | exact HK.out
      | exact keep5 HK.out (Below.refl _ _).drew
      | exact keep5 (by assumption) b2) (first
    | (go_at_call 92
       (first | (with_reducible refine (P4.out _).mono ?_) | (with_reducible refine (P5.out _).mono ?_))
       rintro e' w2 ⟨rfl, b2⟩)
    | (go_at_call 93
       refine (HS.out _).mono ?_
       rintro e' w2 ⟨rfl, b2⟩))
  rename_i hH
  have HK := Lib.hid hH
  clear hH
  go_wp2_with fail
  go_ret2
  exact ⟨rfl, HK.out.2.2.2.2.2.2⟩
theorem eput_is (s : Ent) (w : World) : Calls Tryz.prog 79 #[s.val] w fun e w' => e = .returned (.tuple #[.string (eputS s), .bool (entOk s)]) ∧ Below w.heap.size w w' := by
  cases h : entOk s
  · rw [show eputS s = ByteArray.empty from if_neg (by rw [h]; decide)]
    exact eput_no s h w
  · rw [show eputS s = enB s from if_pos h]
    exact eput_yes s h w
end Go.Proofs.YtbcdmcafobjpcaaGreatDoor
