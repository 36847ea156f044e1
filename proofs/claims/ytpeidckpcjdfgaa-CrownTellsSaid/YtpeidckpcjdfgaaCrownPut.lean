/- Package crown: isWithin, Right, Place, Put. -/
import Derived.Test.YtpeidckpcjdfgaaCrownMath
import Derived.Deep.RegionHeld3
namespace Go.Proofs.Ytpeidckpcjdfgaa
open Go.RowKit

theorem below_next {w w1 w2 : World} (h1 : Below w.heap.size w w1) (h2 : Below w1.heap.size w1 w2) : Below w.heap.size w w2 := h1.trans (h2.mono h1.size)
theorem rt_b {a b : Bool} (h : a = b) : Ending.returned (.bool a) = .returned (.bool b) := by rw [h]
theorem rt_i {a b : Int} (h : a = b) : Ending.returned (.int .i64 a) = .returned (.int .i64 b) := by rw [h]
theorem rt_sb {a b : ByteArray} {c d : Bool} (h : a = b) (h2 : c = d) : Ending.returned (.tuple #[.string a, .bool c]) = .returned (.tuple #[.string b, .bool d]) := by rw [h, h2]

def within (v a b : Int) : Bool := decide (a ≤ v ∧ v ≤ b)
theorem within_is (v a b : Int) (w : World) : Calls Try.prog 17 #[.int .i64 v, .int .i64 a, .int .i64 b] w fun e w' => e = .returned (.bool (within v a b)) ∧ w' = w := by
  by_cases h : a ≤ v
  · by_cases h2 : v ≤ b
    · have H := Lib.hid (show within v a b = true from decide_eq_true ⟨h, h2⟩)
      rw [H.out]
      go_enter Try.func17, Try.ntmps17
      go_wp2
      all_goals
        go_ret
        exact ⟨rfl, rfl⟩
    · have H := Lib.hid (show within v a b = false from decide_eq_false (fun q => h2 q.2))
      rw [H.out]
      go_enter Try.func17, Try.ntmps17
      go_wp2
      all_goals
        go_ret
        exact ⟨rfl, rfl⟩
  · have H := Lib.hid (show within v a b = false from decide_eq_false (fun q => h q.1))
    rw [H.out]
    go_enter Try.func17, Try.ntmps17
    go_wp2
    all_goals
      go_ret
      exact ⟨rfl, rfl⟩
theorem supOk_is (s : Sup) : supOk s = (within s.q 0 900000000 && within s.h 0 900000000 && within s.e 0 900000000 && within s.f 8 400 && within s.g 4 300) := by
  unfold supOk mostI within
  rw [Bool.eq_iff_iff]
  simp only [Bool.and_eq_true, decide_eq_true_eq]
  omega

set_option maxRecDepth 100000 in
set_option maxHeartbeats 1000000 in
theorem right_is (s : Sup) (w : World) : Calls Try.prog 7 #[s.val] w fun e w' => e = .returned (.bool (supOk s)) ∧ Below w.heap.size w w' := by
  rw [supOk_is]
  obtain ⟨q, h, e, f, g⟩ := s
  show Calls Try.prog 7 #[.agg #[.int .i64 q, .int .i64 h, .int .i64 e, .int .i64 f, .int .i64 g]] w _
  have HM := Lib.hid within_is
  simp only
  go_enter Try.func7, Try.ntmps7
  go_wp2_with (go_at_call 17; refine (HM.out _ _ _ _).mono ?_; rintro e' w1 ⟨rfl, rfl⟩)
  all_goals
    go_ret
    refine ⟨rt_b ?_, (Below.refl _ _).alloc (Nat.le_refl _) _⟩
    simp_all

theorem place_is (s : Sup) (w : World) : Calls Try.prog 9 #[s.val] w fun e w' => e = .returned (.int .i64 (bits BinOp.and .i64 s.q 1)) ∧ Below w.heap.size w w' := by
  obtain ⟨q, h, e, f, g⟩ := s
  show Calls Try.prog 9 #[.agg #[.int .i64 q, .int .i64 h, .int .i64 e, .int .i64 f, .int .i64 g]] w _
  simp only
  go_enter Try.func9, Try.ntmps9
  go_wp2
  go_ret
  exact ⟨rfl, (Below.refl _ _).alloc (Nat.le_refl _) _⟩

/-- What Put tells. -/
def cputS (s : Sup) : ByteArray := if supOk s = true then crB s else ByteArray.empty
theorem cput_no (s : Sup) (h : supOk s = false) (w : World) : Calls Try.prog 5 #[s.val] w fun e w' => e = .returned (.tuple #[.string ByteArray.empty, .bool false]) ∧ Below w.heap.size w w' := by
  have HR := Lib.hid (right_is s)
  rw [h] at HR
  clear h
  obtain ⟨q, h, e, f, g⟩ := s
  show Calls Try.prog 5 #[.agg #[.int .i64 q, .int .i64 h, .int .i64 e, .int .i64 f, .int .i64 g]] w _
  go_enter Try.func5, Try.ntmps5
  go_wp2_with (go_at_call 7; refine (HR.out _).mono ?_; rintro e' w1 ⟨rfl, b1⟩)
  go_ret2
  exact ⟨rfl, ((Below.refl _ _).alloc (Nat.le_refl _) _).trans (b1.mono (by simp))⟩

/-- A boxed crown, as it is kept through calls. -/
theorem keep5 {w u u' : World} {v0 v1 v2 v3 v4 : Value} (h : u.cell? ⟨w.heap.size, 0, none⟩ = some v0 ∧ u.cell? ⟨w.heap.size, 1, none⟩ = some v1 ∧ u.cell? ⟨w.heap.size, 2, none⟩ = some v2 ∧ u.cell? ⟨w.heap.size, 3, none⟩ = some v3 ∧ u.cell? ⟨w.heap.size, 4, none⟩ = some v4 ∧ w.heap.size < u.heap.size ∧ Below w.heap.size w u) (b : Below u.heap.size u u') :
    u'.cell? ⟨w.heap.size, 0, none⟩ = some v0 ∧ u'.cell? ⟨w.heap.size, 1, none⟩ = some v1 ∧ u'.cell? ⟨w.heap.size, 2, none⟩ = some v2 ∧ u'.cell? ⟨w.heap.size, 3, none⟩ = some v3 ∧ u'.cell? ⟨w.heap.size, 4, none⟩ = some v4 ∧ w.heap.size < u'.heap.size ∧ Below w.heap.size w u' := by
  obtain ⟨h0, h1, h2, h3, h4, h5, h6⟩ := h
  exact ⟨(b.cell (p := ⟨w.heap.size, 0, none⟩) h5).trans h0, (b.cell (p := ⟨w.heap.size, 1, none⟩) h5).trans h1, (b.cell (p := ⟨w.heap.size, 2, none⟩) h5).trans h2, (b.cell (p := ⟨w.heap.size, 3, none⟩) h5).trans h3, (b.cell (p := ⟨w.heap.size, 4, none⟩) h5).trans h4,
    Nat.lt_of_lt_of_le h5 b.size, below_next h6 b⟩
theorem box5 (w : World) (v0 v1 v2 v3 v4 : Value) (t : TypeId) : (w.alloc (.cells #[v0, v1, v2, v3, v4] t)).cell? ⟨w.heap.size, 0, none⟩ = some v0 ∧ (w.alloc (.cells #[v0, v1, v2, v3, v4] t)).cell? ⟨w.heap.size, 1, none⟩ = some v1 ∧ (w.alloc (.cells #[v0, v1, v2, v3, v4] t)).cell? ⟨w.heap.size, 2, none⟩ = some v2 ∧ (w.alloc (.cells #[v0, v1, v2, v3, v4] t)).cell? ⟨w.heap.size, 3, none⟩ = some v3 ∧ (w.alloc (.cells #[v0, v1, v2, v3, v4] t)).cell? ⟨w.heap.size, 4, none⟩ = some v4 ∧ w.heap.size < (w.alloc (.cells #[v0, v1, v2, v3, v4] t)).heap.size ∧ Below w.heap.size w (w.alloc (.cells #[v0, v1, v2, v3, v4] t)) := by
  refine ⟨?_, ?_, ?_, ?_, ?_, by simp, (Below.refl _ _).alloc (Nat.le_refl _) _⟩ <;> simp

set_option maxRecDepth 100000 in
set_option maxHeartbeats 4000000 in
theorem cput_yes (s : Sup) (hk : supOk s = true) (w : World) : Calls Try.prog 5 #[s.val] w fun e w' => e = .returned (.tuple #[.string (crB s), .bool true]) ∧ Below w.heap.size w w' := by
  have HR := Lib.hid (right_is s)
  rw [hk] at HR
  clear hk
  obtain ⟨q, h, e, f, g⟩ := s
  show Calls Try.prog 5 #[.agg #[.int .i64 q, .int .i64 h, .int .i64 e, .int .i64 f, .int .i64 g]] w _
  have P1 := Lib.hid (Put_is q 4)
  have P2 := Lib.hid (Put_is h 4)
  have P3 := Lib.hid (Put_is e 4)
  have P4 := Lib.hid (Put_is f 2)
  have P5 := Lib.hid (Put_is g 2)
  have m1 := putS_max q 4 (by omega)
  have m2 := putS_max h 4 (by omega)
  have m3 := putS_max e 4 (by omega)
  have m4 := putS_max f 2 (by omega)
  have m5 := putS_max g 2 (by omega)
  have HB := Lib.hid (show crB ⟨q, h, e, f, g⟩ = sealS (flit ++ putS q 4 ++ putS h 4 ++ putS e 4 ++ putS f 2 ++ putS g 2) 32 from (crB_is _).symm)
  have HBX := Lib.hid (box5 w (.int .i64 q) (.int .i64 h) (.int .i64 e) (.int .i64 f) (.int .i64 g) 23)
  go_enter Try.func5, Try.ntmps5
  go_wp2_with (go_at_call 7; refine (HR.out _).mono ?_; rintro e' w1 ⟨rfl, b1⟩)
  have HK := Lib.hid (keep5 HBX.out b1)
  clear b1 HBX
  generalize putS q 4 = p1 at *
  generalize putS h 4 = p2 at *
  generalize putS e 4 = p3 at *
  generalize putS f 2 = p4 at *
  generalize putS g 2 = p5 at *
  have z2' : ¬ 9223372036854775807 < p1.size + p2.size := by omega
  have z3' : ¬ 9223372036854775807 < p1.size + p2.size + p3.size := by omega
  go_region_held3 (fun u => u.cell? ⟨w.heap.size, 0, none⟩ = some (.int .i64 q) ∧ u.cell? ⟨w.heap.size, 1, none⟩ = some (.int .i64 h) ∧ u.cell? ⟨w.heap.size, 2, none⟩ = some (.int .i64 e) ∧ u.cell? ⟨w.heap.size, 3, none⟩ = some (.int .i64 f) ∧ u.cell? ⟨w.heap.size, 4, none⟩ = some (.int .i64 g) ∧ w.heap.size < u.heap.size ∧ Below w.heap.size w u) (first
      | assumption
      | exact HK.out
      | exact keep5 HK.out (Below.refl _ _).drew
      | exact keep5 (by assumption) b2) (first
    | (go_at_call 14
       (first | (with_reducible refine (P1.out _).mono ?_) | (with_reducible refine (P2.out _).mono ?_) | (with_reducible refine (P3.out _).mono ?_))
       rintro e' w2 ⟨rfl, b2⟩))
  rename_i hH
  have HK := Lib.hid hH
  clear hH
  have HX := Lib.hid (show flit ++ (p1 ++ p2 ++ p3) ++ p4 ++ p5 = flit ++ p1 ++ p2 ++ p3 ++ p4 ++ p5 by simp only [ByteArray.append_assoc])
  rw [← HX.out] at HB
  have HF := Lib.hid (show (⟨#[70, 76, 73, 84]⟩ : ByteArray) = flit from rfl)
  have mF : flit.size = 4 := rfl
  have mW : (p1 ++ p2 ++ p3).size ≤ 12 := by simp only [ByteArray.size_append]; omega
  go_wp2_with fail
  generalize p1 ++ p2 ++ p3 = wd at *
  have y1 : ¬ 9223372036854775807 < 4 + wd.size := by omega
  have y2 : ¬ 9223372036854775807 < 4 + wd.size + p4.size := by omega
  have y3 : ¬ 9223372036854775807 < 4 + wd.size + p4.size + p5.size := by omega
  have HM := Lib.hid (show (flit ++ wd ++ p4 ++ p5).size ≤ maxLen by simp only [ByteArray.size_append, maxLen]; omega)
  have HS := Lib.hid (Seal_is (flit ++ wd ++ p4 ++ p5) 32 HM.out)
  rw [← HB.out] at HS
  clear mF mW m1 m2 m3 m4 m5 z2' z3' HR P1 P2 P3 HM HX
  go_region_held3 (fun u => u.cell? ⟨w.heap.size, 0, none⟩ = some (.int .i64 q) ∧ u.cell? ⟨w.heap.size, 1, none⟩ = some (.int .i64 h) ∧ u.cell? ⟨w.heap.size, 2, none⟩ = some (.int .i64 e) ∧ u.cell? ⟨w.heap.size, 3, none⟩ = some (.int .i64 f) ∧ u.cell? ⟨w.heap.size, 4, none⟩ = some (.int .i64 g) ∧ w.heap.size < u.heap.size ∧ Below w.heap.size w u) (first
      | assumption
      | exact HK.out
      | exact keep5 HK.out (Below.refl _ _).drew
      | exact keep5 (by assumption) b2) (first
    | (go_at_call 14
       (first | (with_reducible refine (P4.out _).mono ?_) | (with_reducible refine (P5.out _).mono ?_))
       rintro e' w2 ⟨rfl, b2⟩)
    | (go_at_call 15
       refine (HS.out _).mono ?_
       rintro e' w2 ⟨rfl, b2⟩))
  rename_i hH
  have HK := Lib.hid hH
  clear hH
  go_wp2_with fail

  go_ret2
  exact ⟨rfl, HK.out.2.2.2.2.2.2⟩
end Go.Proofs.Ytpeidckpcjdfgaa
