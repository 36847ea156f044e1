/- The document's own geometry: its calls, of one that may be. -/
import Derived.Test.YtngfijpdbjkpiaaGeoIs
namespace Go.Proofs.Ytngfijpdbjkpiaa
open Go.RowKit

set_option maxRecDepth 100000 in
theorem rgeo_is (h l : Int) (w : World) : Calls Try.prog 7 #[.agg #[.int .i64 h, .int .i64 l]] w fun e w' => e = .returned (.bool (gOk h l)) ∧ Below w.heap.size w w' := by
  go_enter Try.func7, Try.ntmps7
  go_wp2
  all_goals
    go_ret
    refine ⟨geo_b ?_, (Below.refl _ _).alloc (Nat.le_refl _) _⟩
    first
      | exact (decide_eq_true (by omega)).symm
      | exact (decide_eq_false (by omega)).symm
      | (rw [Bool.eq_iff_iff]; simp [gOk]; omega)

set_option maxRecDepth 100000 in
theorem rcells_is (h l : Int) (q : gOk h l = true) (w : World) : Calls Try.prog 19 #[.agg #[.int .i64 h, .int .i64 l]] w fun e w' => e = .returned (.int .i64 (gCells h l)) ∧ Below w.heap.size w w' := by
  rw [gCells_yes q]
  have hq := gOk_yes q
  clear q
  go_enter Try.func19, Try.ntmps19
  go_wp2
  go_ret
  exact ⟨geo_i (by omega), (Below.refl _ _).alloc (Nat.le_refl _) _⟩

set_option maxRecDepth 100000 in
theorem rpages_is (h l : Int) (q : gOk h l = true) (w : World) : Calls Try.prog 17 #[.agg #[.int .i64 h, .int .i64 l]] w fun e w' => e = .returned (.int .i64 (gPages h l)) ∧ Below w.heap.size w w' := by
  have HC := Lib.hid (rcells_is h l q)
  have hc := gCells_le h l
  rw [show gPages h l = (gCells h l + 15) / 16 from rfl]
  clear q
  generalize gCells h l = c at *
  go_enter Try.func17, Try.ntmps17
  go_wp2_with (go_at_call 19; refine (HC.out _).mono ?_; rintro e' w1 ⟨rfl, b1⟩; have HK := Lib.hid b1; clear b1)
  go_ret
  exact ⟨geo_i (by omega), ((Below.refl _ _).alloc (Nat.le_refl _) _).trans (HK.out.mono (by simp))⟩

set_option maxRecDepth 100000 in
theorem rlogat_is (h l : Int) (q : gOk h l = true) (w : World) : Calls Try.prog 20 #[.agg #[.int .i64 h, .int .i64 l]] w fun e w' => e = .returned (.int .i64 (gLog h l)) ∧ Below w.heap.size w w' := by
  have HC := Lib.hid (rpages_is h l q)
  have hc := gPages_le h l
  rw [gLog_yes q]
  clear q
  generalize gPages h l = c at *
  go_enter Try.func20, Try.ntmps20
  go_wp2_with (go_at_call 17; refine (HC.out _).mono ?_; rintro e' w1 ⟨rfl, b1⟩; have HK := Lib.hid b1; clear b1)
  go_ret
  exact ⟨geo_i (by omega), ((Below.refl _ _).alloc (Nat.le_refl _) _).trans (HK.out.mono (by simp))⟩

set_option maxRecDepth 100000 in
theorem rsectors_is (h l : Int) (q : gOk h l = true) (w : World) : Calls Try.prog 21 #[.agg #[.int .i64 h, .int .i64 l]] w fun e w' => e = .returned (.int .i64 (gSectors h l)) ∧ Below w.heap.size w w' := by
  have HL := Lib.hid (rlogat_is h l q)
  have hp := gPages_le h l
  have hq := gOk_yes q
  rw [gLog_yes q] at HL
  rw [gSectors_yes q]
  clear q
  generalize gPages h l = p at *
  have HB := Lib.hid ((GBox.made w h l 23).keep ((Below.refl _ _).alloc (Nat.le_refl _) _))
  go_enter Try.func21, Try.ntmps21
  go_wp2_with fail
  go_region_held3 (fun u => u.cell? ⟨w.heap.size, 0, none⟩ = some (.int .i64 h) ∧ u.cell? ⟨w.heap.size, 1, none⟩ = some (.int .i64 l) ∧ w.heap.size < u.heap.size ∧ Below w.heap.size w u) (first
      | assumption
      | exact HB.out
      | exact gkeep HB.out (Below.refl _ _).drew
      | exact gkeep (by assumption) b2) (first
    | (go_at_call 20; refine (HL.out _).mono ?_; rintro e' w2 ⟨rfl, b2⟩))
  rename_i hH
  have HK := Lib.hid hH
  clear hH
  go_wp2_with fail
  go_ret
  exact ⟨geo_i (by rw [IntKind.wrap_i64]; omega), HK.out.2.2.2⟩

set_option maxRecDepth 100000 in
theorem rbase_is (h l sp : Int) (q : gOk h l = true) (hs : sp = 0 ∨ sp = 1) (w : World) : Calls Try.prog 18 #[.agg #[.int .i64 h, .int .i64 l], .int .i64 sp] w fun e w' => e = .returned (.int .i64 (gBase h l sp)) ∧ Below w.heap.size w w' := by
  have hq := gOk_yes q
  have hv : gBase h l sp = 16 + sp * h := if_pos (by rw [gHalf, q, Bool.true_and]; exact decide_eq_true (by omega))
  rw [hv]
  clear q hv
  rcases hs with rfl | rfl
  all_goals
    go_enter Try.func18, Try.ntmps18
    go_wp2
    go_ret
    exact ⟨geo_i (by simp <;> omega), (Below.refl _ _).alloc (Nat.le_refl _) _⟩
end Go.Proofs.Ytngfijpdbjkpiaa
