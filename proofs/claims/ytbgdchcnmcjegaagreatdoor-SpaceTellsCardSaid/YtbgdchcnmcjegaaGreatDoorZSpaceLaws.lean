/- The laws of stage 11: their helper alive; two controls compared. -/
import Derived.Test.YtbgdchcnmcjegaaGreatDoorZSpace
set_option linter.unusedVariables false
set_option linter.unusedSimpArgs false
namespace Go.Proofs.YtbgdchcnmcjegaaGreatDoor
open Go.RowKit Sec
open Go.Proofs.YtbgdchcnmcjegaaGreatDoor.Bk

theorem run_eq4s (w : World) (a b c d : Int) : (binOp .eql 26 (.agg #[.int .i64 a, .int .i64 b, .int .i64 c, .int .i64 d]) (.agg #[.int .i64 a, .int .i64 b, .int .i64 c, .int .i64 d])).run Tryz.prog w = .ok (.bool true) w := by
  go_simp
theorem run_ne4s (w : World) (a b c d : Int) : (binOp .neq 26 (.agg #[.int .i64 a, .int .i64 b, .int .i64 c, .int .i64 d]) (.agg #[.int .i64 a, .int .i64 b, .int .i64 c, .int .i64 d])).run Tryz.prog w = .ok (.bool false) w := by
  go_simp
set_option maxRecDepth 100000 in
set_option maxHeartbeats 1000000 in
theorem spalive_is {w : World} (ht : TyOk w.heap.size w) : Calls Tryz.prog 6 #[] w fun e w' => e = .returned (.bool true) ∧ Below w.heap.size w w' := by
  have HB : Hid (Calls Tryz.prog 19 #[.agg #[.int .i64 8, .int .i64 6]] w fun r w' => ∃ s p, r = .returned (.tuple #[.pointer (some ⟨p, 0, none⟩), .pointer (some ⟨s, 0, none⟩)]) ∧ St w.heap.size (fun b => b < w.heap.size) w' s 8 6 (freshC 8) ∧ Below w.heap.size w w') := Lib.hid (Begin_st ht 8 6 (by omega))
  have HL : Hid (∀ B G u s, St B G u s 8 6 (freshC 8) → Calls Tryz.prog 13 #[.pointer (some ⟨s, 0, none⟩)] u fun e w' => e = .returned (.int .i64 8) ∧ Below u.heap.size u w') := Lib.hid (fun B G u s h => spleft_st h)
  have HU : Hid (∀ B G u s, St B G u s 8 6 (freshC 8) → Calls Tryz.prog 14 #[.pointer (some ⟨s, 0, none⟩)] u fun e w' => e = .returned (.int .i64 0) ∧ Below u.heap.size u w') := Lib.hid (fun B G u s h => spused_st h)
  have HG : Hid (∀ B G u s, St B G u s 8 6 (freshC 8) → Calls Tryz.prog 12 #[.pointer (some ⟨s, 0, none⟩)] u fun e w' => e = .returned (.agg #[.int .i64 0, .int .i64 16, .int .i64 0, .int .i64 0]) ∧ Below u.heap.size u w') := Lib.hid (fun B G u s h => spget_st h)
  have hez := fun u => run_eq4s u 0 16 0 0
  clear ht
  go_enter Tryz.func6, Tryz.ntmps6
  go_wp2_with (first
    | (go_at_call 19; refine HB.out.mono ?_; rintro e w1 ⟨s, p, rfl, h1, b1⟩; have H1 := Lib.hid (And.intro h1 b1); clear h1 b1)
    | (go_at_call 13; refine (HL.out _ _ _ _ H1.out.1).mono ?_; rintro e w2 ⟨rfl, b2⟩; replace H1 := Lib.hid (And.intro (H1.out.1.below b2) (geo_next H1.out.2 b2)); clear b2)
    | (go_at_call 14; refine (HU.out _ _ _ _ H1.out.1).mono ?_; rintro e w3 ⟨rfl, b3⟩; replace H1 := Lib.hid (And.intro (H1.out.1.below b3) (geo_next H1.out.2 b3)); clear b3)
    | (go_at_call 12; refine (HG.out _ _ _ _ H1.out.1).mono ?_; rintro e w4 ⟨rfl, b4⟩; replace H1 := Lib.hid (And.intro (H1.out.1.below b4) (geo_next H1.out.2 b4)); clear b4))
  go_ret
  exact ⟨rfl, H1.out.2⟩
end Go.Proofs.YtbgdchcnmcjegaaGreatDoor
