/- The law's helper alive: it answers true. -/
import Derived.Test.YtpeidckpcjdfgaaCrownNewer
namespace Go.Proofs.Ytpeidckpcjdfgaa
open Go.RowKit

def sup4 : Sup := ⟨4, 0, 0, 8, 4⟩
def tornB : ByteArray := ⟨#[116, 111, 114, 110]⟩
theorem sup4_ok : supOk sup4 = true := by decide
theorem torn_no : crIs tornB = false := decide_eq_false (fun q => absurd q.1 (by decide))
theorem sup4_new : newS (crB sup4) tornB = sup4 ∧ newN (crB sup4) tornB = 0 ∧ (crIs (crB sup4) || crIs tornB) = true := by
  obtain ⟨h1, h2⟩ := cr_put sup4_ok
  have hf : nwF (crIs (crB sup4)) (crIs tornB) (cgetS (crB sup4)) (cgetS tornB) = true := by rw [h1, torn_no]; rfl
  refine ⟨?_, ?_, ?_⟩
  · rw [newS, nwS, if_pos hf, cgetS_yes h1, h2]
  · rw [newN, nwN, if_pos hf]
  · rw [h1]; rfl
theorem and_4 : bits BinOp.and IntKind.i64 4 1 = 0 := by decide

set_option maxRecDepth 100000 in
set_option maxHeartbeats 1000000 in
theorem alive_is (w : World) : Calls Try.prog 4 #[] w fun e w' => e = .returned (.bool true) ∧ Below w.heap.size w w' := by
  have hs := crB_size sup4
  have HP := Lib.hid (fun u => cput_yes sup4 sup4_ok u)
  have HN := Lib.hid (fun u => newer_is (crB sup4) tornB (by rw [hs]; unfold maxLen; omega) (by show 4 ≤ _; unfold maxLen; omega) u)
  rw [sup4_new.1, sup4_new.2.1, sup4_new.2.2] at HN
  have HL := Lib.hid (fun u => place_is sup4 u)
  rw [show sup4.q = 4 from rfl, and_4] at HL
  have hl : (((crB sup4).size : Nat) : Int) = 32 := by omega
  clear hs
  rw [show sup4.val = .agg #[.int .i64 4, .int .i64 0, .int .i64 0, .int .i64 8, .int .i64 4] from rfl] at HP HN HL
  generalize crB sup4 = a at *
  have hB := Below.refl w.heap.size w
  go_enter Try.func4, Try.ntmps4
  go_wp2_with (first
    | (go_at_call 5; refine (HP.out _).mono ?_; rintro e w1 ⟨rfl, b1⟩; replace hB := below_next hB b1; clear b1)
    | (go_at_call 11; refine (HN.out _).mono ?_; rintro e w2 ⟨rfl, b2⟩; replace hB := below_next hB b2; clear b2)
    | (go_at_call 9; refine (HL.out _).mono ?_; rintro e w3 ⟨rfl, b3⟩; have HE := Lib.hid b3; clear b3))
  go_ret
  exact ⟨rfl, below_next (hB.alloc hB.size _) HE.out⟩
end Go.Proofs.Ytpeidckpcjdfgaa
