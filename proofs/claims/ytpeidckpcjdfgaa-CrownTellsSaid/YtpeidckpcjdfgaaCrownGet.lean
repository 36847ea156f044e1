/- Package crown: Get. -/
import Derived.Test.YtpeidckpcjdfgaaCrownNum
namespace Go.Proofs.Ytpeidckpcjdfgaa
open Go.RowKit

def supZ : Sup := ⟨0, 0, 0, 0, 0⟩
/-- What Get tells. -/
def cgetS (b : ByteArray) : Sup := if crIs b = true then supOf b else supZ
theorem cgetS_no {b : ByteArray} (h : crIs b = false) : cgetS b = supZ := if_neg (by rw [h]; decide)
theorem cgetS_yes {b : ByteArray} (h : crIs b = true) : cgetS b = supOf b := if_pos h
theorem cg_no {b : ByteArray} (h : crIs b = false) : Ending.returned (.tuple #[.agg #[.int .i64 0, .int .i64 0, .int .i64 0, .int .i64 0, .int .i64 0], .bool false]) = .returned (.tuple #[(cgetS b).val, .bool (crIs b)]) := by rw [h, cgetS_no h]; rfl
theorem cg_yes {b : ByteArray} {s : Sup} (hs : supOf b = s) (h : crIs b = true) : Ending.returned (.tuple #[.agg #[.int .i64 s.q, .int .i64 s.h, .int .i64 s.e, .int .i64 s.f, .int .i64 s.g], .bool true]) = .returned (.tuple #[(cgetS b).val, .bool (crIs b)]) := by rw [h, cgetS_yes h, hs]; rfl
theorem cput_is (s : Sup) (w : World) : Calls Try.prog 5 #[s.val] w fun e w' => e = .returned (.tuple #[.string (cputS s), .bool (supOk s)]) ∧ Below w.heap.size w w' := by
  cases h : supOk s
  · rw [show cputS s = ByteArray.empty from if_neg (by rw [h]; decide)]
    exact cput_no s h w
  · rw [show cputS s = crB s from if_pos h]
    exact cput_yes s h w
theorem str_inj {a b : ByteArray} : a.toList = b.toList ↔ a = b := by
  rw [ByteArray.toList_eq, ByteArray.toList_eq]
  exact ⟨ba_ext, fun h => by rw [h]⟩
theorem str_eqB {a b : ByteArray} {c : Bool} (h : decide (a = b) = c) : (a.toList == b.toList) = c := by
  rw [← h, Bool.eq_iff_iff, beq_iff_eq, str_inj, decide_eq_true_eq]

set_option maxRecDepth 100000 in
set_option maxHeartbeats 1000000 in
theorem cget_is (b : ByteArray) (hb : b.size ≤ maxLen) (w : World) : Calls Try.prog 10 #[.string b] w fun e w' => e = .returned (.tuple #[(cgetS b).val, .bool (crIs b)]) ∧ Below w.heap.size w w' := by
  unfold maxLen at hb
  by_cases h1 : b.size = 32
  · have HN := Lib.hid (numbers_is b h1)
    have HP := Lib.hid (cput_is (supOf b))
    have hn : (b.size : Int) = 32 := by omega
    have HI0 : crIs b = (supOk (supOf b) && decide (cputS (supOf b) = b)) := by
      unfold crIs cputS
      rw [Bool.eq_iff_iff]
      simp only [Bool.and_eq_true, decide_eq_true_eq]
      constructor
      · rintro ⟨_, a2, a3⟩
        exact ⟨a2, by rw [if_pos a2]; exact a3⟩
      · rintro ⟨a2, a3⟩
        exact ⟨h1, a2, by rw [if_pos a2] at a3; exact a3⟩
    have HV := Lib.hid (show (supOf b).val = .agg #[.int .i64 (supOf b).q, .int .i64 (supOf b).h, .int .i64 (supOf b).e, .int .i64 (supOf b).f, .int .i64 (supOf b).g] from rfl)
    clear h1
    generalize hsv : supOf b = s at *
    have HSV := Lib.hid hsv
    clear hsv
    generalize supOk s = ok at *
    generalize cputS s = made at *
    generalize hq : decide (made = b) = same at *
    have hst := str_eqB hq
    clear hq
    have HI := Lib.hid HI0
    clear HI0
    rw [HV.out] at HN HP
    go_enter Try.func10, Try.ntmps10
    go_wp2_with (first
      | (go_at_call 20
         refine (HN.out _).mono ?_
         rintro e' w1 ⟨rfl, b1⟩
         have R1 := Lib.hid (Row5.laid b1)
         clear b1)
      | (go_at_call 5
         refine (HP.out _).mono ?_
         rintro e' w2 ⟨rfl, b2⟩
         have R2 := Lib.hid (Row5.laid b2)
         clear b2
         obtain ⟨_, c0, c1, c2, c3, c4, f0, f1, f2, f3, f4⟩ := R1.out.1.below R2.out.2
         obtain ⟨_, d0, d1, d2, d3, d4, _, _, _, _, _⟩ := R2.out.1))
    all_goals first
      | (refine bodyPost_ret (results_cell2 rfl rfl ((R1.out.1.below R2.out.2).set5 _ _ _ _ _).load rfl) rfl ⟨?_, Row5.kept (below_next R1.out.2 R2.out.2)⟩
         clear HN HP HV hst
         refine cg_no ?_
         rw [HI.out]
         simp_all
         done)
      | (refine bodyPost_ret (results_cell2 rfl rfl ((R1.out.1.below R2.out.2).set5 _ _ _ _ _).load rfl) rfl ⟨?_, Row5.kept (below_next R1.out.2 R2.out.2)⟩
         clear HN HP HV hst
         refine cg_yes HSV.out ?_
         rw [HI.out]
         simp_all)
  · have hn : (b.size : Int) < 32 ∨ 32 < (b.size : Int) := by omega
    have HI := Lib.hid (show crIs b = false from decide_eq_false (fun q => h1 q.1))
    clear h1
    rcases hn with hn | hn
    all_goals
      go_enter Try.func10, Try.ntmps10
      go_wp2
      refine bodyPost_ret (v := .tuple #[.agg #[.int .i64 0, .int .i64 0, .int .i64 0, .int .i64 0, .int .i64 0], .bool false]) (by simp [results, Try.results10, go_sem]) rfl ⟨cg_no HI.out, ?_⟩
      exact (Below.refl _ _).alloc (Nat.le_refl _) _
end Go.Proofs.Ytpeidckpcjdfgaa
