/- The document's own crowns: Crowned. -/
import Derived.Test.YtpeidckpcjdfgaaCrownRefs
namespace Go.Proofs.Ytpeidckpcjdfgaa
open Go.RowKit

theorem supOf_val (t : ByteArray) : (supOf t).val = .agg #[.int .i64 (getI (t.extract 4 8)), .int .i64 (getI (t.extract 8 12)), .int .i64 (getI (t.extract 12 16)), .int .i64 (getI (t.extract 16 18)), .int .i64 (getI (t.extract 18 20))] := by unfold supOf Sup.val; rfl
theorem supOf_eq (t : ByteArray) : supOf t = ⟨getI (t.extract 4 8), getI (t.extract 8 12), getI (t.extract 12 16), getI (t.extract 16 18), getI (t.extract 18 20)⟩ := by unfold supOf; rfl
theorem Row5.drew {u : World} {g : Nat} {v0 v1 v2 v3 v4 : Value} (h : Row5 u g v0 v1 v2 v3 v4) : Row5 u.drew g v0 v1 v2 v3 v4 :=
  ⟨h.lt, h.c0, h.c1, h.c2, h.c3, h.c4, h.f0, h.f1, h.f2, h.f3, h.f4⟩
set_option maxRecDepth 100000 in
set_option maxHeartbeats 4000000 in
/-- Opened, and of the right length: what is told hangs on what its bytes say. -/
theorem rcrowned_in (b : ByteArray) (hb : b.size = 32) (ho : opens b = true) (w : World) : Calls Try.prog 13 #[.string b] w fun e w' => e = .returned (.tuple #[(cgetS b).val, .bool (crIs b)]) ∧ Below w.heap.size w w' := by
  have HO := Lib.hid (rOpen_is b (by omega))
  rw [ho] at HO
  have hob : openS b = bodyOf b := if_pos ho
  rw [hob] at HO
  have hsz : (bodyOf b).size = 28 := by rw [bodyOf_size]; omega
  have hsb := sup_body b hb
  have HSU := Lib.hid (rsuper_is (supOf b))
  have HC := Lib.hid (rcrown_is (supOf b))
  have HI0 : crIs b = (supOk (supOf b) && decide (crB (supOf b) = b)) := by
    unfold crIs
    rw [Bool.eq_iff_iff]
    simp only [Bool.and_eq_true, decide_eq_true_eq]
    exact ⟨fun q => ⟨q.2.1, q.2.2⟩, fun q => ⟨hb, q.1, q.2⟩⟩
  have G : ∀ (i j : Nat), j ≤ 28 → ∀ u, Calls Try.prog 22 #[.string ((bodyOf b).extract i j)] u fun e w' => e = .returned (.int .i64 (getI ((bodyOf b).extract i j))) ∧ w' = u := fun i j hj u => rGet_is _ (by rw [ByteArray.size_extract]; unfold maxLen; omega) u
  have G1 := Lib.hid (G 4 8 (by omega))
  have G2 := Lib.hid (G 8 12 (by omega))
  have G3 := Lib.hid (G 12 16 (by omega))
  have G4 := Lib.hid (G 16 18 (by omega))
  have G5 := Lib.hid (G 18 20 (by omega))
  have s1 := cut_str (bodyOf b) 4 8 4 8 rfl rfl (by omega) (by omega)
  have s2 := cut_str (bodyOf b) 8 12 8 12 rfl rfl (by omega) (by omega)
  have s3 := cut_str (bodyOf b) 12 16 12 16 rfl rfl (by omega) (by omega)
  have s4 := cut_str (bodyOf b) 16 18 16 18 rfl rfl (by omega) (by omega)
  have s5 := cut_str (bodyOf b) 18 20 18 20 rfl rfl (by omega) (by omega)
  have HV := Lib.hid (show (supOf b).val = .agg #[.int .i64 (getI ((bodyOf b).extract 4 8)), .int .i64 (getI ((bodyOf b).extract 8 12)), .int .i64 (getI ((bodyOf b).extract 12 16)), .int .i64 (getI ((bodyOf b).extract 16 18)), .int .i64 (getI ((bodyOf b).extract 18 20))] by rw [← hsb]; exact supOf_val _)
  have HV2 := Lib.hid (show supOf b = ⟨getI ((bodyOf b).extract 4 8), getI ((bodyOf b).extract 8 12), getI ((bodyOf b).extract 12 16), getI ((bodyOf b).extract 16 18), getI ((bodyOf b).extract 18 20)⟩ by rw [← hsb]; exact supOf_eq _)
  rw [HV.out] at HSU HC
  generalize crB (supOf b) = made at *
  generalize supOk (supOf b) = ok at *
  generalize hq : decide (made = b) = same at *
  have hst := str_eqB hq
  have HI := Lib.hid HI0
  have hn : (b.size : Int) = 32 := by omega
  clear HI0 hq hsb G hob ho hsz hb HV
  generalize getI ((bodyOf b).extract 4 8) = x1 at *
  generalize getI ((bodyOf b).extract 8 12) = x2 at *
  generalize getI ((bodyOf b).extract 12 16) = x3 at *
  generalize getI ((bodyOf b).extract 16 18) = x4 at *
  generalize getI ((bodyOf b).extract 18 20) = x5 at *
  generalize (bodyOf b).extract 4 8 = t1 at *
  generalize (bodyOf b).extract 8 12 = t2 at *
  generalize (bodyOf b).extract 12 16 = t3 at *
  generalize (bodyOf b).extract 16 18 = t4 at *
  generalize (bodyOf b).extract 18 20 = t5 at *
  generalize bodyOf b = t at *
  go_enter Try.func13, Try.ntmps13
  go_wp2_with (go_at_call 21
               refine (HO.out _).mono ?_
               rintro e' w1 ⟨rfl, b1⟩
               have R1 := Lib.hid (Row5.laid b1)
               clear b1)


  obtain ⟨l0, c0, c1, c2, c3, c4, f0, f1, f2, f3, f4⟩ := R1.out.1
  go_region_with (first
    | (go_at_call 22
       (first | (with_reducible refine (G1.out _).mono ?_) | (with_reducible refine (G2.out _).mono ?_) | (with_reducible refine (G3.out _).mono ?_) | (with_reducible refine (G4.out _).mono ?_) | (with_reducible refine (G5.out _).mono ?_))
       rintro e' w2 ⟨rfl, rfl⟩))
  all_goals
    clear c0 c1 c2 c3 c4 f0 f1 f2 f3 f4 s1 s2 s3 s4 s5 HO G1 G2 G3 G4 G5 hn
    go_wp2_with (first
      | (go_at_call 6
         refine (HSU.out _).mono ?_
         rintro e' w3 ⟨rfl, b3⟩
         have RX := Lib.hid ((Row5.made w1 (.int .i64 x1) (.int .i64 x2) (.int .i64 x3) (.int .i64 x4) (.int .i64 x5) 23).drew.below b3)
         have RR := Lib.hid (And.intro ((R1.out.1.alloc (.cells #[.int .i64 x1, .int .i64 x2, .int .i64 x3, .int .i64 x4, .int .i64 x5] 23)).drew.below b3) (below_next (R1.out.2.alloc R1.out.2.size (.cells #[.int .i64 x1, .int .i64 x2, .int .i64 x3, .int .i64 x4, .int .i64 x5] 23)).drew b3))
         obtain ⟨_, c0, c1, c2, c3, c4, f0, f1, f2, f3, f4⟩ := RR.out.1
         obtain ⟨_, d0, d1, d2, d3, d4, _, _, _, _, _⟩ := RX.out
         clear b3)
      | (go_at_call 8
         refine (HC.out _).mono ?_
         rintro e' w4 ⟨rfl, b4⟩
         replace RX := Lib.hid (RX.out.below b4)
         replace RR := Lib.hid (And.intro (RR.out.1.below b4) (below_next RR.out.2 b4))
         obtain ⟨_, c0, c1, c2, c3, c4, f0, f1, f2, f3, f4⟩ := RR.out.1
         obtain ⟨_, d0, d1, d2, d3, d4, _, _, _, _, _⟩ := RX.out
         clear b4))
    all_goals first
      | (refine bodyPost_ret (results_cell2 rfl rfl (RR.out.1.set5 _ _ _ _ _).load rfl) rfl ⟨?_, Row5.kept RR.out.2⟩
         clear HSU HC hst
         refine cg_no ?_
         rw [HI.out]
         simp_all
         done)
      | (refine bodyPost_ret (results_cell2 rfl rfl (RR.out.1.set5 _ _ _ _ _).load rfl) rfl ⟨?_, Row5.kept RR.out.2⟩
         clear HSU HC hst
         refine cg_yes HV2.out ?_
         rw [HI.out]
         simp_all)
end Go.Proofs.Ytpeidckpcjdfgaa
