/- The document's own entries: Read. -/
import Derived.Test.YtebeegfgghbdlaaEntryRef
namespace Go.Proofs.Ytebeegfgghbdlaa
open Go.RowKit

theorem entOf_val (t : ByteArray) : (entOf t).val = .agg #[.int .i64 (getI (t.extract 0 1)), .int .i64 (getI (t.extract 1 5)), .int .i64 (getI (t.extract 5 9)), .int .i64 (getI (t.extract 9 13)), .int .i64 (getI (t.extract 13 17))] := by unfold entOf Ent.val; rfl
theorem entOf_eq (t : ByteArray) : entOf t = ⟨getI (t.extract 0 1), getI (t.extract 1 5), getI (t.extract 5 9), getI (t.extract 9 13), getI (t.extract 13 17)⟩ := by unfold entOf; rfl
theorem Row5.drewE {u : World} {g : Nat} {v0 v1 v2 v3 v4 : Value} (h : Row5 u g v0 v1 v2 v3 v4) : Row5 u.drew g v0 v1 v2 v3 v4 :=
  ⟨h.lt, h.c0, h.c1, h.c2, h.c3, h.c4, h.f0, h.f1, h.f2, h.f3, h.f4⟩
set_option maxRecDepth 100000 in
set_option maxHeartbeats 4000000 in
/-- Opened, and of the right length: what is told hangs on what its bytes say. -/
theorem rread_in (b : ByteArray) (hb : b.size = 32) (ho : opens b = true) (w : World) : Calls Try.prog 10 #[.string b] w fun e w' => e = .returned (.tuple #[(egetS b).val, .bool (enIs b)]) ∧ Below w.heap.size w w' := by
  have HO := Lib.hid (rOpen_is b (by omega))
  rw [ho] at HO
  have hob : openS b = bodyOf b := if_pos ho
  rw [hob] at HO
  have hsz : (bodyOf b).size = 28 := by rw [bodyOf_size]; omega
  have hsb := ent_body b hb
  have HSU := Lib.hid (rentry_is (entOf b))
  have HC := Lib.hid (rlaid_is (entOf b))
  have HI0 : enIs b = (entOk (entOf b) && decide (enB (entOf b) = b)) := by
    unfold enIs
    rw [Bool.eq_iff_iff]
    simp only [Bool.and_eq_true, decide_eq_true_eq]
    exact ⟨fun q => ⟨q.2.1, q.2.2⟩, fun q => ⟨hb, q.1, q.2⟩⟩
  have G : ∀ (i j : Nat), j ≤ 28 → ∀ u, Calls Try.prog 32 #[.string ((bodyOf b).extract i j)] u fun e w' => e = .returned (.int .i64 (getI ((bodyOf b).extract i j))) ∧ w' = u := fun i j hj u => rGet_is _ (by rw [ByteArray.size_extract]; unfold maxLen; omega) u
  have G1 := Lib.hid (G 0 1 (by omega))
  have G2 := Lib.hid (G 1 5 (by omega))
  have G3 := Lib.hid (G 5 9 (by omega))
  have G4 := Lib.hid (G 9 13 (by omega))
  have G5 := Lib.hid (G 13 17 (by omega))
  have s1 := cut_head (bodyOf b) 1 1 rfl (by omega)
  have s2 := cut_str (bodyOf b) 1 5 1 5 rfl rfl (by omega) (by omega)
  have s3 := cut_str (bodyOf b) 5 9 5 9 rfl rfl (by omega) (by omega)
  have s4 := cut_str (bodyOf b) 9 13 9 13 rfl rfl (by omega) (by omega)
  have s5 := cut_str (bodyOf b) 13 17 13 17 rfl rfl (by omega) (by omega)
  have HV := Lib.hid (show (entOf b).val = .agg #[.int .i64 (getI ((bodyOf b).extract 0 1)), .int .i64 (getI ((bodyOf b).extract 1 5)), .int .i64 (getI ((bodyOf b).extract 5 9)), .int .i64 (getI ((bodyOf b).extract 9 13)), .int .i64 (getI ((bodyOf b).extract 13 17))] by rw [← hsb]; exact entOf_val _)
  have HV2 := Lib.hid (show entOf b = ⟨getI ((bodyOf b).extract 0 1), getI ((bodyOf b).extract 1 5), getI ((bodyOf b).extract 5 9), getI ((bodyOf b).extract 9 13), getI ((bodyOf b).extract 13 17)⟩ by rw [← hsb]; exact entOf_eq _)
  rw [HV.out] at HSU HC
  generalize enB (entOf b) = made at *
  generalize entOk (entOf b) = ok at *
  generalize hq : decide (made = b) = same at *
  have hst := str_eqB hq
  have HI := Lib.hid HI0
  have hn : (b.size : Int) = 32 := by omega
  clear HI0 hq hsb G hob ho hsz hb HV
  generalize getI ((bodyOf b).extract 0 1) = x1 at *
  generalize getI ((bodyOf b).extract 1 5) = x2 at *
  generalize getI ((bodyOf b).extract 5 9) = x3 at *
  generalize getI ((bodyOf b).extract 9 13) = x4 at *
  generalize getI ((bodyOf b).extract 13 17) = x5 at *
  generalize (bodyOf b).extract 0 1 = t1 at *
  generalize (bodyOf b).extract 1 5 = t2 at *
  generalize (bodyOf b).extract 5 9 = t3 at *
  generalize (bodyOf b).extract 9 13 = t4 at *
  generalize (bodyOf b).extract 13 17 = t5 at *
  generalize bodyOf b = t at *
  go_enter Try.func10, Try.ntmps10
  go_wp2_with (go_at_call 31
               refine (HO.out _).mono ?_
               rintro e' w1 ⟨rfl, b1⟩
               have R1 := Lib.hid (Row5.laid b1)
               clear b1)


  obtain ⟨l0, c0, c1, c2, c3, c4, f0, f1, f2, f3, f4⟩ := R1.out.1
  go_region_with (first
    | (go_at_call 32
       (first | (with_reducible refine (G1.out _).mono ?_) | (with_reducible refine (G2.out _).mono ?_) | (with_reducible refine (G3.out _).mono ?_) | (with_reducible refine (G4.out _).mono ?_) | (with_reducible refine (G5.out _).mono ?_))
       rintro e' w2 ⟨rfl, rfl⟩))
  all_goals
    clear c0 c1 c2 c3 c4 f0 f1 f2 f3 f4 s1 s2 s3 s4 s5 HO G1 G2 G3 G4 G5 hn
    go_wp2_with (first
      | (go_at_call 6
         refine (HSU.out _).mono ?_
         rintro e' w3 ⟨rfl, b3⟩
         have RX := Lib.hid ((Row5.made w1 (.int .i64 x1) (.int .i64 x2) (.int .i64 x3) (.int .i64 x4) (.int .i64 x5) 23).drewE.below b3)
         have RR := Lib.hid (And.intro ((R1.out.1.alloc (.cells #[.int .i64 x1, .int .i64 x2, .int .i64 x3, .int .i64 x4, .int .i64 x5] 23)).drewE.below b3) (below_next (R1.out.2.alloc R1.out.2.size (.cells #[.int .i64 x1, .int .i64 x2, .int .i64 x3, .int .i64 x4, .int .i64 x5] 23)).drew b3))
         obtain ⟨_, c0, c1, c2, c3, c4, f0, f1, f2, f3, f4⟩ := RR.out.1
         obtain ⟨_, d0, d1, d2, d3, d4, _, _, _, _, _⟩ := RX.out
         clear b3)
      | (go_at_call 8
         refine (HC.out _).mono ?_
         rintro e' w4 ⟨rfl, b4⟩
         replace RX := Lib.hid (RX.out.below b4)
         replace RR := Lib.hid (And.intro (RR.out.1.below b4) (below_next RR.out.2 b4))
         obtain ⟨_, c0, c1, c2, c3, c4, f0, f1, f2, f3, f4⟩ := RR.out.1
         obtain ⟨_, d0, d1, d2, d3, d4, _, _, _, _, _⟩ := RX.out
         clear b4))
    all_goals first
      | (refine bodyPost_ret (results_cell2 rfl rfl (RR.out.1.set5 _ _ _ _ _).loadE rfl) rfl ⟨?_, Row5.kept RR.out.2⟩
         clear HSU HC hst
         refine eg_no ?_
         rw [HI.out]
         simp_all
         done)
      | (refine bodyPost_ret (results_cell2 rfl rfl (RR.out.1.set5 _ _ _ _ _).loadE rfl) rfl ⟨?_, Row5.kept RR.out.2⟩
         clear HSU HC hst
         refine eg_yes HV2.out ?_
         rw [HI.out]
         simp_all)
theorem rread_no (b : ByteArray) (hb : b.size ≤ 281474976710656) (h : opens b = false ∨ (opens b = true ∧ b.size ≠ 32)) (w : World) : Calls Try.prog 10 #[.string b] w fun e w' => e = .returned (.tuple #[(egetS b).val, .bool (enIs b)]) ∧ Below w.heap.size w w' := by
  have HO := Lib.hid (rOpen_is b hb)
  have HI := Lib.hid (show enIs b = false from by
    cases q : enIs b
    · rfl
    · have h1 := en_opens q
      have h2 := (of_decide_eq_true q).1
      rcases h with h | h
      · rw [h] at h1; exact h1.symm
      · exact absurd h2 h.2)
  generalize openS b = t at *
  rcases h with h | ⟨h, h2⟩
  · rw [h] at HO
    clear h
    go_enter Try.func10, Try.ntmps10
    go_wp2_with (go_at_call 31
                 refine (HO.out _).mono ?_
                 rintro e' w1 ⟨rfl, b1⟩
                 have R1 := Lib.hid (Row5.laid b1)
                 obtain ⟨_, c0, c1, c2, c3, c4, f0, f1, f2, f3, f4⟩ := R1.out.1
                 clear b1)
    refine bodyPost_ret (results_cell2 rfl rfl (R1.out.1.set5 _ _ _ _ _).loadE rfl) rfl ⟨?_, Row5.kept R1.out.2⟩
    exact eg_no HI.out
  · rw [h] at HO
    clear h
    have hn : (b.size : Int) < 32 ∨ 32 < (b.size : Int) := by omega
    clear h2
    rcases hn with hn | hn
    all_goals
      go_enter Try.func10, Try.ntmps10
      go_wp2_with (go_at_call 31
                   refine (HO.out _).mono ?_
                   rintro e' w1 ⟨rfl, b1⟩
                   have R1 := Lib.hid (Row5.laid b1)
                   obtain ⟨_, c0, c1, c2, c3, c4, f0, f1, f2, f3, f4⟩ := R1.out.1
                   clear b1)
      refine bodyPost_ret (results_cell2 rfl rfl (R1.out.1.set5 _ _ _ _ _).loadE rfl) rfl ⟨?_, Row5.kept R1.out.2⟩
      exact eg_no HI.out
theorem rread_is (b : ByteArray) (hb : b.size ≤ 281474976710656) (w : World) : Calls Try.prog 10 #[.string b] w fun e w' => e = .returned (.tuple #[(egetS b).val, .bool (enIs b)]) ∧ Below w.heap.size w w' := by
  cases h : opens b
  · exact rread_no b hb (.inl h) w
  · by_cases h2 : b.size = 32
    · exact rread_in b h2 h w
    · exact rread_no b hb (.inr ⟨h, h2⟩) w

end Go.Proofs.Ytebeegfgghbdlaa
