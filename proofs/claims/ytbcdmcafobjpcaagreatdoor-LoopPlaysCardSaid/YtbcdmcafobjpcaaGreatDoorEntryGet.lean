/- Package entry: numbersOf, Get. -/
import Derived.Test.YtbcdmcafobjpcaaGreatDoorEntryPut
import Derived.Deep.RegionWith
namespace Go.Proofs.YtbcdmcafobjpcaaGreatDoor
open Go.RowKit

theorem cut_head (s : ByteArray) (hi : Int) (j : Nat) (h1 : hi = j) (h3 : j ≤ s.size) (u : World) :
    (Instr.slice 9 (.string s) none (some (.int .i64 hi)) none).run Tryz.prog u = .ok (.string (s.extract 0 j)) u := by
  subst h1
  have hu : Tryz.prog.underlying 9 = some .string := Tryz.underlying9
  simp [Instr.slice, run_underlying hu, h3, go_sem]
theorem Row5.loadE {w : World} {g : Nat} {v0 v1 v2 v3 v4 : Value} (h : Row5 w g v0 v1 v2 v3 v4) : (loadVar 101 ⟨g, 0, none⟩).run Tryz.prog w = .ok (.agg #[v0, v1, v2, v3, v4]) w := by
  obtain ⟨l0, c0, c1, c2, c3, c4, f0, f1, f2, f3, f4⟩ := h
  simp [go_sem, c0, c1, c2, c3, c4]
set_option maxRecDepth 100000 in
set_option maxHeartbeats 4000000 in
theorem numbers_is (b : ByteArray) (hb : b.size = 32) (w : World) : Calls Tryz.prog 98 #[.string b] w fun e w' => e = .returned (entOf b).val ∧ Below w.heap.size w w' := by
  have G : ∀ (i j : Nat), j ≤ 32 → ∀ u, Calls Tryz.prog 107 #[.string (b.extract i j)] u fun e w' => e = .returned (.int .i64 (getI (b.extract i j))) ∧ w' = u := fun i j hj u => Get_is _ (by rw [ByteArray.size_extract]; unfold maxLen; omega) u
  have G1 := Lib.hid (G 0 1 (by omega))
  have G2 := Lib.hid (G 1 5 (by omega))
  have G3 := Lib.hid (G 5 9 (by omega))
  have G4 := Lib.hid (G 9 13 (by omega))
  have G5 := Lib.hid (G 13 17 (by omega))
  have s1 := cut_head b 1 1 rfl (by omega)
  have s2 := cut_str b 1 5 1 5 rfl rfl (by omega) (by omega)
  have s3 := cut_str b 5 9 5 9 rfl rfl (by omega) (by omega)
  have s4 := cut_str b 9 13 9 13 rfl rfl (by omega) (by omega)
  have s5 := cut_str b 13 17 13 17 rfl rfl (by omega) (by omega)
  show Calls Tryz.prog 98 #[.string b] w fun e w' => e = .returned (.agg #[.int .i64 (getI (b.extract 0 1)), .int .i64 (getI (b.extract 1 5)), .int .i64 (getI (b.extract 5 9)), .int .i64 (getI (b.extract 9 13)), .int .i64 (getI (b.extract 13 17))]) ∧ Below w.heap.size w w'
  clear G hb
  generalize getI (b.extract 0 1) = x1 at *
  generalize getI (b.extract 1 5) = x2 at *
  generalize getI (b.extract 5 9) = x3 at *
  generalize getI (b.extract 9 13) = x4 at *
  generalize getI (b.extract 13 17) = x5 at *
  generalize b.extract 0 1 = t1 at *
  generalize b.extract 1 5 = t2 at *
  generalize b.extract 5 9 = t3 at *
  generalize b.extract 9 13 = t4 at *
  generalize b.extract 13 17 = t5 at *
  go_enter Tryz.func98, Tryz.ntmps98
  go_wp2_with fail
  go_region_with (first
    | (go_at_call 107
       (first | (with_reducible refine (G1.out _).mono ?_) | (with_reducible refine (G2.out _).mono ?_) | (with_reducible refine (G3.out _).mono ?_) | (with_reducible refine (G4.out _).mono ?_) | (with_reducible refine (G5.out _).mono ?_))
       rintro e' w2 ⟨rfl, rfl⟩))
  all_goals
    go_wp2
    exact bodyPost_ret (v := .agg #[.int .i64 x1, .int .i64 x2, .int .i64 x3, .int .i64 x4, .int .i64 x5]) (by simp [results, Tryz.results98, go_sem]) rfl ⟨rfl, ((Below.refl _ _).alloc (Nat.le_refl _) _).drew⟩
def entZ : Ent := ⟨0, 0, 0, 0, 0⟩
/-- What Get tells. -/
def egetS (b : ByteArray) : Ent := if enIs b = true then entOf b else entZ
theorem egetS_no {b : ByteArray} (h : enIs b = false) : egetS b = entZ := if_neg (by rw [h]; decide)
theorem egetS_yes {b : ByteArray} (h : enIs b = true) : egetS b = entOf b := if_pos h
theorem eg_no {b : ByteArray} (h : enIs b = false) : Ending.returned (.tuple #[.agg #[.int .i64 0, .int .i64 0, .int .i64 0, .int .i64 0, .int .i64 0], .bool false]) = .returned (.tuple #[(egetS b).val, .bool (enIs b)]) := by rw [h, egetS_no h]; rfl
theorem eg_yes {b : ByteArray} {s : Ent} (hs : entOf b = s) (h : enIs b = true) : Ending.returned (.tuple #[.agg #[.int .i64 s.k, .int .i64 s.l, .int .i64 s.e, .int .i64 s.c, .int .i64 s.v], .bool true]) = .returned (.tuple #[(egetS b).val, .bool (enIs b)]) := by rw [h, egetS_yes h, hs]; rfl
set_option maxRecDepth 100000 in
set_option maxHeartbeats 1000000 in
theorem eget_is (b : ByteArray) (hb : b.size ≤ maxLen) (w : World) : Calls Tryz.prog 84 #[.string b] w fun e w' => e = .returned (.tuple #[(egetS b).val, .bool (enIs b)]) ∧ Below w.heap.size w w' := by
  unfold maxLen at hb
  by_cases h1 : b.size = 32
  · have HN := Lib.hid (numbers_is b h1)
    have HP := Lib.hid (eput_is (entOf b))
    have hn : (b.size : Int) = 32 := by omega
    have HI0 : enIs b = (entOk (entOf b) && decide (eputS (entOf b) = b)) := by
      unfold enIs eputS
      rw [Bool.eq_iff_iff]
      simp only [Bool.and_eq_true, decide_eq_true_eq]
      constructor
      · rintro ⟨_, a2, a3⟩
        exact ⟨a2, by rw [if_pos a2]; exact a3⟩
      · rintro ⟨a2, a3⟩
        exact ⟨h1, a2, by rw [if_pos a2] at a3; exact a3⟩
    have HV := Lib.hid (show (entOf b).val = .agg #[.int .i64 (entOf b).k, .int .i64 (entOf b).l, .int .i64 (entOf b).e, .int .i64 (entOf b).c, .int .i64 (entOf b).v] from rfl)
    clear h1
    generalize hsv : entOf b = s at *
    have HSV := Lib.hid hsv
    clear hsv
    generalize entOk s = ok at *
    generalize eputS s = made at *
    generalize hq : decide (made = b) = same at *
    have hst := str_eqB hq
    clear hq
    have HI := Lib.hid HI0
    clear HI0
    rw [HV.out] at HN HP
    go_enter Tryz.func84, Tryz.ntmps84
    go_wp2_with (first
      | (go_at_call 98
         refine (HN.out _).mono ?_
         rintro e' w1 ⟨rfl, b1⟩
         have R1 := Lib.hid (Row5.laid b1)
         clear b1)
      | (go_at_call 79
         refine (HP.out _).mono ?_
         rintro e' w2 ⟨rfl, b2⟩
         have R2 := Lib.hid (Row5.laid b2)
         clear b2
         obtain ⟨_, c0, c1, c2, c3, c4, f0, f1, f2, f3, f4⟩ := R1.out.1.below R2.out.2
         obtain ⟨_, d0, d1, d2, d3, d4, _, _, _, _, _⟩ := R2.out.1))
    all_goals first
      | (refine bodyPost_ret (results_cell2 rfl rfl ((R1.out.1.below R2.out.2).set5 _ _ _ _ _).loadE rfl) rfl ⟨?_, Row5.kept (below_next R1.out.2 R2.out.2)⟩
         clear HN HP HV hst
         refine eg_no ?_
         rw [HI.out]
         simp_all
         done)
      | (refine bodyPost_ret (results_cell2 rfl rfl ((R1.out.1.below R2.out.2).set5 _ _ _ _ _).loadE rfl) rfl ⟨?_, Row5.kept (below_next R1.out.2 R2.out.2)⟩
         clear HN HP HV hst
         refine eg_yes HSV.out ?_
         rw [HI.out]
         simp_all)
  · have hn : (b.size : Int) < 32 ∨ 32 < (b.size : Int) := by omega
    have HI := Lib.hid (show enIs b = false from decide_eq_false (fun q => h1 q.1))
    clear h1
    rcases hn with hn | hn
    all_goals
      go_enter Tryz.func84, Tryz.ntmps84
      go_wp2
      refine bodyPost_ret (v := .tuple #[.agg #[.int .i64 0, .int .i64 0, .int .i64 0, .int .i64 0, .int .i64 0], .bool false]) (by simp [results, Tryz.results84, go_sem]) rfl ⟨eg_no HI.out, ?_⟩
      exact (Below.refl _ _).alloc (Nat.le_refl _) _
end Go.Proofs.YtbcdmcafobjpcaaGreatDoor
