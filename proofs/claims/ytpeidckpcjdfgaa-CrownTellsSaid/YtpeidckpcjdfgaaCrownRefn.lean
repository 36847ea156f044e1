/- The document's own crowns: Newer. -/
import Derived.Test.YtpeidckpcjdfgaaCrownRefd
namespace Go.Proofs.Ytpeidckpcjdfgaa
open Go.RowKit

theorem rcrowned_no (b : ByteArray) (hb : b.size ≤ 281474976710656) (h : opens b = false ∨ (opens b = true ∧ b.size ≠ 32)) (w : World) : Calls Try.prog 13 #[.string b] w fun e w' => e = .returned (.tuple #[(cgetS b).val, .bool (crIs b)]) ∧ Below w.heap.size w w' := by
  have HO := Lib.hid (rOpen_is b hb)
  have HI := Lib.hid (show crIs b = false from by
    cases q : crIs b
    · rfl
    · have h1 := cr_opens q
      have h2 := (of_decide_eq_true q).1
      rcases h with h | h
      · rw [h] at h1; exact h1.symm
      · exact absurd h2 h.2)
  generalize openS b = t at *
  rcases h with h | ⟨h, h2⟩
  · rw [h] at HO
    clear h
    go_enter Try.func13, Try.ntmps13
    go_wp2_with (go_at_call 21
                 refine (HO.out _).mono ?_
                 rintro e' w1 ⟨rfl, b1⟩
                 have R1 := Lib.hid (Row5.laid b1)
                 obtain ⟨_, c0, c1, c2, c3, c4, f0, f1, f2, f3, f4⟩ := R1.out.1
                 clear b1)
    refine bodyPost_ret (results_cell2 rfl rfl (R1.out.1.set5 _ _ _ _ _).load rfl) rfl ⟨?_, Row5.kept R1.out.2⟩
    exact cg_no HI.out
  · rw [h] at HO
    clear h
    have hn : (b.size : Int) < 32 ∨ 32 < (b.size : Int) := by omega
    clear h2
    rcases hn with hn | hn
    all_goals
      go_enter Try.func13, Try.ntmps13
      go_wp2_with (go_at_call 21
                   refine (HO.out _).mono ?_
                   rintro e' w1 ⟨rfl, b1⟩
                   have R1 := Lib.hid (Row5.laid b1)
                   obtain ⟨_, c0, c1, c2, c3, c4, f0, f1, f2, f3, f4⟩ := R1.out.1
                   clear b1)
      refine bodyPost_ret (results_cell2 rfl rfl (R1.out.1.set5 _ _ _ _ _).load rfl) rfl ⟨?_, Row5.kept R1.out.2⟩
      exact cg_no HI.out
theorem rcrowned_is (b : ByteArray) (hb : b.size ≤ 281474976710656) (w : World) : Calls Try.prog 13 #[.string b] w fun e w' => e = .returned (.tuple #[(cgetS b).val, .bool (crIs b)]) ∧ Below w.heap.size w w' := by
  cases h : opens b
  · exact rcrowned_no b hb (.inl h) w
  · by_cases h2 : b.size = 32
    · exact rcrowned_in b h2 h w
    · exact rcrowned_no b hb (.inr ⟨h, h2⟩) w

set_option maxRecDepth 100000 in
set_option maxHeartbeats 2000000 in
theorem rnewer_with (a b : ByteArray) (x y : Sup) (p q : Bool) (hy : q = false → y = supZ)
    (HA : Hid (∀ u, Calls Try.prog 13 #[.string a] u fun e w' => e = .returned (.tuple #[.agg #[.int .i64 x.q, .int .i64 x.h, .int .i64 x.e, .int .i64 x.f, .int .i64 x.g], .bool p]) ∧ Below u.heap.size u w'))
    (HB : Hid (∀ u, Calls Try.prog 13 #[.string b] u fun e w' => e = .returned (.tuple #[.agg #[.int .i64 y.q, .int .i64 y.h, .int .i64 y.e, .int .i64 y.f, .int .i64 y.g], .bool q]) ∧ Below u.heap.size u w'))
    (w : World) : Calls Try.prog 12 #[.string a, .string b] w fun e w' => e = .returned (.tuple #[(nwS p q x y).val, .int .i64 (nwN p q x y), .bool (p || q)]) ∧ Below w.heap.size w w' := by
  have HY := Lib.hid hy
  clear hy
  cases p <;> cases q
  · go_enter Try.func12, Try.ntmps12
    go_wp2_with (first
      | (go_at_call 13
         with_reducible refine (HA.out _).mono ?_
         rintro e' w1 ⟨rfl, b1⟩
         have R1 := Lib.hid (Row5.laid b1)
         clear b1)
      | (go_at_call 13
         with_reducible refine (HB.out _).mono ?_
         rintro e' w2 ⟨rfl, b2⟩
         have R2 := Lib.hid (Row5.laid b2)
         clear b2
         obtain ⟨l0, c0, c1, c2, c3, c4, f0, f1, f2, f3, f4⟩ := R1.out.1.below R2.out.2
         obtain ⟨l1, d0, d1, d2, d3, d4, _, _, _, _, _⟩ := R2.out.1
         have n0 := size_ne l0
         have n1 := size_ne l1))
    refine bodyPost_ret (results_cell3 rfl rfl (((R1.out.1.below R2.out.2).set5 _ _ _ _ _).alloc _).load rfl rfl) rfl ⟨?_, (Row5.kept (below_next R1.out.2 R2.out.2)).alloc (Nat.le_of_lt ((R1.out.1.below R2.out.2).set5 _ _ _ _ _).lt) _⟩
    exact nw_zero (by first | exact HY.out rfl | exact HY.out trivial)
  · go_enter Try.func12, Try.ntmps12
    go_wp2_with (first
      | (go_at_call 13
         with_reducible refine (HA.out _).mono ?_
         rintro e' w1 ⟨rfl, b1⟩
         have R1 := Lib.hid (Row5.laid b1)
         clear b1)
      | (go_at_call 13
         with_reducible refine (HB.out _).mono ?_
         rintro e' w2 ⟨rfl, b2⟩
         have R2 := Lib.hid (Row5.laid b2)
         clear b2
         obtain ⟨l0, c0, c1, c2, c3, c4, f0, f1, f2, f3, f4⟩ := R1.out.1.below R2.out.2
         obtain ⟨l1, d0, d1, d2, d3, d4, _, _, _, _, _⟩ := R2.out.1
         have n0 := size_ne l0
         have n1 := size_ne l1))
    refine bodyPost_ret (results_cell3 rfl rfl (((R1.out.1.below R2.out.2).set5 _ _ _ _ _).alloc _).load rfl rfl) rfl ⟨?_, (Row5.kept (below_next R1.out.2 R2.out.2)).alloc (Nat.le_of_lt ((R1.out.1.below R2.out.2).set5 _ _ _ _ _).lt) _⟩
    exact nw_end rfl rfl rfl
  · go_enter Try.func12, Try.ntmps12
    go_wp2_with (first
      | (go_at_call 13
         with_reducible refine (HA.out _).mono ?_
         rintro e' w1 ⟨rfl, b1⟩
         have R1 := Lib.hid (Row5.laid b1)
         clear b1)
      | (go_at_call 13
         with_reducible refine (HB.out _).mono ?_
         rintro e' w2 ⟨rfl, b2⟩
         have R2 := Lib.hid (Row5.laid b2)
         clear b2
         obtain ⟨l0, c0, c1, c2, c3, c4, f0, f1, f2, f3, f4⟩ := R1.out.1.below R2.out.2
         obtain ⟨l1, d0, d1, d2, d3, d4, _, _, _, _, _⟩ := R2.out.1
         have n0 := size_ne l0
         have n1 := size_ne l1))
    refine bodyPost_ret (results_cell3 rfl rfl (((R1.out.1.below R2.out.2).set5 _ _ _ _ _).alloc _).load rfl rfl) rfl ⟨?_, (Row5.kept (below_next R1.out.2 R2.out.2)).alloc (Nat.le_of_lt ((R1.out.1.below R2.out.2).set5 _ _ _ _ _).lt) _⟩
    exact nw_end rfl rfl rfl
  · by_cases hxy : y.q ≤ x.q
    · have HF := Lib.hid (show nwF true true x y = true from (by unfold nwF; rw [decide_eq_true hxy]; rfl))
      go_enter Try.func12, Try.ntmps12
      go_wp2_with (first
        | (go_at_call 13
           with_reducible refine (HA.out _).mono ?_
           rintro e' w1 ⟨rfl, b1⟩
           have R1 := Lib.hid (Row5.laid b1)
           clear b1)
        | (go_at_call 13
           with_reducible refine (HB.out _).mono ?_
           rintro e' w2 ⟨rfl, b2⟩
           have R2 := Lib.hid (Row5.laid b2)
           clear b2
           obtain ⟨l0, c0, c1, c2, c3, c4, f0, f1, f2, f3, f4⟩ := R1.out.1.below R2.out.2
           obtain ⟨l1, d0, d1, d2, d3, d4, _, _, _, _, _⟩ := R2.out.1
           have n0 := size_ne l0
           have n1 := size_ne l1))
      refine bodyPost_ret (results_cell3 rfl rfl (((R1.out.1.below R2.out.2).set5 _ _ _ _ _).alloc _).load rfl rfl) rfl ⟨?_, (Row5.kept (below_next R1.out.2 R2.out.2)).alloc (Nat.le_of_lt ((R1.out.1.below R2.out.2).set5 _ _ _ _ _).lt) _⟩
      exact nw_end (if_pos HF.out).symm (if_pos HF.out).symm rfl
    · have HF := Lib.hid (show nwF true true x y = false from (by unfold nwF; rw [decide_eq_false hxy]; rfl))
      go_enter Try.func12, Try.ntmps12
      go_wp2_with (first
        | (go_at_call 13
           with_reducible refine (HA.out _).mono ?_
           rintro e' w1 ⟨rfl, b1⟩
           have R1 := Lib.hid (Row5.laid b1)
           clear b1)
        | (go_at_call 13
           with_reducible refine (HB.out _).mono ?_
           rintro e' w2 ⟨rfl, b2⟩
           have R2 := Lib.hid (Row5.laid b2)
           clear b2
           obtain ⟨l0, c0, c1, c2, c3, c4, f0, f1, f2, f3, f4⟩ := R1.out.1.below R2.out.2
           obtain ⟨l1, d0, d1, d2, d3, d4, _, _, _, _, _⟩ := R2.out.1
           have n0 := size_ne l0
           have n1 := size_ne l1))
      refine bodyPost_ret (results_cell3 rfl rfl (((R1.out.1.below R2.out.2).set5 _ _ _ _ _).alloc _).load rfl rfl) rfl ⟨?_, (Row5.kept (below_next R1.out.2 R2.out.2)).alloc (Nat.le_of_lt ((R1.out.1.below R2.out.2).set5 _ _ _ _ _).lt) _⟩
      exact nw_end (if_neg (by rw [HF.out]; decide)).symm (if_neg (by rw [HF.out]; decide)).symm rfl

theorem rnewer_is (a b : ByteArray) (ha : a.size ≤ 281474976710656) (hb : b.size ≤ 281474976710656) (w : World) : Calls Try.prog 12 #[.string a, .string b] w fun e w' => e = .returned (.tuple #[(newS a b).val, .int .i64 (newN a b), .bool (crIs a || crIs b)]) ∧ Below w.heap.size w w' :=
  rnewer_with a b (cgetS a) (cgetS b) (crIs a) (crIs b) (fun h => cgetS_no h) (Lib.hid (rcrowned_is a ha)) (Lib.hid (rcrowned_is b hb)) w
end Go.Proofs.Ytpeidckpcjdfgaa
