/- Package crown: Newer. -/
import Derived.Test.YtpeidckpcjdfgaaCrownGet
namespace Go.Proofs.Ytpeidckpcjdfgaa
open Go.RowKit

/-- The newer one of two that Get tells. -/
def nwF (p q : Bool) (x y : Sup) : Bool := p && (!q || decide (y.q ≤ x.q))
def nwS (p q : Bool) (x y : Sup) : Sup := if nwF p q x y = true then x else y
def nwN (p q : Bool) (x y : Sup) : Int := if nwF p q x y = true then 0 else if q = true then 1 else 0
theorem nw_end {p q : Bool} {x y s : Sup} {n : Int} {b : Bool} (h1 : s = nwS p q x y) (h2 : n = nwN p q x y) (h3 : b = (p || q)) : Ending.returned (.tuple #[.agg #[.int .i64 s.q, .int .i64 s.h, .int .i64 s.e, .int .i64 s.f, .int .i64 s.g], .int .i64 n, .bool b]) = .returned (.tuple #[(nwS p q x y).val, .int .i64 (nwN p q x y), .bool (p || q)]) := by
  rw [h1, h2, h3]
  rfl
theorem nw_zero {x y : Sup} (h : y = supZ) : Ending.returned (.tuple #[.agg #[.int .i64 0, .int .i64 0, .int .i64 0, .int .i64 0, .int .i64 0], .int .i64 0, .bool false]) = .returned (.tuple #[(nwS false false x y).val, .int .i64 (nwN false false x y), .bool (false || false)]) := by
  rw [show nwS false false x y = y from rfl, h]
  rfl
theorem size_ne {a b : Nat} (h : a < b) : ¬ a = b := by omega

set_option maxRecDepth 100000 in
set_option maxHeartbeats 2000000 in
theorem newer_with (a b : ByteArray) (x y : Sup) (p q : Bool) (hy : q = false → y = supZ)
    (HA : Hid (∀ u, Calls Try.prog 10 #[.string a] u fun e w' => e = .returned (.tuple #[.agg #[.int .i64 x.q, .int .i64 x.h, .int .i64 x.e, .int .i64 x.f, .int .i64 x.g], .bool p]) ∧ Below u.heap.size u w'))
    (HB : Hid (∀ u, Calls Try.prog 10 #[.string b] u fun e w' => e = .returned (.tuple #[.agg #[.int .i64 y.q, .int .i64 y.h, .int .i64 y.e, .int .i64 y.f, .int .i64 y.g], .bool q]) ∧ Below u.heap.size u w'))
    (w : World) : Calls Try.prog 11 #[.string a, .string b] w fun e w' => e = .returned (.tuple #[(nwS p q x y).val, .int .i64 (nwN p q x y), .bool (p || q)]) ∧ Below w.heap.size w w' := by
  have HY := Lib.hid hy
  clear hy
  cases p <;> cases q
  · go_enter Try.func11, Try.ntmps11
    go_wp2_with (first
      | (go_at_call 10
         with_reducible refine (HA.out _).mono ?_
         rintro e' w1 ⟨rfl, b1⟩
         have R1 := Lib.hid (Row5.laid b1)
         clear b1)
      | (go_at_call 10
         with_reducible refine (HB.out _).mono ?_
         rintro e' w2 ⟨rfl, b2⟩
         have R2 := Lib.hid (Row5.laid b2)
         clear b2
         obtain ⟨l0, c0, c1, c2, c3, c4, f0, f1, f2, f3, f4⟩ := R1.out.1.below R2.out.2
         obtain ⟨l1, d0, d1, d2, d3, d4, _, _, _, _, _⟩ := R2.out.1
         have n0 := size_ne l0
         have n1 := size_ne l1))
    refine bodyPost_ret (results_cell3 rfl rfl (((R1.out.1.below R2.out.2).set5 _ _ _ _ _).alloc _).load rfl rfl) rfl ⟨?_, (Row5.kept (below_next R1.out.2 R2.out.2)).alloc (Nat.le_of_lt ((R1.out.1.below R2.out.2).set5 _ _ _ _ _).lt) _⟩
    exact nw_zero (by first | exact HY.out rfl | exact HY.out trivial)
  · go_enter Try.func11, Try.ntmps11
    go_wp2_with (first
      | (go_at_call 10
         with_reducible refine (HA.out _).mono ?_
         rintro e' w1 ⟨rfl, b1⟩
         have R1 := Lib.hid (Row5.laid b1)
         clear b1)
      | (go_at_call 10
         with_reducible refine (HB.out _).mono ?_
         rintro e' w2 ⟨rfl, b2⟩
         have R2 := Lib.hid (Row5.laid b2)
         clear b2
         obtain ⟨l0, c0, c1, c2, c3, c4, f0, f1, f2, f3, f4⟩ := R1.out.1.below R2.out.2
         obtain ⟨l1, d0, d1, d2, d3, d4, _, _, _, _, _⟩ := R2.out.1
         have n0 := size_ne l0
         have n1 := size_ne l1))
    refine bodyPost_ret (results_cell3 rfl rfl (((R1.out.1.below R2.out.2).set5 _ _ _ _ _).alloc _).load rfl rfl) rfl ⟨?_, (Row5.kept (below_next R1.out.2 R2.out.2)).alloc (Nat.le_of_lt ((R1.out.1.below R2.out.2).set5 _ _ _ _ _).lt) _⟩
    exact nw_end rfl rfl rfl
  · go_enter Try.func11, Try.ntmps11
    go_wp2_with (first
      | (go_at_call 10
         with_reducible refine (HA.out _).mono ?_
         rintro e' w1 ⟨rfl, b1⟩
         have R1 := Lib.hid (Row5.laid b1)
         clear b1)
      | (go_at_call 10
         with_reducible refine (HB.out _).mono ?_
         rintro e' w2 ⟨rfl, b2⟩
         have R2 := Lib.hid (Row5.laid b2)
         clear b2
         obtain ⟨l0, c0, c1, c2, c3, c4, f0, f1, f2, f3, f4⟩ := R1.out.1.below R2.out.2
         obtain ⟨l1, d0, d1, d2, d3, d4, _, _, _, _, _⟩ := R2.out.1
         have n0 := size_ne l0
         have n1 := size_ne l1))
    refine bodyPost_ret (results_cell3 rfl rfl (((R1.out.1.below R2.out.2).set5 _ _ _ _ _).alloc _).load rfl rfl) rfl ⟨?_, (Row5.kept (below_next R1.out.2 R2.out.2)).alloc (Nat.le_of_lt ((R1.out.1.below R2.out.2).set5 _ _ _ _ _).lt) _⟩
    exact nw_end rfl rfl rfl
  · by_cases hxy : y.q ≤ x.q
    · have HF := Lib.hid (show nwF true true x y = true from (by unfold nwF; rw [decide_eq_true hxy]; rfl))
      go_enter Try.func11, Try.ntmps11
      go_wp2_with (first
        | (go_at_call 10
           with_reducible refine (HA.out _).mono ?_
           rintro e' w1 ⟨rfl, b1⟩
           have R1 := Lib.hid (Row5.laid b1)
           clear b1)
        | (go_at_call 10
           with_reducible refine (HB.out _).mono ?_
           rintro e' w2 ⟨rfl, b2⟩
           have R2 := Lib.hid (Row5.laid b2)
           clear b2
           obtain ⟨l0, c0, c1, c2, c3, c4, f0, f1, f2, f3, f4⟩ := R1.out.1.below R2.out.2
           obtain ⟨l1, d0, d1, d2, d3, d4, _, _, _, _, _⟩ := R2.out.1
           have n0 := size_ne l0
           have n1 := size_ne l1))
      refine bodyPost_ret (results_cell3 rfl rfl (((R1.out.1.below R2.out.2).set5 _ _ _ _ _).alloc _).load rfl rfl) rfl ⟨?_, (Row5.kept (below_next R1.out.2 R2.out.2)).alloc (Nat.le_of_lt ((R1.out.1.below R2.out.2).set5 _ _ _ _ _).lt) _⟩
      exact nw_end (if_pos HF.out).symm (if_pos HF.out).symm rfl
    · have HF := Lib.hid (show nwF true true x y = false from (by unfold nwF; rw [decide_eq_false hxy]; rfl))
      go_enter Try.func11, Try.ntmps11
      go_wp2_with (first
        | (go_at_call 10
           with_reducible refine (HA.out _).mono ?_
           rintro e' w1 ⟨rfl, b1⟩
           have R1 := Lib.hid (Row5.laid b1)
           clear b1)
        | (go_at_call 10
           with_reducible refine (HB.out _).mono ?_
           rintro e' w2 ⟨rfl, b2⟩
           have R2 := Lib.hid (Row5.laid b2)
           clear b2
           obtain ⟨l0, c0, c1, c2, c3, c4, f0, f1, f2, f3, f4⟩ := R1.out.1.below R2.out.2
           obtain ⟨l1, d0, d1, d2, d3, d4, _, _, _, _, _⟩ := R2.out.1
           have n0 := size_ne l0
           have n1 := size_ne l1))
      refine bodyPost_ret (results_cell3 rfl rfl (((R1.out.1.below R2.out.2).set5 _ _ _ _ _).alloc _).load rfl rfl) rfl ⟨?_, (Row5.kept (below_next R1.out.2 R2.out.2)).alloc (Nat.le_of_lt ((R1.out.1.below R2.out.2).set5 _ _ _ _ _).lt) _⟩
      exact nw_end (if_neg (by rw [HF.out]; decide)).symm (if_neg (by rw [HF.out]; decide)).symm rfl

def newS (a b : ByteArray) : Sup := nwS (crIs a) (crIs b) (cgetS a) (cgetS b)
def newN (a b : ByteArray) : Int := nwN (crIs a) (crIs b) (cgetS a) (cgetS b)
theorem newer_is (a b : ByteArray) (ha : a.size ≤ maxLen) (hb : b.size ≤ maxLen) (w : World) : Calls Try.prog 11 #[.string a, .string b] w fun e w' => e = .returned (.tuple #[(newS a b).val, .int .i64 (newN a b), .bool (crIs a || crIs b)]) ∧ Below w.heap.size w w' :=
  newer_with a b (cgetS a) (cgetS b) (crIs a) (crIs b) (fun h => cgetS_no h) (Lib.hid (cget_is a ha)) (Lib.hid (cget_is b hb)) w
end Go.Proofs.Ytpeidckpcjdfgaa
