/- The book: lists of structs are held against each other. -/
import Derived.Test.YtbcdmcafobjpcaaGreatDoorWide
namespace Go.Proofs.YtbcdmcafobjpcaaGreatDoor.Bk
open Go.RowKit

theorem Chg_run (w : World) (x y : Chg) : (binOp .eql 55 (.agg #[.int .i64 x.c, .int .i64 x.v]) (.agg #[.int .i64 y.c, .int .i64 y.v])).run Tryz.prog w = .ok (.bool (x.eq y)) w := by
  obtain ⟨a, b⟩ := x
  obtain ⟨c, d⟩ := y
  unfold Chg.eq
  go_simp
  by_cases h : a = c <;> by_cases k : b = d <;> simp [h, k]
theorem Ent_run (w : World) (x y : Ent) : (binOp .eql 101 (.agg #[.int .i64 x.k, .int .i64 x.l, .int .i64 x.e, .int .i64 x.c, .int .i64 x.v]) (.agg #[.int .i64 y.k, .int .i64 y.l, .int .i64 y.e, .int .i64 y.c, .int .i64 y.v])).run Tryz.prog w = .ok (.bool (x.eq y)) w := by
  obtain ⟨q0, h0, e0, f0, g0⟩ := x
  obtain ⟨q1, h1, e1, f1, g1⟩ := y
  unfold Ent.eq
  go_simp
  by_cases a0 : q0 = q1 <;> by_cases a1 : h0 = h1 <;> by_cases a2 : e0 = e1 <;> by_cases a3 : f0 = f1 <;> by_cases a4 : g0 = g1 <;> simp [a0, a1, a2, a3, a4]

set_option maxHeartbeats 400000 in
theorem SameChanges_is (l1 l2 : List Chg) (a1 a2 : Option Addr) (c1 c2 : Nat) (w : World) (h1 : LiesAt w a1 (flat Chg.cells l1)) (h2 : LiesAt w a2 (flat Chg.cells l2)) (m1 : l1.length ≤ maxLen) (m2 : l2.length ≤ maxLen) (t : Bool) (ht : t = true ↔ l1 = l2) :
    Calls Tryz.prog 14 #[.slice a1 l1.length c1, .slice a2 l2.length c2] w fun e w' => e = .returned (.bool t) ∧ ∃ m, w' = w.drewN m := by
  unfold maxLen at m1 m2
  have H := Lib.hid (And.intro h1 h2)
  have HT := Lib.hid ht
  clear h1 h2 ht
  by_cases hl : l1.length = l2.length
  · have hle : (l1.length : Int) = (l2.length : Int) := by omega
    have HL := Lib.hid hl
    clear hl
    go_enter Tryz.func14, Tryz.ntmps14
    go_wp2
    have HLE := Lib.hid hle
    clear hle
    go_loopw [5] (fun i wr => ∃ (k m : Nat), k ≤ l1.length ∧ i = .int .i64 (k : Int) ∧ wr = w.drewN m ∧ Hid (l1.take k = l2.take k)) (fun i _ => l1.length - (intOf i).toNat)
    case atStart => exact ⟨0, 0, Nat.zero_le _, rfl, rfl, Lib.hid rfl⟩
    case round =>
      obtain ⟨k, m, hk, rfl, rfl, hp⟩ := hrel
      by_cases hlt : k < l1.length
      · have hlt2 : k < l2.length := by have := HL.out; omega
        obtain ⟨g1, o1, rfl, _, e1⟩ := H.out.1.elem Chg.len (by omega) (List.getElem?_eq_getElem hlt)
        obtain ⟨g2, o2, rfl, _, e2⟩ := H.out.2.elem Chg.len (by omega) (List.getElem?_eq_getElem hlt2)
        have e1_0 := e1 0 _ rfl
        have e1_1 := e1 1 _ rfl
        have e2_0 := e2 0 _ rfl
        have e2_1 := e2 1 _ rfl
        try have e1_2 := e1 2 _ rfl
        try have e1_3 := e1 3 _ rfl
        try have e1_4 := e1 4 _ rfl
        try have e2_2 := e2 2 _ rfl
        try have e2_3 := e2 3 _ rfl
        try have e2_4 := e2 4 _ rfl
        rw [Nat.add_zero] at e1_0 e2_0
        clear e1 e2
        have hi1 : (k : Int) < (l1.length : Int) := by omega
        have hi2 : (k : Int) < (l2.length : Int) := by omega
        have HN := Lib.hid (fun h => take_next hp.out hlt hlt2 h)
        have HE := Lib.hid (fun (h : l1 = l2) => show l1[k] = l2[k] by subst h; rfl)
        generalize l1[k] = x at *
        generalize l2[k] = y at *
        have heq := fun u => Chg_run u x y
        cases hxy : x.eq y
        · have hf : t = false := by
            cases t
            · rfl
            · exact absurd (HE.out (HT.out.1 rfl)) (Chg.eq_no hxy)
          rw [hxy] at heq
          subst hf
          clear hxy
          go_wp2_with fail
          go_quiet (fail)
          go_wp2
          go_ret
          exact ⟨rfl, drewN_add w m nq⟩
        · have hx := Lib.hid (Chg.eq_yes hxy)
          rw [hxy] at heq
          clear hxy
          go_wp2_with fail
          go_quiet (fail)
          go_wp2
          exact ⟨⟨k + 1, m + nq, by omega, by go_num, rfl, Lib.hid (HN.out hx.out)⟩, by simp [intOf]; omega⟩
      · obtain rfl : k = l1.length := by omega
        have hf : t = true := HT.out.2 (by
          have := hp.out
          rwa [List.take_of_length_le (Nat.le_refl _), List.take_of_length_le (by rw [HL.out]; exact Nat.le_refl _)] at this)
        subst hf
        have hn : ¬ (l1.length : Int) < (l1.length : Int) := by omega
        clear hlt hk
        go_wp2
        go_ret
        exact ⟨rfl, m, rfl⟩
  · have hf : t = false := by
      cases t
      · rfl
      · exact absurd (congrArg List.length (HT.out.1 rfl)) hl
    subst hf
    have hne : ((l1.length : Int) == (l2.length : Int)) = false := by simp; omega
    have hne2 : ((l1.length : Int) != (l2.length : Int)) = true := by simp; omega
    go_enter Tryz.func14, Tryz.ntmps14
    go_wp2
    all_goals
      go_ret
      exact ⟨rfl, 0, rfl⟩
set_option maxHeartbeats 400000 in
theorem SameEntries_is (l1 l2 : List Ent) (a1 a2 : Option Addr) (c1 c2 : Nat) (w : World) (h1 : LiesAt w a1 (flat Ent.cells l1)) (h2 : LiesAt w a2 (flat Ent.cells l2)) (m1 : l1.length ≤ maxLen) (m2 : l2.length ≤ maxLen) (t : Bool) (ht : t = true ↔ l1 = l2) :
    Calls Tryz.prog 67 #[.slice a1 l1.length c1, .slice a2 l2.length c2] w fun e w' => e = .returned (.bool t) ∧ ∃ m, w' = w.drewN m := by
  unfold maxLen at m1 m2
  have H := Lib.hid (And.intro h1 h2)
  have HT := Lib.hid ht
  clear h1 h2 ht
  by_cases hl : l1.length = l2.length
  · have hle : (l1.length : Int) = (l2.length : Int) := by omega
    have HL := Lib.hid hl
    clear hl
    go_enter Tryz.func67, Tryz.ntmps67
    go_wp2
    have HLE := Lib.hid hle
    clear hle
    go_loopw [5] (fun i wr => ∃ (k m : Nat), k ≤ l1.length ∧ i = .int .i64 (k : Int) ∧ wr = w.drewN m ∧ Hid (l1.take k = l2.take k)) (fun i _ => l1.length - (intOf i).toNat)
    case atStart => exact ⟨0, 0, Nat.zero_le _, rfl, rfl, Lib.hid rfl⟩
    case round =>
      obtain ⟨k, m, hk, rfl, rfl, hp⟩ := hrel
      by_cases hlt : k < l1.length
      · have hlt2 : k < l2.length := by have := HL.out; omega
        obtain ⟨g1, o1, rfl, _, e1⟩ := H.out.1.elem Ent.len (by omega) (List.getElem?_eq_getElem hlt)
        obtain ⟨g2, o2, rfl, _, e2⟩ := H.out.2.elem Ent.len (by omega) (List.getElem?_eq_getElem hlt2)
        have e1_0 := e1 0 _ rfl
        have e1_1 := e1 1 _ rfl
        have e2_0 := e2 0 _ rfl
        have e2_1 := e2 1 _ rfl
        try have e1_2 := e1 2 _ rfl
        try have e1_3 := e1 3 _ rfl
        try have e1_4 := e1 4 _ rfl
        try have e2_2 := e2 2 _ rfl
        try have e2_3 := e2 3 _ rfl
        try have e2_4 := e2 4 _ rfl
        rw [Nat.add_zero] at e1_0 e2_0
        clear e1 e2
        have hi1 : (k : Int) < (l1.length : Int) := by omega
        have hi2 : (k : Int) < (l2.length : Int) := by omega
        have HN := Lib.hid (fun h => take_next hp.out hlt hlt2 h)
        have HE := Lib.hid (fun (h : l1 = l2) => show l1[k] = l2[k] by subst h; rfl)
        generalize l1[k] = x at *
        generalize l2[k] = y at *
        have heq := fun u => Ent_run u x y
        cases hxy : x.eq y
        · have hf : t = false := by
            cases t
            · rfl
            · exact absurd (HE.out (HT.out.1 rfl)) (Ent.eq_no hxy)
          rw [hxy] at heq
          subst hf
          clear hxy
          go_wp2_with fail
          go_quiet (fail)
          go_wp2
          go_ret
          exact ⟨rfl, drewN_add w m nq⟩
        · have hx := Lib.hid (Ent.eq_yes hxy)
          rw [hxy] at heq
          clear hxy
          go_wp2_with fail
          go_quiet (fail)
          go_wp2
          exact ⟨⟨k + 1, m + nq, by omega, by go_num, rfl, Lib.hid (HN.out hx.out)⟩, by simp [intOf]; omega⟩
      · obtain rfl : k = l1.length := by omega
        have hf : t = true := HT.out.2 (by
          have := hp.out
          rwa [List.take_of_length_le (Nat.le_refl _), List.take_of_length_le (by rw [HL.out]; exact Nat.le_refl _)] at this)
        subst hf
        have hn : ¬ (l1.length : Int) < (l1.length : Int) := by omega
        clear hlt hk
        go_wp2
        go_ret
        exact ⟨rfl, m, rfl⟩
  · have hf : t = false := by
      cases t
      · rfl
      · exact absurd (congrArg List.length (HT.out.1 rfl)) hl
    subst hf
    have hne : ((l1.length : Int) == (l2.length : Int)) = false := by simp; omega
    have hne2 : ((l1.length : Int) != (l2.length : Int)) = true := by simp; omega
    go_enter Tryz.func67, Tryz.ntmps67
    go_wp2
    all_goals
      go_ret
      exact ⟨rfl, 0, rfl⟩
end Go.Proofs.YtbcdmcafobjpcaaGreatDoor.Bk
