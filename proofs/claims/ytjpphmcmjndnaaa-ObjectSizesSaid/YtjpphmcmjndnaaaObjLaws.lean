/- The laws of stage 10: ObjectTells, ObjectSizes, ObjectKinds, and their helper alive. -/
import Derived.Test.YtjpphmcmjndnaaaObjIs
namespace Go.Proofs.Ytjpphmcmjndnaaa
open Go.RowKit

theorem hd_pos {a b : Int} (h : shOk a b = true) : 16777216 ≤ hdI a b := by
  have := shOk_yes h
  rw [hdI, if_pos h]
  omega
theorem hd_one {a b c d : Int} (h : shOk a b = true) (h2 : shOk c d = true) : hdI a b = hdI c d ↔ a = c ∧ b = d := by
  have h3 := shOk_yes h
  have h4 := shOk_yes h2
  rw [hdI, if_pos h, hdI, if_pos h2]
  omega
theorem fd_back {a : Int} (h : plOk a = true) : fwOk (fdI a) = true ∧ fwA (fdI a) = a ∧ hdOk (fdI a) = false := by
  have q := plOk_yes h
  have e : fdI a = 33554432 + a := if_pos h
  have e1 : fwOk (fdI a) = true := by
    rw [e]
    exact decide_eq_true (by omega)
  refine ⟨e1, ?_, ?_⟩
  · rw [fwA, if_pos e1, e]; omega
  · rw [e]
    exact decide_eq_false (by omega)

set_option maxRecDepth 100000 in
theorem oalive_is (w : World) : Calls Try.prog 6 #[] w fun e w' => e = .returned (.bool true) ∧ w' = w := by
  have H1 := Lib.hid (oheader_is 2 3)
  have H2 := Lib.hid (oparse_is 16777731 (by decide) (by decide))
  have H3 := Lib.hid (osize_is 2 3)
  rw [show hdI 2 3 = 16777731 by decide, show shOk 2 3 = true by decide] at H1
  rw [show prS 16777731 = 2 by decide, show prW 16777731 = 3 by decide, show hdOk 16777731 = true by decide] at H2
  rw [show szI 2 3 = 6 by decide] at H3
  go_enter Try.func6, Try.ntmps6
  go_wp2_with (first
    | (go_at_call 7; refine (H1.out _).mono ?_; rintro e' w' ⟨rfl, rfl⟩)
    | (go_at_call 9; refine (H2.out _).mono ?_; rintro e' w' ⟨rfl, rfl⟩)
    | (go_at_call 14; refine (H3.out _).mono ?_; rintro e' w' ⟨rfl, rfl⟩))
  go_ret
  exact ⟨rfl, rfl⟩

set_option maxRecDepth 100000 in
set_option maxHeartbeats 2000000 in
theorem Kinds_walk (v : Int) (l0 : -9223372036854775808 ≤ v) (l1 : v ≤ 9223372036854775807) (w : World) : Calls Try.prog 5 #[.int .i64 v] w fun e w' => e = .returned (.bool true) ∧ w' = w := by
  have HA := Lib.hid oalive_is
  have H1 := Lib.hid (oparse_is v l0 l1)
  have H2 := Lib.hid (oforwarded_is v l0 l1)
  have h1 : hdOk v = true → 16777216 ≤ v := fun q => (hdOk_yes q).1
  have h2 : fwOk v = true → 16777216 ≤ v := fun q => by have := (fwOk_yes q).1; omega
  have h3 : hdOk v = true → fwOk v = false := hd_not_fw
  generalize prS v = a at *
  generalize prW v = b at *
  generalize fwA v = c at *
  generalize hdOk v = p at *
  generalize fwOk v = q at *
  by_cases hv : 16777216 ≤ v
  · clear h1 h2
    cases p
    · clear h3
      cases q
      all_goals
        go_enter Try.func5, Try.ntmps5
        go_wp2_with (first
          | (go_at_call 6; refine (HA.out _).mono ?_; rintro e' w' ⟨rfl, rfl⟩)
          | (go_at_call 9; refine (H1.out _).mono ?_; rintro e' w' ⟨rfl, rfl⟩)
          | (go_at_call 12; refine (H2.out _).mono ?_; rintro e' w' ⟨rfl, rfl⟩))
        go_ret
        exact ⟨ret_b (by simp <;> omega), rfl⟩
    · obtain rfl := h3 rfl
      clear h3
      go_enter Try.func5, Try.ntmps5
      go_wp2_with (first
        | (go_at_call 6; refine (HA.out _).mono ?_; rintro e' w' ⟨rfl, rfl⟩)
        | (go_at_call 9; refine (H1.out _).mono ?_; rintro e' w' ⟨rfl, rfl⟩)
        | (go_at_call 12; refine (H2.out _).mono ?_; rintro e' w' ⟨rfl, rfl⟩))
      go_ret
      exact ⟨ret_b (by simp <;> omega), rfl⟩
  · obtain rfl : p = false := by
      cases p
      · rfl
      · exact absurd (h1 rfl) hv
    obtain rfl : q = false := by
      cases q
      · rfl
      · exact absurd (h2 rfl) hv
    clear h1 h2 h3
    go_enter Try.func5, Try.ntmps5
    go_wp2_with (first
      | (go_at_call 6; refine (HA.out _).mono ?_; rintro e' w' ⟨rfl, rfl⟩)
      | (go_at_call 9; refine (H1.out _).mono ?_; rintro e' w' ⟨rfl, rfl⟩)
      | (go_at_call 12; refine (H2.out _).mono ?_; rintro e' w' ⟨rfl, rfl⟩))
    go_ret
    exact ⟨ret_b (by simp <;> omega), rfl⟩

set_option maxRecDepth 100000 in
set_option maxHeartbeats 2000000 in
theorem Sizes_walk (a b c d : Int) (w : World) : Calls Try.prog 4 #[.int .i64 a, .int .i64 b, .int .i64 c, .int .i64 d] w fun e w' => e = .returned (.bool true) ∧ w' = w := by
  have HA := Lib.hid oalive_is
  have H1 := Lib.hid (oheader_is a b)
  have H2 := Lib.hid (oheader_is c d)
  cases p : shOk a b
  · rw [p] at H1
    clear p
    generalize hdI a b = x at *
    generalize hdI c d = y at *
    generalize shOk c d = q at *
    cases q
    all_goals
      go_enter Try.func4, Try.ntmps4
      go_wp2_with (first
        | (go_at_call 7; with_reducible refine (H1.out _).mono ?_; rintro e' w' ⟨rfl, rfl⟩)
        | (go_at_call 7; with_reducible refine (H2.out _).mono ?_; rintro e' w' ⟨rfl, rfl⟩)
        | (go_at_call 6; refine (HA.out _).mono ?_; rintro e' w' ⟨rfl, rfl⟩))
      go_ret
      exact ⟨rfl, rfl⟩
  · cases q : shOk c d
    · rw [p] at H1
      rw [q] at H2
      clear p q
      generalize hdI a b = x at *
      generalize hdI c d = y at *
      go_enter Try.func4, Try.ntmps4
      go_wp2_with (first
        | (go_at_call 7; with_reducible refine (H1.out _).mono ?_; rintro e' w' ⟨rfl, rfl⟩)
        | (go_at_call 7; with_reducible refine (H2.out _).mono ?_; rintro e' w' ⟨rfl, rfl⟩)
        | (go_at_call 6; refine (HA.out _).mono ?_; rintro e' w' ⟨rfl, rfl⟩))
      go_ret
      exact ⟨rfl, rfl⟩
    · have hb := hd_back p
      have ho := hd_one p q
      have hp := hd_pos p
      have hs : szI a b = 1 + a + b := if_pos p
      have hr := shOk_yes p
      have hx : hdI a b ≤ 33554432 := by have := (hdOk_yes hb.1).2.1; omega
      have H3 := Lib.hid (oparse_is (hdI a b) (by omega) (by omega))
      have H4 := Lib.hid (osize_is a b)
      rw [hb.1, hb.2.1, hb.2.2] at H3
      rw [hs] at H4
      rw [p] at H1
      rw [q] at H2
      clear p q hb hs
      generalize hdI a b = x at *
      generalize hdI c d = y at *
      obtain ⟨r1, r2, r3, r4⟩ := hr
      by_cases hxy : x = y
      · obtain ⟨rfl, rfl⟩ := ho.1 hxy
        subst hxy
        clear ho
        go_enter Try.func4, Try.ntmps4
        go_wp2_with (first
          | (go_at_call 7; with_reducible refine (H1.out _).mono ?_; rintro e' w' ⟨rfl, rfl⟩)
          | (go_at_call 9; refine (H3.out _).mono ?_; rintro e' w' ⟨rfl, rfl⟩)
          | (go_at_call 14; refine (H4.out _).mono ?_; rintro e' w' ⟨rfl, rfl⟩)
          | (go_at_call 6; refine (HA.out _).mono ?_; rintro e' w' ⟨rfl, rfl⟩))
        go_ret
        exact ⟨ret_b (by simp <;> omega), rfl⟩
      · have hn : a = c → ¬ b = d := fun e1 e2 => hxy (ho.2 ⟨e1, e2⟩)
        clear ho
        by_cases hac : a = c
        · have hbd := hn hac
          clear hn
          subst hac
          have hxy2 : (x == y) = false := beq_eq_false_iff_ne.2 hxy
          have hbd2 : (b == d) = false := beq_eq_false_iff_ne.2 hbd
          go_enter Try.func4, Try.ntmps4
          go_wp2_with (first
            | (go_at_call 7; with_reducible refine (H1.out _).mono ?_; rintro e' w' ⟨rfl, rfl⟩)
            | (go_at_call 7; with_reducible refine (H2.out _).mono ?_; rintro e' w' ⟨rfl, rfl⟩)
            | (go_at_call 9; refine (H3.out _).mono ?_; rintro e' w' ⟨rfl, rfl⟩)
            | (go_at_call 14; refine (H4.out _).mono ?_; rintro e' w' ⟨rfl, rfl⟩)
            | (go_at_call 6; refine (HA.out _).mono ?_; rintro e' w' ⟨rfl, rfl⟩))
          go_ret
          exact ⟨ret_b (by simp <;> omega), rfl⟩
        · clear hn
          go_enter Try.func4, Try.ntmps4
          go_wp2_with (first
            | (go_at_call 7; with_reducible refine (H1.out _).mono ?_; rintro e' w' ⟨rfl, rfl⟩)
            | (go_at_call 7; with_reducible refine (H2.out _).mono ?_; rintro e' w' ⟨rfl, rfl⟩)
            | (go_at_call 9; refine (H3.out _).mono ?_; rintro e' w' ⟨rfl, rfl⟩)
            | (go_at_call 14; refine (H4.out _).mono ?_; rintro e' w' ⟨rfl, rfl⟩)
            | (go_at_call 6; refine (HA.out _).mono ?_; rintro e' w' ⟨rfl, rfl⟩))
          go_ret
          exact ⟨ret_b (by simp <;> omega), rfl⟩

set_option maxRecDepth 100000 in
set_option maxHeartbeats 2000000 in
theorem Tells_walk (s x v a : Int) (l0 : -9223372036854775808 ≤ v) (l1 : v ≤ 9223372036854775807) (w : World) : Calls Try.prog 3 #[.int .i64 s, .int .i64 x, .int .i64 v, .int .i64 a] w fun e w' => e = .returned (.bool true) ∧ w' = w := by
  have HA := Lib.hid oalive_is
  have H1 := Lib.hid (oheader_is s x)
  have R1 := Lib.hid (rheader_is s x)
  have H2 := Lib.hid (oparse_is v l0 l1)
  have R2 := Lib.hid (rparse_is v)
  have H3 := Lib.hid (oforwarded_is v l0 l1)
  have R3 := Lib.hid (rforwarded_is v l0 l1)
  have H4 := Lib.hid (osize_is s x)
  have H5 := Lib.hid (oforward_is a)
  have hn : hdOk v = true → fwOk v = false := hd_not_fw
  have hsz : szI s x = if shOk s x = true then 1 + s + x else 0 := rfl
  have hsh : shOk s x = true → 0 ≤ s ∧ s ≤ 15 ∧ 0 ≤ x ∧ x ≤ 30 := shOk_yes
  generalize prS v = c at *
  generalize prW v = d at *
  generalize hdI s x = h at *
  generalize fwA v = t at *
  generalize hdOk v = on at *
  generalize fwOk v = to at *
  generalize szI s x = z at *
  generalize shOk s x = ok at *
  cases hp : plOk a
  · have hf : fdI a = 0 := if_neg (by rw [hp]; decide)
    have hq := plOk_no hp
    rw [hp, hf] at H5
    clear hp hf
    have hq2 : a < 1 ∨ (1 ≤ a ∧ 100000 < a) := by omega
    clear hq
    rcases hq2 with q1 | ⟨q1, q2⟩
    all_goals
      cases ok
      · obtain rfl : z = 0 := hsz
        clear hsh
        cases on
        · clear hn
          cases to
          all_goals
            go_enter Try.func3, Try.ntmps3
            go_wp2_with (first
              | (go_at_call 7; refine (H1.out _).mono ?_; rintro e' w' ⟨rfl, rfl⟩)
              | (go_at_call 8; refine (R1.out _).mono ?_; rintro e' w' ⟨rfl, rfl⟩)
              | (go_at_call 9; with_reducible refine (H2.out _).mono ?_; rintro e' w' ⟨rfl, rfl⟩)
              | (go_at_call 10; refine (R2.out _).mono ?_; rintro e' w' ⟨rfl, rfl⟩)
              | (go_at_call 12; with_reducible refine (H3.out _).mono ?_; rintro e' w' ⟨rfl, rfl⟩)
              | (go_at_call 13; refine (R3.out _).mono ?_; rintro e' w' ⟨rfl, rfl⟩)
              | (go_at_call 14; refine (H4.out _).mono ?_; rintro e' w' ⟨rfl, rfl⟩)
              | (go_at_call 11; refine (H5.out _).mono ?_; rintro e' w' ⟨rfl, rfl⟩)
              | (go_at_call 6; refine (HA.out _).mono ?_; rintro e' w' ⟨rfl, rfl⟩))
            go_ret
            exact ⟨ret_b (by simp <;> omega), rfl⟩
        · obtain rfl := hn rfl
          clear hn
          go_enter Try.func3, Try.ntmps3
          go_wp2_with (first
            | (go_at_call 7; refine (H1.out _).mono ?_; rintro e' w' ⟨rfl, rfl⟩)
            | (go_at_call 8; refine (R1.out _).mono ?_; rintro e' w' ⟨rfl, rfl⟩)
            | (go_at_call 9; with_reducible refine (H2.out _).mono ?_; rintro e' w' ⟨rfl, rfl⟩)
            | (go_at_call 10; refine (R2.out _).mono ?_; rintro e' w' ⟨rfl, rfl⟩)
            | (go_at_call 12; with_reducible refine (H3.out _).mono ?_; rintro e' w' ⟨rfl, rfl⟩)
            | (go_at_call 13; refine (R3.out _).mono ?_; rintro e' w' ⟨rfl, rfl⟩)
            | (go_at_call 14; refine (H4.out _).mono ?_; rintro e' w' ⟨rfl, rfl⟩)
            | (go_at_call 11; refine (H5.out _).mono ?_; rintro e' w' ⟨rfl, rfl⟩)
            | (go_at_call 6; refine (HA.out _).mono ?_; rintro e' w' ⟨rfl, rfl⟩))
          go_ret
          exact ⟨ret_b (by simp <;> omega), rfl⟩
      · obtain rfl : z = 1 + s + x := hsz
        obtain ⟨r1, r2, r3, r4⟩ := hsh rfl
        clear hsh
        cases on
        · clear hn
          cases to
          all_goals
            go_enter Try.func3, Try.ntmps3
            go_wp2_with (first
              | (go_at_call 7; refine (H1.out _).mono ?_; rintro e' w' ⟨rfl, rfl⟩)
              | (go_at_call 8; refine (R1.out _).mono ?_; rintro e' w' ⟨rfl, rfl⟩)
              | (go_at_call 9; with_reducible refine (H2.out _).mono ?_; rintro e' w' ⟨rfl, rfl⟩)
              | (go_at_call 10; refine (R2.out _).mono ?_; rintro e' w' ⟨rfl, rfl⟩)
              | (go_at_call 12; with_reducible refine (H3.out _).mono ?_; rintro e' w' ⟨rfl, rfl⟩)
              | (go_at_call 13; refine (R3.out _).mono ?_; rintro e' w' ⟨rfl, rfl⟩)
              | (go_at_call 14; refine (H4.out _).mono ?_; rintro e' w' ⟨rfl, rfl⟩)
              | (go_at_call 11; refine (H5.out _).mono ?_; rintro e' w' ⟨rfl, rfl⟩)
              | (go_at_call 6; refine (HA.out _).mono ?_; rintro e' w' ⟨rfl, rfl⟩))
            go_ret
            exact ⟨ret_b (by simp <;> omega), rfl⟩
        · obtain rfl := hn rfl
          clear hn
          go_enter Try.func3, Try.ntmps3
          go_wp2_with (first
            | (go_at_call 7; refine (H1.out _).mono ?_; rintro e' w' ⟨rfl, rfl⟩)
            | (go_at_call 8; refine (R1.out _).mono ?_; rintro e' w' ⟨rfl, rfl⟩)
            | (go_at_call 9; with_reducible refine (H2.out _).mono ?_; rintro e' w' ⟨rfl, rfl⟩)
            | (go_at_call 10; refine (R2.out _).mono ?_; rintro e' w' ⟨rfl, rfl⟩)
            | (go_at_call 12; with_reducible refine (H3.out _).mono ?_; rintro e' w' ⟨rfl, rfl⟩)
            | (go_at_call 13; refine (R3.out _).mono ?_; rintro e' w' ⟨rfl, rfl⟩)
            | (go_at_call 14; refine (H4.out _).mono ?_; rintro e' w' ⟨rfl, rfl⟩)
            | (go_at_call 11; refine (H5.out _).mono ?_; rintro e' w' ⟨rfl, rfl⟩)
            | (go_at_call 6; refine (HA.out _).mono ?_; rintro e' w' ⟨rfl, rfl⟩))
          go_ret
          exact ⟨ret_b (by simp <;> omega), rfl⟩
  · have hf : fdI a = 33554432 + a := if_pos hp
    have hq := plOk_yes hp
    have hb := fd_back hp
    have H6 := Lib.hid (oforwarded_is (fdI a) (by omega) (by omega))
    have H7 := Lib.hid (oparse_is (fdI a) (by omega) (by omega))
    rw [hp] at H5
    rw [hb.1, hb.2.1] at H6
    rw [hb.2.2] at H7
    rw [hf] at H5 H6 H7
    clear hp hf hb
    obtain ⟨q1, q2⟩ := hq
    have hw : wrap64 (33554432 + a) = 33554432 + a := by
      unfold wrap64
      omega
    generalize prS (33554432 + a) = u at *
    generalize prW (33554432 + a) = y at *
    cases ok
    · obtain rfl : z = 0 := hsz
      clear hsh
      cases on
      · clear hn
        cases to
        all_goals
          go_enter Try.func3, Try.ntmps3
          go_wp2_with (first
            | (go_at_call 7; refine (H1.out _).mono ?_; rintro e' w' ⟨rfl, rfl⟩)
            | (go_at_call 8; refine (R1.out _).mono ?_; rintro e' w' ⟨rfl, rfl⟩)
            | (go_at_call 9; with_reducible refine (H2.out _).mono ?_; rintro e' w' ⟨rfl, rfl⟩)
            | (go_at_call 10; refine (R2.out _).mono ?_; rintro e' w' ⟨rfl, rfl⟩)
            | (go_at_call 12; with_reducible refine (H3.out _).mono ?_; rintro e' w' ⟨rfl, rfl⟩)
            | (go_at_call 13; refine (R3.out _).mono ?_; rintro e' w' ⟨rfl, rfl⟩)
            | (go_at_call 14; refine (H4.out _).mono ?_; rintro e' w' ⟨rfl, rfl⟩)
            | (go_at_call 11; refine (H5.out _).mono ?_; rintro e' w' ⟨rfl, rfl⟩)
            | (go_at_call 12; with_reducible refine (H6.out _).mono ?_; rintro e' w' ⟨rfl, rfl⟩)
            | (go_at_call 9; with_reducible refine (H7.out _).mono ?_; rintro e' w' ⟨rfl, rfl⟩)
            | (go_at_call 6; refine (HA.out _).mono ?_; rintro e' w' ⟨rfl, rfl⟩))
          go_ret
          exact ⟨ret_b (by simp <;> omega), rfl⟩
      · obtain rfl := hn rfl
        clear hn
        go_enter Try.func3, Try.ntmps3
        go_wp2_with (first
          | (go_at_call 7; refine (H1.out _).mono ?_; rintro e' w' ⟨rfl, rfl⟩)
          | (go_at_call 8; refine (R1.out _).mono ?_; rintro e' w' ⟨rfl, rfl⟩)
          | (go_at_call 9; with_reducible refine (H2.out _).mono ?_; rintro e' w' ⟨rfl, rfl⟩)
          | (go_at_call 10; refine (R2.out _).mono ?_; rintro e' w' ⟨rfl, rfl⟩)
          | (go_at_call 12; with_reducible refine (H3.out _).mono ?_; rintro e' w' ⟨rfl, rfl⟩)
          | (go_at_call 13; refine (R3.out _).mono ?_; rintro e' w' ⟨rfl, rfl⟩)
          | (go_at_call 14; refine (H4.out _).mono ?_; rintro e' w' ⟨rfl, rfl⟩)
          | (go_at_call 11; refine (H5.out _).mono ?_; rintro e' w' ⟨rfl, rfl⟩)
          | (go_at_call 12; with_reducible refine (H6.out _).mono ?_; rintro e' w' ⟨rfl, rfl⟩)
          | (go_at_call 9; with_reducible refine (H7.out _).mono ?_; rintro e' w' ⟨rfl, rfl⟩)
          | (go_at_call 6; refine (HA.out _).mono ?_; rintro e' w' ⟨rfl, rfl⟩))
        go_ret
        exact ⟨ret_b (by simp <;> omega), rfl⟩
    · obtain rfl : z = 1 + s + x := hsz
      obtain ⟨r1, r2, r3, r4⟩ := hsh rfl
      clear hsh
      cases on
      · clear hn
        cases to
        all_goals
          go_enter Try.func3, Try.ntmps3
          go_wp2_with (first
            | (go_at_call 7; refine (H1.out _).mono ?_; rintro e' w' ⟨rfl, rfl⟩)
            | (go_at_call 8; refine (R1.out _).mono ?_; rintro e' w' ⟨rfl, rfl⟩)
            | (go_at_call 9; with_reducible refine (H2.out _).mono ?_; rintro e' w' ⟨rfl, rfl⟩)
            | (go_at_call 10; refine (R2.out _).mono ?_; rintro e' w' ⟨rfl, rfl⟩)
            | (go_at_call 12; with_reducible refine (H3.out _).mono ?_; rintro e' w' ⟨rfl, rfl⟩)
            | (go_at_call 13; refine (R3.out _).mono ?_; rintro e' w' ⟨rfl, rfl⟩)
            | (go_at_call 14; refine (H4.out _).mono ?_; rintro e' w' ⟨rfl, rfl⟩)
            | (go_at_call 11; refine (H5.out _).mono ?_; rintro e' w' ⟨rfl, rfl⟩)
            | (go_at_call 12; with_reducible refine (H6.out _).mono ?_; rintro e' w' ⟨rfl, rfl⟩)
            | (go_at_call 9; with_reducible refine (H7.out _).mono ?_; rintro e' w' ⟨rfl, rfl⟩)
            | (go_at_call 6; refine (HA.out _).mono ?_; rintro e' w' ⟨rfl, rfl⟩))
          go_ret
          exact ⟨ret_b (by simp <;> omega), rfl⟩
      · obtain rfl := hn rfl
        clear hn
        go_enter Try.func3, Try.ntmps3
        go_wp2_with (first
          | (go_at_call 7; refine (H1.out _).mono ?_; rintro e' w' ⟨rfl, rfl⟩)
          | (go_at_call 8; refine (R1.out _).mono ?_; rintro e' w' ⟨rfl, rfl⟩)
          | (go_at_call 9; with_reducible refine (H2.out _).mono ?_; rintro e' w' ⟨rfl, rfl⟩)
          | (go_at_call 10; refine (R2.out _).mono ?_; rintro e' w' ⟨rfl, rfl⟩)
          | (go_at_call 12; with_reducible refine (H3.out _).mono ?_; rintro e' w' ⟨rfl, rfl⟩)
          | (go_at_call 13; refine (R3.out _).mono ?_; rintro e' w' ⟨rfl, rfl⟩)
          | (go_at_call 14; refine (H4.out _).mono ?_; rintro e' w' ⟨rfl, rfl⟩)
          | (go_at_call 11; refine (H5.out _).mono ?_; rintro e' w' ⟨rfl, rfl⟩)
          | (go_at_call 12; with_reducible refine (H6.out _).mono ?_; rintro e' w' ⟨rfl, rfl⟩)
          | (go_at_call 9; with_reducible refine (H7.out _).mono ?_; rintro e' w' ⟨rfl, rfl⟩)
          | (go_at_call 6; refine (HA.out _).mono ?_; rintro e' w' ⟨rfl, rfl⟩))
        go_ret
        exact ⟨ret_b (by simp <;> omega), rfl⟩

theorem i64_bounds {x : Int} (h : (Lit.int .i64 x).wf = true) : -9223372036854775808 ≤ x ∧ x ≤ 9223372036854775807 := by
  have h2 : (decide (IntKind.i64.min ≤ x) && decide (x ≤ IntKind.i64.max)) = true := h
  rw [Bool.and_eq_true, decide_eq_true_eq, decide_eq_true_eq] at h2
  exact h2
theorem stays {P : Program} {f : FuncId} {args : Array Value} {w : World} (h : Calls P f args w fun e w' => e = .returned (.bool true) ∧ w' = w) : Calls P f args w fun e w' => e = .returned (.bool true) ∧ Below w.heap.size w w' :=
  h.mono fun _ _ ⟨he, hw⟩ => ⟨he, hw ▸ Below.refl _ _⟩
end Go.Proofs.Ytjpphmcmjndnaaa
