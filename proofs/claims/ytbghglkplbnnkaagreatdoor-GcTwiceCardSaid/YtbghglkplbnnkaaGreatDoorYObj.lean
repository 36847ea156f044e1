import Derived.Test.YtbghglkplbnnkaaGreatDoorProg
import Derived.WalkKit
import Derived.ProofKit
import Derived.Lib.Hide
import Derived.Below
set_option linter.unusedVariables false
set_option linter.unusedSimpArgs false
-- ObjRef
namespace Go.Proofs.YtbghglkplbnnkaaGreatDoor
open Go.RowKit

def shOk (s w : Int) : Bool := decide (0 ≤ s ∧ s ≤ 15 ∧ 0 ≤ w ∧ w ≤ 30)
def hdI (s w : Int) : Int := if shOk s w = true then 16777216 + 256 * s + w else 0
def hdOk (v : Int) : Bool := decide (16777216 ≤ v ∧ v < 33554432 ∧ (v - 16777216) / 256 ≤ 15 ∧ (v - 16777216) % 256 ≤ 30)
def prS (v : Int) : Int := if hdOk v = true then (v - 16777216) / 256 else 0
def prW (v : Int) : Int := if hdOk v = true then (v - 16777216) % 256 else 0
def fwOk (v : Int) : Bool := decide (33554433 ≤ v ∧ v ≤ 33654432)
def fwA (v : Int) : Int := if fwOk v = true then v - 33554432 else 0
theorem shOk_yes {s w : Int} (h : shOk s w = true) : 0 ≤ s ∧ s ≤ 15 ∧ 0 ≤ w ∧ w ≤ 30 := of_decide_eq_true h
theorem hdOk_yes {v : Int} (h : hdOk v = true) : 16777216 ≤ v ∧ v < 33554432 ∧ (v - 16777216) / 256 ≤ 15 ∧ (v - 16777216) % 256 ≤ 30 := of_decide_eq_true h
theorem fwOk_yes {v : Int} (h : fwOk v = true) : 33554433 ≤ v ∧ v ≤ 33654432 := of_decide_eq_true h
theorem pr_range (v : Int) : shOk (prS v) (prW v) = true := by
  cases q : hdOk v
  · rw [prS, prW, q]; rfl
  · have := hdOk_yes q
    rw [prS, prW, q, if_pos rfl, if_pos rfl]
    exact decide_eq_true (by omega)
theorem hd_back {s w : Int} (h : shOk s w = true) : hdOk (hdI s w) = true ∧ prS (hdI s w) = s ∧ prW (hdI s w) = w := by
  have q := shOk_yes h
  have e : hdI s w = 16777216 + 256 * s + w := if_pos h
  have e1 : hdOk (hdI s w) = true := by
    rw [e]
    exact decide_eq_true (by omega)
  refine ⟨e1, ?_, ?_⟩
  · rw [prS, if_pos e1, e]; omega
  · rw [prW, if_pos e1, e]; omega
theorem ret_ib {a b : Int} {c d : Bool} (h : a = b) (h2 : c = d) : Ending.returned (.tuple #[.int .i64 a, .bool c]) = .returned (.tuple #[.int .i64 b, .bool d]) := by rw [h, h2]
theorem ret_iib {a b c d : Int} {e f : Bool} (h : a = b) (h2 : c = d) (h3 : e = f) : Ending.returned (.tuple #[.int .i64 a, .int .i64 c, .bool e]) = .returned (.tuple #[.int .i64 b, .int .i64 d, .bool f]) := by rw [h, h2, h3]

set_option maxRecDepth 100000 in
theorem rheader_is (s x : Int) (w : World) : Calls Tryz.prog 77 #[.int .i64 s, .int .i64 x] w fun e w' => e = .returned (.tuple #[.int .i64 (hdI s x), .bool (shOk s x)]) ∧ w' = w := by
  have cases : (s < 0) ∨ (0 ≤ s ∧ 15 < s) ∨ (0 ≤ s ∧ s ≤ 15 ∧ x < 0) ∨ (0 ≤ s ∧ s ≤ 15 ∧ 0 ≤ x ∧ 30 < x) ∨ (0 ≤ s ∧ s ≤ 15 ∧ 0 ≤ x ∧ x ≤ 30) := by omega
  rcases cases with c1 | ⟨c1, c2⟩ | ⟨c1, c2, c3⟩ | ⟨c1, c2, c3, c4⟩ | ⟨c1, c2, c3, c4⟩
  rotate_right
  · have q : shOk s x = true := decide_eq_true (by omega)
    have e : hdI s x = 16777216 + 256 * s + x := if_pos q
    rw [q, e]
    clear q e
    go_enter Tryz.func77, Tryz.ntmps77
    go_wp2
    go_ret2
    exact ⟨ret_ib (by omega) rfl, rfl⟩
  all_goals
    have q : shOk s x = false := decide_eq_false (by omega)
    have e : hdI s x = 0 := if_neg (by rw [q]; decide)
    rw [q, e]
    clear q e
    go_enter Tryz.func77, Tryz.ntmps77
    go_wp2
    go_ret2
    exact ⟨rfl, rfl⟩
set_option maxRecDepth 100000 in
theorem rforwarded_is (v : Int) (h0 : -9223372036854775808 ≤ v) (h1 : v ≤ 9223372036854775807) (w : World) : Calls Tryz.prog 80 #[.int .i64 v] w fun e w' => e = .returned (.tuple #[.int .i64 (fwA v), .bool (fwOk v)]) ∧ w' = w := by
  have hw : wrap64 (v - 33554432) = if v < -9223372036854775808 + 33554432 then v - 33554432 + 18446744073709551616 else v - 33554432 := by
    unfold wrap64
    split <;> omega
  cases q : fwOk v
  · have e : fwA v = 0 := if_neg (by rw [q]; decide)
    have hq := of_decide_eq_false q
    have hc : (if v < -9223372036854775808 + 33554432 then v - 33554432 + 18446744073709551616 else v - 33554432) < 1 ∨ (1 ≤ (if v < -9223372036854775808 + 33554432 then v - 33554432 + 18446744073709551616 else v - 33554432) ∧ 100000 < (if v < -9223372036854775808 + 33554432 then v - 33554432 + 18446744073709551616 else v - 33554432)) := by
      split <;> omega
    rw [e]
    rw [← hw] at hc
    clear q e hq hw
    rcases hc with c1 | ⟨c1, c2⟩
    all_goals
      go_enter Tryz.func80, Tryz.ntmps80
      go_wp2
      go_ret2
      exact ⟨rfl, rfl⟩
  · have hq := fwOk_yes q
    have e : fwA v = v - 33554432 := if_pos q
    rw [e]
    obtain ⟨c1, c2⟩ := hq
    clear q e hw
    go_enter Tryz.func80, Tryz.ntmps80
    go_wp2
    go_ret2
    exact ⟨ret_ib (by omega) rfl, rfl⟩
set_option maxRecDepth 100000 in
set_option maxHeartbeats 1000000 in
theorem rparse_is (v : Int) (w : World) : Calls Tryz.prog 41 #[.int .i64 v] w fun e w' => e = .returned (.tuple #[.int .i64 (prS v), .int .i64 (prW v), .bool (hdOk v)]) ∧ w' = w := by
  by_cases c : 16777216 ≤ v ∧ v < 33554432
  · obtain ⟨c1, c2⟩ := c
    have HH := Lib.hid (rheader_is ((v - 16777216) / 256) ((v - 16777216) % 256))
    cases q : hdOk v
    · have e1 : prS v = 0 := if_neg (by rw [q]; decide)
      have e2 : prW v = 0 := if_neg (by rw [q]; decide)
      have hq := of_decide_eq_false q
      have hs : shOk ((v - 16777216) / 256) ((v - 16777216) % 256) = false := decide_eq_false (by omega)
      rw [e1, e2]
      rw [hs] at HH
      clear q e1 e2 hq hs
      generalize hdI ((v - 16777216) / 256) ((v - 16777216) % 256) = y at *
      go_enter Tryz.func41, Tryz.ntmps41
      go_wp2_with (go_at_call 77
                   refine (HH.out _).mono ?_
                   rintro e' w' ⟨rfl, rfl⟩)
      go_ret3
      exact ⟨rfl, rfl⟩
    · have e1 : prS v = (v - 16777216) / 256 := if_pos q
      have e2 : prW v = (v - 16777216) % 256 := if_pos q
      have hq := hdOk_yes q
      have hs : shOk ((v - 16777216) / 256) ((v - 16777216) % 256) = true := decide_eq_true (by omega)
      have hd : hdI ((v - 16777216) / 256) ((v - 16777216) % 256) = v := by
        rw [hdI, if_pos hs]
        omega
      rw [e1, e2]
      rw [hs, hd] at HH
      clear q e1 e2 hq hs hd
      go_enter Tryz.func41, Tryz.ntmps41
      go_wp2_with (go_at_call 77
                   refine (HH.out _).mono ?_
                   rintro e' w' ⟨rfl, rfl⟩)
      go_ret3
      exact ⟨rfl, rfl⟩
  · have q : hdOk v = false := decide_eq_false (by omega)
    have e1 : prS v = 0 := if_neg (by rw [q]; decide)
    have e2 : prW v = 0 := if_neg (by rw [q]; decide)
    rw [q, e1, e2]
    clear q e1 e2
    have hc : v < 16777216 ∨ (16777216 ≤ v ∧ 33554432 ≤ v) := by omega
    clear c
    rcases hc with c1 | ⟨c1, c2⟩
    all_goals
      go_enter Tryz.func41, Tryz.ntmps41
      go_wp2
      go_ret3
      exact ⟨rfl, rfl⟩
end Go.Proofs.YtbghglkplbnnkaaGreatDoor
-- ObjIs
namespace Go.Proofs.YtbghglkplbnnkaaGreatDoor
open Go.RowKit

theorem ret_b {a b : Bool} (h : a = b) : Ending.returned (.bool a) = .returned (.bool b) := by rw [h]
theorem ret_i {a b : Int} (h : a = b) : Ending.returned (.int .i64 a) = .returned (.int .i64 b) := by rw [h]
def plOk (a : Int) : Bool := decide (1 ≤ a ∧ a ≤ 100000)
def szI (s x : Int) : Int := if shOk s x = true then 1 + s + x else 0
def fdI (a : Int) : Int := if plOk a = true then 33554432 + a else 0
def kdI (v : Int) : Int := if hdOk v = true then 1 else if fwOk v = true then 2 else 0
def sdI (v : Int) : Int := if hdOk v = true then v - 16777216 else if fwOk v = true then v - 33554432 else 0
theorem plOk_yes {a : Int} (h : plOk a = true) : 1 ≤ a ∧ a ≤ 100000 := of_decide_eq_true h
theorem hd_not_fw {v : Int} (h : hdOk v = true) : fwOk v = false := by
  have := hdOk_yes h
  exact decide_eq_false (by omega)

set_option maxRecDepth 100000 in
theorem oshape_is (s x : Int) (w : World) : Calls Tryz.prog 81 #[.int .i64 s, .int .i64 x] w fun e w' => e = .returned (.bool (shOk s x)) ∧ w' = w := by
  have cases : (s < 0) ∨ (0 ≤ s ∧ 15 < s) ∨ (0 ≤ s ∧ s ≤ 15 ∧ x < 0) ∨ (0 ≤ s ∧ s ≤ 15 ∧ 0 ≤ x ∧ 30 < x) ∨ (0 ≤ s ∧ s ≤ 15 ∧ 0 ≤ x ∧ x ≤ 30) := by omega
  rcases cases with c1 | ⟨c1, c2⟩ | ⟨c1, c2, c3⟩ | ⟨c1, c2, c3, c4⟩ | ⟨c1, c2, c3, c4⟩
  rotate_right
  · rw [show shOk s x = true from decide_eq_true (by omega)]
    go_enter Tryz.func81, Tryz.ntmps81
    go_wp2
    go_ret
    exact ⟨rfl, rfl⟩
  all_goals
    rw [show shOk s x = false from decide_eq_false (by omega)]
    go_enter Tryz.func81, Tryz.ntmps81
    go_wp2
    go_ret
    exact ⟨rfl, rfl⟩
set_option maxRecDepth 100000 in
theorem oplace_is (a : Int) (w : World) : Calls Tryz.prog 139 #[.int .i64 a] w fun e w' => e = .returned (.bool (plOk a)) ∧ w' = w := by
  have cases : (a < 1) ∨ (1 ≤ a ∧ 100000 < a) ∨ (1 ≤ a ∧ a ≤ 100000) := by omega
  rcases cases with c1 | ⟨c1, c2⟩ | ⟨c1, c2⟩
  rotate_right
  · rw [show plOk a = true from decide_eq_true (by omega)]
    go_enter Tryz.func139, Tryz.ntmps139
    go_wp2
    go_ret
    exact ⟨ret_b (by simp <;> omega), rfl⟩
  all_goals
    rw [show plOk a = false from decide_eq_false (by omega)]
    go_enter Tryz.func139, Tryz.ntmps139
    go_wp2
    go_ret
    exact ⟨ret_b (by simp <;> omega), rfl⟩
set_option maxRecDepth 100000 in
theorem oheader_is (s x : Int) (w : World) : Calls Tryz.prog 51 #[.int .i64 s, .int .i64 x] w fun e w' => e = .returned (.tuple #[.int .i64 (hdI s x), .bool (shOk s x)]) ∧ w' = w := by
  have HH := Lib.hid (oshape_is s x)
  cases q : shOk s x
  · rw [show hdI s x = 0 from if_neg (by rw [q]; decide)]
    rw [q] at HH
    clear q
    go_enter Tryz.func51, Tryz.ntmps51
    go_wp2_with (go_at_call 81; refine (HH.out _).mono ?_; rintro e' w' ⟨rfl, rfl⟩)
    go_ret2
    exact ⟨rfl, rfl⟩
  · obtain ⟨c1, c2, c3, c4⟩ := shOk_yes q
    rw [show hdI s x = 16777216 + 256 * s + x from if_pos q]
    rw [q] at HH
    clear q
    go_enter Tryz.func51, Tryz.ntmps51
    go_wp2_with (go_at_call 81; refine (HH.out _).mono ?_; rintro e' w' ⟨rfl, rfl⟩)
    go_ret2
    exact ⟨ret_ib (by omega) rfl, rfl⟩
set_option maxRecDepth 100000 in
theorem osize_is (s x : Int) (w : World) : Calls Tryz.prog 52 #[.int .i64 s, .int .i64 x] w fun e w' => e = .returned (.int .i64 (szI s x)) ∧ w' = w := by
  have HH := Lib.hid (oshape_is s x)
  cases q : shOk s x
  · rw [show szI s x = 0 from if_neg (by rw [q]; decide)]
    rw [q] at HH
    clear q
    go_enter Tryz.func52, Tryz.ntmps52
    go_wp2_with (go_at_call 81; refine (HH.out _).mono ?_; rintro e' w' ⟨rfl, rfl⟩)
    go_ret
    exact ⟨rfl, rfl⟩
  · obtain ⟨c1, c2, c3, c4⟩ := shOk_yes q
    rw [show szI s x = 1 + s + x from if_pos q]
    rw [q] at HH
    clear q
    go_enter Tryz.func52, Tryz.ntmps52
    go_wp2_with (go_at_call 81; refine (HH.out _).mono ?_; rintro e' w' ⟨rfl, rfl⟩)
    go_ret
    exact ⟨ret_i (by omega), rfl⟩
set_option maxRecDepth 100000 in
theorem oforward_is (a : Int) (w : World) : Calls Tryz.prog 173 #[.int .i64 a] w fun e w' => e = .returned (.tuple #[.int .i64 (fdI a), .bool (plOk a)]) ∧ w' = w := by
  have HH := Lib.hid (oplace_is a)
  cases q : plOk a
  · rw [show fdI a = 0 from if_neg (by rw [q]; decide)]
    rw [q] at HH
    clear q
    go_enter Tryz.func173, Tryz.ntmps173
    go_wp2_with (go_at_call 139; refine (HH.out _).mono ?_; rintro e' w' ⟨rfl, rfl⟩)
    go_ret2
    exact ⟨rfl, rfl⟩
  · obtain ⟨c1, c2⟩ := plOk_yes q
    rw [show fdI a = 33554432 + a from if_pos q]
    rw [q] at HH
    clear q
    go_enter Tryz.func173, Tryz.ntmps173
    go_wp2_with (go_at_call 139; refine (HH.out _).mono ?_; rintro e' w' ⟨rfl, rfl⟩)
    go_ret2
    exact ⟨ret_ib (by omega) rfl, rfl⟩

set_option maxRecDepth 100000 in
set_option maxHeartbeats 1000000 in
theorem oread_is (v : Int) (l0 : -9223372036854775808 ≤ v) (l1 : v ≤ 9223372036854775807) (w : World) : Calls Tryz.prog 116 #[.int .i64 v] w fun e w' => e = .returned (.tuple #[.int .i64 (kdI v), .int .i64 (sdI v)]) ∧ w' = w := by
  obtain ⟨k, hk⟩ : ∃ k, v.tdiv 16777216 = k := ⟨_, rfl⟩
  obtain ⟨s, hs⟩ : ∃ s, v.tmod 16777216 = s := ⟨_, rfl⟩
  have hm := Int.mul_tdiv_add_tmod v 16777216
  have hs1 := Int.tmod_lt_of_pos v (b := 16777216) (by decide)
  have hs0 : 0 ≤ v → 0 ≤ s := fun h => hs ▸ Int.tmod_nonneg _ h
  have hsn : v < 0 → s ≤ 0 ∧ -16777216 < s := fun h => by
    have h1 := Int.tmod_nonneg (a := -v) 16777216 (by omega)
    have h2 := Int.tmod_lt_of_pos (-v) (b := 16777216) (by decide)
    rw [Int.neg_tmod] at h1 h2
    omega
  rw [hk, hs] at hm
  rw [hs] at hs1
  have hkw : wrap64 k = k := by
    unfold wrap64
    omega
  by_cases k1 : k = 1
  · subst k1
    have h0 : 0 ≤ s := hs0 (by omega)
    have e1 : s.tdiv 256 = s / 256 := Int.tdiv_eq_ediv_of_nonneg h0
    have e2 : s.tmod 256 = s % 256 := Int.tmod_eq_emod_of_nonneg h0
    have HH := Lib.hid (oshape_is (s / 256) (s % 256))
    have hf : fwOk v = false := decide_eq_false (by omega)
    cases q : hdOk v
    · have hq := of_decide_eq_false q
      have hsh : shOk (s / 256) (s % 256) = false := decide_eq_false (by omega)
      rw [show kdI v = 0 by rw [kdI, q, hf]; rfl, show sdI v = 0 by rw [sdI, q, hf]; rfl]
      rw [hsh] at HH
      clear q hf hq hsh hs0 hsn hm
      go_enter Tryz.func116, Tryz.ntmps116
      go_wp2_with (go_at_call 81; refine (HH.out _).mono ?_; rintro e' w' ⟨rfl, rfl⟩)
      go_ret2
      exact ⟨rfl, rfl⟩
    · have hq := hdOk_yes q
      have hsh : shOk (s / 256) (s % 256) = true := decide_eq_true (by omega)
      rw [show kdI v = 1 by rw [kdI, q]; rfl, show sdI v = s by rw [sdI, q, if_pos rfl]; omega]
      rw [hsh] at HH
      clear q hf hq hsh hs0 hsn hm
      go_enter Tryz.func116, Tryz.ntmps116
      go_wp2_with (go_at_call 81; refine (HH.out _).mono ?_; rintro e' w' ⟨rfl, rfl⟩)
      go_ret2
      exact ⟨rfl, rfl⟩
  · have hh : hdOk v = false := decide_eq_false (by omega)
    by_cases k2 : k = 2
    · subst k2
      have HH := Lib.hid (oplace_is s)
      cases q : fwOk v
      · have hq := of_decide_eq_false q
        have hsh : plOk s = false := decide_eq_false (by omega)
        rw [show kdI v = 0 by rw [kdI, q, hh]; rfl, show sdI v = 0 by rw [sdI, q, hh]; rfl]
        rw [hsh] at HH
        clear q hh hq hsh hs0 hsn hm k1
        go_enter Tryz.func116, Tryz.ntmps116
        go_wp2_with (go_at_call 139; refine (HH.out _).mono ?_; rintro e' w' ⟨rfl, rfl⟩)
        go_ret2
        exact ⟨rfl, rfl⟩
      · have hq := fwOk_yes q
        have hsh : plOk s = true := decide_eq_true (by omega)
        rw [show kdI v = 2 by rw [kdI, q, hh]; rfl, show sdI v = s by rw [sdI, q, hh, if_neg (by decide), if_pos rfl]; omega]
        rw [hsh] at HH
        clear q hh hq hsh hs0 hsn hm k1
        go_enter Tryz.func116, Tryz.ntmps116
        go_wp2_with (go_at_call 139; refine (HH.out _).mono ?_; rintro e' w' ⟨rfl, rfl⟩)
        go_ret2
        exact ⟨rfl, rfl⟩
    · have hf : fwOk v = false := decide_eq_false (by omega)
      rw [show kdI v = 0 by rw [kdI, hf, hh]; rfl, show sdI v = 0 by rw [sdI, hf, hh]; rfl]
      clear hf hh hs0 hsn hm
      go_enter Tryz.func116, Tryz.ntmps116
      go_wp2
      go_ret2
      exact ⟨rfl, rfl⟩

set_option maxRecDepth 100000 in
theorem oforwarded_is (v : Int) (l0 : -9223372036854775808 ≤ v) (l1 : v ≤ 9223372036854775807) (w : World) : Calls Tryz.prog 186 #[.int .i64 v] w fun e w' => e = .returned (.tuple #[.int .i64 (fwA v), .bool (fwOk v)]) ∧ w' = w := by
  have HH := Lib.hid (oread_is v l0 l1)
  cases q : fwOk v
  · have hk : kdI v = 0 ∨ kdI v = 1 := by
      rw [kdI, q]
      cases hdOk v
      · exact .inl rfl
      · exact .inr rfl
    rw [show fwA v = 0 from if_neg (by rw [q]; decide)]
    clear q
    generalize kdI v = k at *
    generalize sdI v = s at *
    rcases hk with rfl | rfl
    all_goals
      go_enter Tryz.func186, Tryz.ntmps186
      go_wp2_with (go_at_call 116; refine (HH.out _).mono ?_; rintro e' w' ⟨rfl, rfl⟩)
      go_ret2
      exact ⟨rfl, rfl⟩
  · have hh : hdOk v = false := by
      cases h : hdOk v
      · rfl
      · have := hd_not_fw h
        rw [q] at this
        exact this
    rw [show fwA v = v - 33554432 from if_pos q]
    rw [show kdI v = 2 by rw [kdI, hh, q]; rfl, show sdI v = v - 33554432 by rw [sdI, hh, q]; rfl] at HH
    clear q hh
    go_enter Tryz.func186, Tryz.ntmps186
    go_wp2_with (go_at_call 116; refine (HH.out _).mono ?_; rintro e' w' ⟨rfl, rfl⟩)
    go_ret2
    exact ⟨rfl, rfl⟩
set_option maxRecDepth 100000 in
theorem oparse_is (v : Int) (l0 : -9223372036854775808 ≤ v) (l1 : v ≤ 9223372036854775807) (w : World) : Calls Tryz.prog 94 #[.int .i64 v] w fun e w' => e = .returned (.tuple #[.int .i64 (prS v), .int .i64 (prW v), .bool (hdOk v)]) ∧ w' = w := by
  have HH := Lib.hid (oread_is v l0 l1)
  cases q : hdOk v
  · have hk : kdI v = 0 ∨ kdI v = 2 := by
      rw [kdI, q]
      cases fwOk v
      · exact .inl rfl
      · exact .inr rfl
    rw [show prS v = 0 from if_neg (by rw [q]; decide), show prW v = 0 from if_neg (by rw [q]; decide)]
    clear q
    generalize kdI v = k at *
    generalize sdI v = s at *
    rcases hk with rfl | rfl
    all_goals
      go_enter Tryz.func94, Tryz.ntmps94
      go_wp2_with (go_at_call 116; refine (HH.out _).mono ?_; rintro e' w' ⟨rfl, rfl⟩)
      go_ret3
      exact ⟨rfl, rfl⟩
  · have hq := hdOk_yes q
    rw [show prS v = (v - 16777216) / 256 from if_pos q, show prW v = (v - 16777216) % 256 from if_pos q]
    rw [show kdI v = 1 by rw [kdI, q]; rfl, show sdI v = v - 16777216 by rw [sdI, q]; rfl] at HH
    clear q
    obtain ⟨s, hs⟩ : ∃ s, v - 16777216 = s := ⟨_, rfl⟩
    rw [hs] at HH hq ⊢
    have h0 : 0 ≤ s := by omega
    have e1 : s.tdiv 256 = s / 256 := Int.tdiv_eq_ediv_of_nonneg h0
    have e2 : s.tmod 256 = s % 256 := Int.tmod_eq_emod_of_nonneg h0
    have hsr : wrap64 (s / 256) = s / 256 := by
      unfold wrap64
      omega
    clear hq hs
    go_enter Tryz.func94, Tryz.ntmps94
    go_wp2_with (go_at_call 116; refine (HH.out _).mono ?_; rintro e' w' ⟨rfl, rfl⟩)
    go_ret3
    exact ⟨ret_iib hsr rfl rfl, rfl⟩
end Go.Proofs.YtbghglkplbnnkaaGreatDoor
