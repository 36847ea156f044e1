/- The document's own headers (package flittingref10): Header, Parse, Forwarded, as functions of numbers. -/
import Derived.Test.YtbgdchcnmcjegaaGreatDoorProg
import Derived.WalkKit
import Derived.ProofKit
import Derived.Lib.Hide
import Derived.Below
set_option linter.unusedVariables false
set_option linter.unusedSimpArgs false
namespace Go.Proofs.YtbgdchcnmcjegaaGreatDoor
open Go.RowKit

def shOk (s w : Int) : Bool := decide (0 ≤ s ∧ s ≤ 15 ∧ 0 ≤ w ∧ w ≤ 30)
def hdI (s w : Int) : Int := if shOk s w = true then 16777216 + 256 * s + w else 0
/-- Is a cell a header; its slots, its words. -/
def hdOk (v : Int) : Bool := decide (16777216 ≤ v ∧ v < 33554432 ∧ (v - 16777216) / 256 ≤ 15 ∧ (v - 16777216) % 256 ≤ 30)
def prS (v : Int) : Int := if hdOk v = true then (v - 16777216) / 256 else 0
def prW (v : Int) : Int := if hdOk v = true then (v - 16777216) % 256 else 0
/-- Is a cell a place that an object moved to; which. -/
def fwOk (v : Int) : Bool := decide (33554433 ≤ v ∧ v ≤ 33654432)
def fwA (v : Int) : Int := if fwOk v = true then v - 33554432 else 0
theorem shOk_yes {s w : Int} (h : shOk s w = true) : 0 ≤ s ∧ s ≤ 15 ∧ 0 ≤ w ∧ w ≤ 30 := of_decide_eq_true h
theorem hdOk_yes {v : Int} (h : hdOk v = true) : 16777216 ≤ v ∧ v < 33554432 ∧ (v - 16777216) / 256 ≤ 15 ∧ (v - 16777216) % 256 ≤ 30 := of_decide_eq_true h
theorem fwOk_yes {v : Int} (h : fwOk v = true) : 33554433 ≤ v ∧ v ≤ 33654432 := of_decide_eq_true h
theorem pr_range (v : Int) : shOk (prS v) (prW v) = true := by
  cases q : hdOk v
  · rw [prS, prW, q]; rfl
  · have := hdOk_yes q
    rw [prS, prW, q, if_pos rfl, if_pos rfl]
    exact decide_eq_true (by omega)
/-- A header, and back. -/
theorem hd_back {s w : Int} (h : shOk s w = true) : hdOk (hdI s w) = true ∧ prS (hdI s w) = s ∧ prW (hdI s w) = w := by
  have q := shOk_yes h
  have e : hdI s w = 16777216 + 256 * s + w := if_pos h
  have e1 : hdOk (hdI s w) = true := by
    rw [e]
    exact decide_eq_true (by omega)
  refine ⟨e1, ?_, ?_⟩
  · rw [prS, if_pos e1, e]; omega
  · rw [prW, if_pos e1, e]; omega
theorem ret_ib {a b : Int} {c d : Bool} (h : a = b) (h2 : c = d) : Ending.returned (.tuple #[.int .i64 a, .bool c]) = .returned (.tuple #[.int .i64 b, .bool d]) := by rw [h, h2]
theorem ret_iib {a b c d : Int} {e f : Bool} (h : a = b) (h2 : c = d) (h3 : e = f) : Ending.returned (.tuple #[.int .i64 a, .int .i64 c, .bool e]) = .returned (.tuple #[.int .i64 b, .int .i64 d, .bool f]) := by rw [h, h2, h3]

set_option maxRecDepth 100000 in
theorem rheader_is (s x : Int) (w : World) : Calls Tryz.prog 164 #[.int .i64 s, .int .i64 x] w fun e w' => e = .returned (.tuple #[.int .i64 (hdI s x), .bool (shOk s x)]) ∧ w' = w := by
  have cases : (s < 0) ∨ (0 ≤ s ∧ 15 < s) ∨ (0 ≤ s ∧ s ≤ 15 ∧ x < 0) ∨ (0 ≤ s ∧ s ≤ 15 ∧ 0 ≤ x ∧ 30 < x) ∨ (0 ≤ s ∧ s ≤ 15 ∧ 0 ≤ x ∧ x ≤ 30) := by omega
  rcases cases with c1 | ⟨c1, c2⟩ | ⟨c1, c2, c3⟩ | ⟨c1, c2, c3, c4⟩ | ⟨c1, c2, c3, c4⟩
  rotate_right
  · have q : shOk s x = true := decide_eq_true (by omega)
    have e : hdI s x = 16777216 + 256 * s + x := if_pos q
    rw [q, e]
    clear q e
    go_enter Tryz.func164, Tryz.ntmps164
    go_wp2
    go_ret2
    exact ⟨ret_ib (by omega) rfl, rfl⟩
  all_goals
    have q : shOk s x = false := decide_eq_false (by omega)
    have e : hdI s x = 0 := if_neg (by rw [q]; decide)
    rw [q, e]
    clear q e
    go_enter Tryz.func164, Tryz.ntmps164
    go_wp2
    go_ret2
    exact ⟨rfl, rfl⟩
set_option maxRecDepth 100000 in
set_option maxHeartbeats 1000000 in
theorem rparse_is (v : Int) (w : World) : Calls Tryz.prog 163 #[.int .i64 v] w fun e w' => e = .returned (.tuple #[.int .i64 (prS v), .int .i64 (prW v), .bool (hdOk v)]) ∧ w' = w := by
  by_cases c : 16777216 ≤ v ∧ v < 33554432
  · obtain ⟨c1, c2⟩ := c
    have HH := Lib.hid (rheader_is ((v - 16777216) / 256) ((v - 16777216) % 256))
    cases q : hdOk v
    · have e1 : prS v = 0 := if_neg (by rw [q]; decide)
      have e2 : prW v = 0 := if_neg (by rw [q]; decide)
      have hq := of_decide_eq_false q
      have hs : shOk ((v - 16777216) / 256) ((v - 16777216) % 256) = false := decide_eq_false (by omega)
      rw [e1, e2]
      rw [hs] at HH
      clear q e1 e2 hq hs
      generalize hdI ((v - 16777216) / 256) ((v - 16777216) % 256) = y at *
      go_enter Tryz.func163, Tryz.ntmps163
      go_wp2_with (go_at_call 164
                   refine (HH.out _).mono ?_
                   rintro e' w' ⟨rfl, rfl⟩)
      go_ret3
      exact ⟨rfl, rfl⟩
    · have e1 : prS v = (v - 16777216) / 256 := if_pos q
      have e2 : prW v = (v - 16777216) % 256 := if_pos q
      have hq := hdOk_yes q
      have hs : shOk ((v - 16777216) / 256) ((v - 16777216) % 256) = true := decide_eq_true (by omega)
      have hd : hdI ((v - 16777216) / 256) ((v - 16777216) % 256) = v := by
        rw [hdI, if_pos hs]
        omega
      rw [e1, e2]
      rw [hs, hd] at HH
      clear q e1 e2 hq hs hd
      go_enter Tryz.func163, Tryz.ntmps163
      go_wp2_with (go_at_call 164
                   refine (HH.out _).mono ?_
                   rintro e' w' ⟨rfl, rfl⟩)
      go_ret3
      exact ⟨rfl, rfl⟩
  · have q : hdOk v = false := decide_eq_false (by omega)
    have e1 : prS v = 0 := if_neg (by rw [q]; decide)
    have e2 : prW v = 0 := if_neg (by rw [q]; decide)
    rw [q, e1, e2]
    clear q e1 e2
    have hc : v < 16777216 ∨ (16777216 ≤ v ∧ 33554432 ≤ v) := by omega
    clear c
    rcases hc with c1 | ⟨c1, c2⟩
    all_goals
      go_enter Tryz.func163, Tryz.ntmps163
      go_wp2
      go_ret3
      exact ⟨rfl, rfl⟩
end Go.Proofs.YtbgdchcnmcjegaaGreatDoor
