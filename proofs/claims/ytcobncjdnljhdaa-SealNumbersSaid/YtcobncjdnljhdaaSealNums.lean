/- SealNumbers' walk. -/
import Derived.Test.YtcobncjdnljhdaaSealTells
import Derived.Deep.RegionWith
namespace Go.Proofs.Ytcobncjdnljhdaa
open Go.RowKit

theorem putS_in (v n : Int) (h0 : 0 ≤ v) (h1 : v < 4294967296) (h4 : 4 ≤ n) (h7 : n ≤ 7) : ((putS v n).size : Int) = n ∧ getI (putS v n) = v ∧ (putS v n).extract 0 4 = putS v 4 := by
  obtain ⟨m, rfl⟩ := Int.eq_ofNat_of_zero_le (show 0 ≤ n by omega)
  have e : putS v m = putB v m := if_pos ⟨h0, h1, by omega, by omega⟩
  rw [e, putS_4 v h0 h1, putB_size]
  refine ⟨rfl, getI_put v m h0 h1 (by omega) (by omega), ?_⟩
  apply ba_ext
  simp only [ByteArray.data_extract, Array.toList_extract, List.extract_eq_take_drop, List.drop_zero, Nat.sub_zero]
  rw [putB, strOf_list, putB, strOf_list, putL, putL, ← List.map_take, ← List.map_take, List.take_range, Nat.min_eq_left (by omega)]

set_option maxRecDepth 100000 in
set_option maxHeartbeats 4000000 in
theorem Numbers_walk (v n : Int) (w : World) :
    Calls Try.prog 5 #[.int .i64 v, .int .i64 n] w fun e w' => e = .returned (.bool true) ∧ Below w.heap.size w w' := by
  have HA := Lib.hid alive_is
  have hB := Below.refl w.heap.size w
  by_cases hin : 0 ≤ v ∧ v < 4294967296 ∧ 4 ≤ n ∧ n ≤ 7
  · obtain ⟨h0, h1, h2, h3⟩ := hin
    obtain ⟨p1, p2, p3⟩ := putS_in v n h0 h1 h2 h3
    have p4 : (4 : Int) ≤ ((putS v n).size : Int) := by omega
    have H1 := Lib.hid (fun w => Put_is v n w)
    have H2 := Lib.hid (fun w => Put_is v 4 w)
    have H3 := Lib.hid (fun w => Put_is (-1) 4 w)
    have H4 := Lib.hid (fun w => Put_is v 0 w)
    have H5 := Lib.hid (fun w => Put_is v 9 w)
    have e3 : putS (-1) 4 = ByteArray.empty := if_neg (by omega)
    have e4 : putS v 0 = ByteArray.empty := if_neg (by omega)
    have e5 : putS v 9 = ByteArray.empty := if_neg (by omega)
    rw [e3] at H3
    rw [e4] at H4
    rw [e5] at H5
    have H6 := Lib.hid (fun w => Get_is (putS v n) (by unfold maxLen; omega) w)
    rw [p2] at H6
    have HP := Lib.hid p1
    clear e3 e4 e5 p2
    generalize putS v n = s at *
    generalize putS v 4 = z at *
    have p5 : (s.size : Int) ≤ 7 := by omega
    clear p1
    go_enter Try.func5, Try.ntmps5
    go_wp2_with (first
      | (go_at_call 8; refine (HA.out _).mono ?_; rintro e w1 ⟨rfl, b1⟩; replace hB := below_next hB b1; clear b1)
      | (go_at_call 14; refine (H1.out _).mono ?_; rintro e w1 ⟨rfl, b1⟩; replace hB := below_next hB b1; clear b1))
    have p1 := HP.out
    go_region_with (first
      | (go_at_call 16; refine (H6.out _).mono ?_; rintro e w1 ⟨rfl, rfl⟩)
      | (go_at_call 14; (first | (with_reducible refine (H2.out _).mono ?_) | (with_reducible refine (H3.out _).mono ?_) | (with_reducible refine (H4.out _).mono ?_) | (with_reducible refine (H5.out _).mono ?_)); rintro e w1 ⟨rfl, b1⟩; (first | replace hB := below_next hB b1 | replace hB := below_next hB.drew b1); clear b1))
    all_goals
      go_wp2
      go_ret
      exact ⟨rfl, hB⟩
  · have hc : v < 0 ∨ 4294967296 ≤ v ∨ (0 ≤ v ∧ v < 4294967296 ∧ n < 4) ∨ (0 ≤ v ∧ v < 4294967296 ∧ 7 < n) := by omega
    clear hin
    rcases hc with h | h | ⟨h1, h2, h⟩ | ⟨h1, h2, h⟩
    all_goals
      go_enter Try.func5, Try.ntmps5
      go_wp2_with (go_at_call 8; refine (HA.out _).mono ?_; rintro e w1 ⟨rfl, b1⟩; replace hB := below_next hB b1; clear b1)
      all_goals
        go_ret
        exact ⟨rfl, hB⟩
end Go.Proofs.Ytcobncjdnljhdaa
