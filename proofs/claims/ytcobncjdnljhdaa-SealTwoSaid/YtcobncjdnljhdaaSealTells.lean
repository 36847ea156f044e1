/- SealTells, SealTwo, SealNumbers: the walks. -/
import Derived.Test.YtcobncjdnljhdaaSealAlive
namespace Go.Proofs.Ytcobncjdnljhdaa
open Go.RowKit

theorem sealS_small (b : ByteArray) (n : Int) : (sealS b n).size ≤ 200 := by
  by_cases h : 4 ≤ n ∧ n ≤ 200 ∧ (b.size : Int) ≤ n - 4
  · rw [show sealS b n = sealB b n.toNat from if_pos h, sealB_size b n.toNat (by omega) (by omega)]; omega
  · rw [show sealS b n = ByteArray.empty from if_neg h]; exact Nat.zero_le _

set_option maxRecDepth 100000 in
set_option maxHeartbeats 400000 in
theorem Tells_walk (b c : ByteArray) (v n : Int) (hb : b.size ≤ maxLen) (hc : c.size ≤ maxLen) (w : World) :
    Calls Try.prog 3 #[.string b, .string c, .int .i64 v, .int .i64 n] w fun e w' => e = .returned (.bool true) ∧ Below w.heap.size w w' := by
  have HA := Lib.hid alive_is
  unfold maxLen at hb hc
  have hB := Below.refl w.heap.size w
  by_cases h1 : 1000 < b.size
  · go_enter Try.func3, Try.ntmps3
    go_wp2_with (go_at_call 8; refine (HA.out _).mono ?_; rintro e w1 ⟨rfl, b1⟩; replace hB := below_next hB b1; clear b1)
    all_goals
      go_ret
      exact ⟨rfl, hB⟩
  by_cases h2 : 1000 < c.size
  · go_enter Try.func3, Try.ntmps3
    go_wp2_with (go_at_call 8; refine (HA.out _).mono ?_; rintro e w1 ⟨rfl, b1⟩; replace hB := below_next hB b1; clear b1)
    all_goals
      go_ret
      exact ⟨rfl, hB⟩
  have h1' : b.size ≤ 1000 := by omega
  have h2' : c.size ≤ 1000 := by omega
  clear h1 h2 hb hc
  have HM := Lib.hid (show b.size ≤ maxLen by unfold maxLen; omega)
  have HC := Lib.hid (show c.size ≤ 281474976710656 by omega)
  have HS := Lib.hid (show (sealS b n).size ≤ 281474976710656 by have := sealS_small b n; omega)
  have H1 := Lib.hid (fun w => Open_is c HC.out w)
  have H2 := Lib.hid (fun w => rOpen_is c HC.out w)
  have H3 := Lib.hid (fun w => Seal_is b n HM.out w)
  have H4 := Lib.hid (fun w => rSeal_is b n HM.out w)
  have H5 := Lib.hid (fun w => Open_is (sealS b n) HS.out w)
  have H6 := Lib.hid (fun w => rOpen_is (sealS b n) HS.out w)
  have H7 := Lib.hid (fun w => Sum_is b w HM.out)
  have H8 := Lib.hid (fun w => rSum_is b w HM.out)
  have H9 := Lib.hid (fun w => Put_is v n w)
  have H10 := Lib.hid (fun w => rPut_is v n w)
  have H11 := Lib.hid (fun w => Get_is b HM.out w)
  have H12 := Lib.hid (fun w => rGet_is b HM.out w)
  generalize opens (sealS b n) = o1 at *
  generalize openS (sealS b n) = o2 at *
  generalize opens c = o3 at *
  generalize openS c = o4 at *
  generalize sealS b n = s at *
  generalize sumI b.data.toList = x1 at *
  generalize putS v n = x2 at *
  generalize getI b = x3 at *
  go_enter Try.func3, Try.ntmps3
  go_wp2_with (first
    | (go_at_call 8; refine (HA.out _).mono ?_; rintro e w1 ⟨rfl, b1⟩; replace hB := below_next hB b1; clear b1)
    | (go_at_call 9; (first | (with_reducible refine (H1.out _).mono ?_) | (with_reducible refine (H5.out _).mono ?_)); rintro e w1 ⟨rfl, b1⟩; replace hB := below_next hB b1; clear b1)
    | (go_at_call 10; (first | (with_reducible refine (H2.out _).mono ?_) | (with_reducible refine (H6.out _).mono ?_)); rintro e w1 ⟨rfl, b1⟩; replace hB := below_next hB b1; clear b1)
    | (go_at_call 11; refine (H3.out _).mono ?_; rintro e w1 ⟨rfl, b1⟩; replace hB := below_next hB b1; clear b1)
    | (go_at_call 18; refine (H4.out _).mono ?_; rintro e w1 ⟨rfl, b1⟩; replace hB := below_next hB b1; clear b1)
    | (go_at_call 12; refine (H7.out _).mono ?_; rintro e w1 ⟨rfl, rfl⟩)
    | (go_at_call 13; refine (H8.out _).mono ?_; rintro e w1 ⟨rfl, rfl⟩)
    | (go_at_call 14; refine (H9.out _).mono ?_; rintro e w1 ⟨rfl, b1⟩; replace hB := below_next hB b1; clear b1)
    | (go_at_call 15; refine (H10.out _).mono ?_; rintro e w1 ⟨rfl, b1⟩; replace hB := below_next hB b1; clear b1)
    | (go_at_call 16; refine (H11.out _).mono ?_; rintro e w1 ⟨rfl, rfl⟩)
    | (go_at_call 17; refine (H12.out _).mono ?_; rintro e w1 ⟨rfl, rfl⟩))
  go_ret
  exact ⟨rfl, hB⟩
end Go.Proofs.Ytcobncjdnljhdaa
