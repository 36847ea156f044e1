/- SealBack's walk. -/
import Derived.Test.YtcobncjdnljhdaaSealTwo
namespace Go.Proofs.Ytcobncjdnljhdaa
open Go.RowKit

set_option maxRecDepth 100000 in
set_option maxHeartbeats 1000000 in
theorem Back_walk (b : ByteArray) (n : Int) (hb : b.size ≤ maxLen) (w : World) :
    Calls Try.prog 6 #[.string b, .int .i64 n] w fun e w' => e = .returned (.bool true) ∧ Below w.heap.size w w' := by
  have HA := Lib.hid alive_is
  have HM := Lib.hid hb
  unfold maxLen at hb
  have hB := Below.refl w.heap.size w
  by_cases hin : b.size ≤ 300 ∧ -10 ≤ n ∧ n ≤ 300
  · obtain ⟨h0, h1, h2⟩ := hin
    by_cases hok : 4 ≤ n ∧ n ≤ 200 ∧ (b.size : Int) ≤ n - 4
    · obtain ⟨h3, h4, h5⟩ := hok
      obtain ⟨N, rfl⟩ := Int.eq_ofNat_of_zero_le (show 0 ≤ n by omega)
      have e1 : sealS b N = sealB b N := if_pos ⟨by omega, by omega, by omega⟩
      have H1 := Lib.hid (fun w => Seal_is b N HM.out w)
      rw [e1] at H1
      clear e1
      have s1 := sealB_size b N (by omega) (by omega)
      obtain ⟨o1, o2⟩ := sealB_opens b N
      have H2 := Lib.hid (fun w => Open_is (sealB b N) (by omega) w)
      rw [o1, o2] at H2
      have t1 := sealBody_size b N (by omega)
      have t2 := sealBody_head b N
      have HZ := Lib.hid (fun i h hi => sealBody_zero b N i h hi)
      clear o1 o2
      generalize sealB b N = s at *
      generalize sealBody b N = t at *
      have HT := Lib.hid (show t.size = N - 4 ∧ b.size ≤ t.size ∧ t.size ≤ 200 by omega)
      have ht : (t.size : Int) = (N : Int) - 4 := by omega
      have hs : (s.size : Int) = (N : Int) := by omega
      clear t1 s1
      go_enter Try.func6, Try.ntmps6
      go_wp2_with (first
        | (go_at_call 8; refine (HA.out _).mono ?_; rintro e w1 ⟨rfl, b1⟩; replace hB := below_next hB b1; clear b1)
        | (go_at_call 11; refine (H1.out _).mono ?_; rintro e w1 ⟨rfl, b1⟩; replace hB := below_next hB b1; clear b1)
        | (go_at_call 9; refine (H2.out _).mono ?_; rintro e w1 ⟨rfl, b1⟩; replace hB := below_next hB b1; clear b1))
      clear ht hs t2 h3 h4 h5 h1 h2
      go_loop [8] (fun i => ∃ k : Nat, b.size ≤ k ∧ k ≤ t.size ∧ i = .int .i64 (k : Int)) (fun i => t.size - (intOf i).toNat)
      case atStart => exact ⟨b.size, Nat.le_refl _, by have := HT.out.2; omega, rfl⟩
      case round =>
        obtain ⟨k, hk0, hk1, rfl⟩ := hrel
        by_cases hlt : k < t.size
        · have hz : (t[k].toNat : Int) = 0 := by rw [HZ.out k hk0 hlt]; rfl
          have HT2 := Lib.hid (show t.size ≤ 200 by have := HT.out.2; omega)
          have ht2 := HT2.out
          have hlt' : (k : Int) < (t.size : Int) := by omega
          go_wp2
          exact ⟨⟨k + 1, by omega, by omega, by go_num⟩, by simp [intOf]; omega⟩
        · have hk2 : k = t.size := by omega
          have hlt' : ¬ (k : Int) < (t.size : Int) := by omega
          have hle : (t.size : Int) ≤ (k : Int) := by omega
          clear hk2
          go_wp2
          go_ret
          exact ⟨rfl, hB⟩
    · have H1 := Lib.hid (fun w => Seal_is b n HM.out w)
      rw [show sealS b n = ByteArray.empty from if_neg hok] at H1
      have hc : n < 4 ∨ 200 < n ∨ (4 ≤ n ∧ n ≤ 200 ∧ n - 4 < (b.size : Int)) := by omega
      clear hok
      rcases hc with h | h | ⟨h3, h4, h⟩
      all_goals
        go_enter Try.func6, Try.ntmps6
        go_wp2_with (first
          | (go_at_call 8; refine (HA.out _).mono ?_; rintro e w1 ⟨rfl, b1⟩; replace hB := below_next hB b1; clear b1)
          | (go_at_call 11; refine (H1.out _).mono ?_; rintro e w1 ⟨rfl, b1⟩; replace hB := below_next hB b1; clear b1))
        all_goals
          go_ret
          exact ⟨rfl, hB⟩
  · have hc : 300 < b.size ∨ (b.size ≤ 300 ∧ n < -10) ∨ (b.size ≤ 300 ∧ -10 ≤ n ∧ 300 < n) := by omega
    clear hin
    rcases hc with h | ⟨h, h1⟩ | ⟨h, h1, h2⟩
    all_goals
      go_enter Try.func6, Try.ntmps6
      go_wp2_with (go_at_call 8; refine (HA.out _).mono ?_; rintro e w1 ⟨rfl, b1⟩; replace hB := below_next hB b1; clear b1)
      all_goals
        go_ret
        exact ⟨rfl, hB⟩
end Go.Proofs.Ytcobncjdnljhdaa
