/- SealTwo's walk. -/
import Derived.Test.YtcobncjdnljhdaaSealTells
namespace Go.Proofs.Ytcobncjdnljhdaa
open Go.RowKit

theorem str_inj {a b : ByteArray} : a.toList = b.toList ↔ a = b := by
  rw [ByteArray.toList_eq, ByteArray.toList_eq]
  exact ⟨ba_ext, fun h => by rw [h]⟩
theorem str_beq {a b c d : ByteArray} (h : a = b ↔ c = d) : (a.toList == b.toList) = (c.toList == d.toList) := by
  rw [Bool.eq_iff_iff, beq_iff_eq, beq_iff_eq, str_inj, str_inj]
  exact h
theorem str_beq_int {a b : ByteArray} {n m : Int} (h : a = b ↔ n = m) : (a.toList == b.toList) = (n == m) := by
  rw [Bool.eq_iff_iff, beq_iff_eq, beq_iff_eq, str_inj]
  exact h
theorem beq_of_iff {a b : Prop} [Decidable a] [Decidable b] (h : a ↔ b) : (decide a == decide b) = true := by
  by_cases ha : a
  · have hb := h.1 ha; simp [ha, hb]
  · have hb : ¬ b := fun q => ha (h.2 q); simp [ha, hb]
set_option maxRecDepth 100000 in
set_option maxHeartbeats 1000000 in
theorem Two_walk (a b : ByteArray) (n m : Int) (ha : a.size ≤ maxLen) (hb : b.size ≤ maxLen) (w : World) :
    Calls Try.prog 7 #[.string a, .string b, .int .i64 n, .int .i64 m] w fun e w' => e = .returned (.bool true) ∧ Below w.heap.size w w' := by
  have HA := Lib.hid alive_is
  unfold maxLen at ha hb
  have hB := Below.refl w.heap.size w
  by_cases hin : a.size = b.size ∧ a.size ≤ 100 ∧ (a.size : Int) + 4 ≤ n ∧ n ≤ 200 ∧ (a.size : Int) + 4 ≤ m ∧ m ≤ 200
  · obtain ⟨h0, h1, h2, h3, h4, h5⟩ := hin
    obtain ⟨N, rfl⟩ := Int.eq_ofNat_of_zero_le (show 0 ≤ n by omega)
    obtain ⟨M, rfl⟩ := Int.eq_ofNat_of_zero_le (show 0 ≤ m by omega)
    have HM := Lib.hid (show a.size ≤ maxLen by unfold maxLen; omega)
    have HN := Lib.hid (show b.size ≤ maxLen by unfold maxLen; omega)
    have e1 : sealS a N = sealB a N := if_pos ⟨by omega, by omega, by omega⟩
    have e2 : sealS b N = sealB b N := if_pos ⟨by omega, by omega, by omega⟩
    have e3 : sealS a M = sealB a M := if_pos ⟨by omega, by omega, by omega⟩
    have H1 := Lib.hid (fun w => Seal_is a N HM.out w)
    have H2 := Lib.hid (fun w => Seal_is b N HN.out w)
    have H3 := Lib.hid (fun w => Seal_is a M HM.out w)
    rw [e1] at H1
    rw [e2] at H2
    rw [e3] at H3
    clear e1 e2 e3
    have s1 := sealB_size a N (by omega) (by omega)
    have s3 := sealB_size a M (by omega) (by omega)
    have HX := Lib.hid (show sealB a N = sealB b N ↔ a = b from sealB_two a b N h0)
    have HY := Lib.hid (show sealB a N = sealB a M ↔ (N : Int) = (M : Int) from ⟨fun e => by
      have := congrArg ByteArray.size e
      omega, fun e => by
      have : N = M := by omega
      rw [this]⟩)
    have HE := Lib.hid h0
    have hq : (a.size : Int) = (b.size : Int) := by omega
    clear s1 s3 h0
    have q1 := str_beq HX.out
    have q2 := str_beq_int HY.out
    generalize sealB a N = x at *
    generalize sealB b N = y at *
    generalize sealB a M = z at *
    go_enter Try.func7, Try.ntmps7
    go_wp2_with (first
      | (go_at_call 8; refine (HA.out _).mono ?_; rintro e w1 ⟨rfl, b1⟩; replace hB := below_next hB b1; clear b1)
      | (go_at_call 11; (first | (with_reducible refine (H1.out _).mono ?_) | (with_reducible refine (H2.out _).mono ?_) | (with_reducible refine (H3.out _).mono ?_)); rintro e w1 ⟨rfl, b1⟩; replace hB := below_next hB b1; clear b1))
    all_goals
      go_ret
      exact ⟨rfl, hB⟩
  · have hc : (a.size : Int) ≠ (b.size : Int) ∨ ((a.size : Int) = (b.size : Int) ∧ 100 < (a.size : Int)) ∨ ((a.size : Int) = (b.size : Int) ∧ (a.size : Int) ≤ 100 ∧ n < (a.size : Int) + 4) ∨ ((a.size : Int) = (b.size : Int) ∧ (a.size : Int) ≤ 100 ∧ (a.size : Int) + 4 ≤ n ∧ 200 < n) ∨
        ((a.size : Int) = (b.size : Int) ∧ (a.size : Int) ≤ 100 ∧ (a.size : Int) + 4 ≤ n ∧ n ≤ 200 ∧ m < (a.size : Int) + 4) ∨ ((a.size : Int) = (b.size : Int) ∧ (a.size : Int) ≤ 100 ∧ (a.size : Int) + 4 ≤ n ∧ n ≤ 200 ∧ (a.size : Int) + 4 ≤ m ∧ 200 < m) := by omega
    clear hin
    rcases hc with h0 | ⟨h0, h1⟩ | ⟨h0, h1, h2⟩ | ⟨h0, h1, h2, h3⟩ | ⟨h0, h1, h2, h3, h4⟩ | ⟨h0, h1, h2, h3, h4, h5⟩
    all_goals
      go_enter Try.func7, Try.ntmps7
      go_wp2_with (go_at_call 8; refine (HA.out _).mono ?_; rintro e w1 ⟨rfl, b1⟩; replace hB := below_next hB b1; clear b1)
      all_goals
        go_ret
        exact ⟨rfl, hB⟩
end Go.Proofs.Ytcobncjdnljhdaa
