/- The book: SameTexts: two lists are held against each other. -/
import Derived.Test.YtgmjphekfhiapaaBookSameI
namespace Go.Proofs.Ytgmjphekfhiapaa.Bk
open Go.RowKit

set_option maxHeartbeats 400000 in
theorem SameTexts_is (l1 l2 : List ByteArray) (a1 a2 : Option Addr) (c1 c2 : Nat) (w : World) (h1 : LiesAt w a1 (txts l1)) (h2 : LiesAt w a2 (txts l2)) (m1 : l1.length ≤ maxLen) (m2 : l2.length ≤ maxLen) (t : Bool) (ht : t = true ↔ l1 = l2) :
    Calls Try.prog 10 #[.slice a1 l1.length c1, .slice a2 l2.length c2] w fun e w' => e = .returned (.bool t) ∧ ∃ m, w' = w.drewN m := by
  unfold maxLen at m1 m2
  have H := Lib.hid (And.intro h1 h2)
  have HT := Lib.hid ht
  clear h1 h2 ht
  by_cases hl : l1.length = l2.length
  · have hle : (l1.length : Int) = (l2.length : Int) := by omega
    have HL := Lib.hid hl
    clear hl
    go_enter Try.func10, Try.ntmps10
    go_wp2
    have HLE := Lib.hid hle
    clear hle
    go_loopw [5] (fun i wr => ∃ (k m : Nat), k ≤ l1.length ∧ i = .int .i64 (k : Int) ∧ wr = w.drewN m ∧ Hid (l1.take k = l2.take k)) (fun i _ => l1.length - (intOf i).toNat)
    case atStart => exact ⟨0, 0, Nat.zero_le _, rfl, rfl, Lib.hid rfl⟩
    case round =>
      obtain ⟨k, m, hk, rfl, rfl, hp⟩ := hrel
      by_cases hlt : k < l1.length
      · have hlt2 : k < l2.length := by have := HL.out; omega
        obtain ⟨b1, rfl, _, e1⟩ := H.out.1.at_ (k := k) (v := Value.string l1[k]) (by simp [txts, hlt])
        obtain ⟨b2, rfl, _, e2⟩ := H.out.2.at_ (k := k) (v := Value.string l2[k]) (by simp [txts, hlt2])
        have hi1 : (k : Int) < (l1.length : Int) := by omega
        have hi2 : (k : Int) < (l2.length : Int) := by omega
        by_cases hxy : l1[k] = l2[k]
        · have HN := Lib.hid (take_next hp.out hlt hlt2 hxy)
          rw [← hxy] at e2
          clear hxy
          generalize l1[k] = x at *
          go_wp2_with fail
          go_quiet (fail)
          go_wp2
          exact ⟨⟨k + 1, m + nq, by omega, by go_num, rfl, HN⟩, by simp [intOf]; omega⟩
        · have hf : t = false := by
            cases t
            · rfl
            · have := HT.out.1 rfl
              subst this
              exact absurd rfl hxy
          have hne := ne_str hxy
          subst hf
          clear hxy
          generalize l1[k] = x at *
          generalize l2[k] = y at *
          go_wp2_with fail
          go_quiet (fail)
          go_wp2
          go_ret
          exact ⟨rfl, drewN_add w m nq⟩
      · obtain rfl : k = l1.length := by omega
        have hf : t = true := HT.out.2 (by
          have := hp.out
          rwa [List.take_of_length_le (Nat.le_refl _), List.take_of_length_le (by rw [HL.out]; exact Nat.le_refl _)] at this)
        subst hf
        have hn : ¬ (l1.length : Int) < (l1.length : Int) := by omega
        clear hlt hk
        go_wp2
        go_ret
        exact ⟨rfl, m, rfl⟩
  · have hf : t = false := by
      cases t
      · rfl
      · exact absurd (congrArg List.length (HT.out.1 rfl)) hl
    subst hf
    have hne : ((l1.length : Int) == (l2.length : Int)) = false := by simp; omega
    have hne2 : ((l1.length : Int) != (l2.length : Int)) = true := by simp; omega
    go_enter Try.func10, Try.ntmps10
    go_wp2
    all_goals
      go_ret
      exact ⟨rfl, 0, rfl⟩
end Go.Proofs.Ytgmjphekfhiapaa.Bk
