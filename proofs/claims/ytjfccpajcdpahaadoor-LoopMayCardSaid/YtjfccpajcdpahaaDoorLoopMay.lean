/- LoopMay: where a log may lie, and where not. -/
import Derived.Test.YtjfccpajcdpahaaDoorLoopAlive
namespace Go.Proofs.YtjfccpajcdpahaaDoor
open Go.RowKit Sec
open Go.Proofs.YtjfccpajcdpahaaDoor.Bk

theorem dnone_nil (w : World) : Calls Tryd.prog 23 #[.pointer none] w fun e w' => e = .returned (.bool true) ∧ w' = w := by
  go_enter Tryd.func23, Tryd.ntmps23
  go_wp2
  go_ret
  exact ⟨rfl, rfl⟩
theorem len_nil (w : World) : Calls Tryd.prog 17 #[.pointer none] w fun e w' => e = .returned (.int .i64 0) ∧ w' = w := by
  go_enter Tryd.func17, Tryd.ntmps17
  go_wp2_with (go_at_call 23; refine (dnone_nil _).mono ?_; rintro e w' ⟨rfl, rfl⟩)
  go_ret
  exact ⟨rfl, rfl⟩
theorem lnew_nil (w : World) : Calls Tryd.prog 9 #[.pointer none, .int .i64 0, .int .i64 4, .int .i64 0, .int .i64 0, .int .i64 1] w fun e w' => e = .returned (.pointer none) ∧ w' = w := by
  go_enter Tryd.func9, Tryd.ntmps9
  go_wp2_with (go_at_call 17; refine (len_nil _).mono ?_; rintro e w' ⟨rfl, rfl⟩)
  go_ret
  exact ⟨rfl, rfl⟩
theorem newD_len (m : Nat) : (newD m).lasts.length = m := by simp [newD]
/-- Scan of a new disk. -/
theorem scan_newD {B : Nat} {G : Nat → Prop} {w : World} {p m : Nat} (h : AtK B G w p (newD m)) (fr n hd ep : Int) (hn : n ≤ 1000) (hok : logOk m fr n hd hd ep = true) :
    Calls Tryd.prog 10 #[.pointer (some ⟨p, 0, none⟩), .int .i64 fr, .int .i64 n, .int .i64 hd, .int .i64 ep] w fun e w' => ∃ a c, e = .returned (.tuple #[.slice a 0 c, .int .i64 hd, .int .i64 0]) ∧ Below w.heap.size w w' := by
  obtain ⟨k1, k2, k3, k4, k5, k6, k7, k8, k9⟩ := logOk_of hok
  obtain ⟨fr, rfl⟩ := Int.eq_ofNat_of_zero_le k2
  obtain ⟨n, rfl⟩ := Int.eq_ofNat_of_zero_le (show 0 ≤ n by omega)
  obtain ⟨hd, rfl⟩ := Int.eq_ofNat_of_zero_le k4
  have hL : LogIs (newD m) fr n hd hd ep [] := logIs_new _ _ _ _ _ rfl (by omega) (by simp [newD]; omega) (fun b hb' => by
    have : b = zero32 := by
      have := hb'
      simp only [newD, List.mem_replicate] at this
      exact this.2
    rw [this]
    exact zero_no)
  have hs := hL.scan
  rw [Nat.sub_self] at hs
  refine (scan_is h rfl fr n hd ep (by rw [newD_len]; exact hok) n rfl (by omega) [] 0 hs).mono fun e w' ⟨v, he, hb, ho⟩ => ?_
  obtain ⟨a, c, rfl, _⟩ := own_formK ho
  refine ⟨a, c, ?_, hb⟩
  rw [he, show wrap64 ((hd : Int) + ((0 : Nat) : Int)) = (hd : Int) by unfold wrap64; omega]
  rfl

set_option maxRecDepth 100000 in
set_option maxHeartbeats 20000000 in
theorem May_walk (n fr k hd nx ep : Int) (W : World) (ht : TyOk W.heap.size W) (b0 : n ≥ -9223372036854775808) (b1 : -9223372036854775808 ≤ fr ∧ fr ≤ 9223372036854775807) (b2 : -9223372036854775808 ≤ k ∧ k ≤ 9223372036854775807) (b3 : -9223372036854775808 ≤ hd ∧ hd ≤ 9223372036854775807) (b4 : -9223372036854775808 ≤ nx ∧ nx ≤ 9223372036854775807) :
    Calls Tryd.prog 3 #[.int .i64 n, .int .i64 fr, .int .i64 k, .int .i64 hd, .int .i64 nx, .int .i64 ep] W fun e w' => e = .returned (.bool true) ∧ Below W.heap.size W w' := by
  have HT := Lib.hid ht
  clear ht
  by_cases hn : 100 < n
  · go_enter Tryd.func3, Tryd.ntmps3
    go_wp2_with (go_at_call 7; refine (lalive_is _ HT.out).mono ?_; rintro e w1 ⟨rfl, hb1⟩)
    go_ret
    exact ⟨rfl, hb1⟩
  · obtain ⟨m, hm0, hm⟩ : ∃ m : Nat, (min (max n 0) 3000).toNat = m ∧ (m : Int) = max n 0 := ⟨_, rfl, by omega⟩
    have HD : Hid (∀ u : World, Below W.heap.size W u → Calls Tryd.prog 8 #[.int .i64 n] u fun e w' => ∃ p, e = .returned (.pointer (some ⟨p, 0, none⟩)) ∧ AtK W.heap.size (fun _ => False) w' p (newD m) ∧ Below W.heap.size W w') := Lib.hid (fun u hu => (New_k n u (HT.out.below hu) hu.size).mono fun e w' ⟨p, he, hA, hb, _⟩ => ⟨p, he, by rw [hm0] at hA; exact hA.mono (fun _ q => q.elim), hu.trans (hb.mono hu.size)⟩)
    clear hm0
    go_enter Tryd.func3, Tryd.ntmps3
    go_wp2_with (first
      | (go_at_call 7; refine (lalive_is _ HT.out).mono ?_; rintro e w1 ⟨rfl, hb1⟩)
      | (go_at_call 8; refine (HD.out _ hb1).mono ?_; rintro e w2 ⟨p, rfl, hA, hb2⟩; have H2 := Lib.hid (And.intro hA hb2); clear hA hb2))
    all_goals first
      | (have HN : Hid (logOk ((newD m).lasts.length : Int) fr k hd nx ep = false) := Lib.hid (by rw [newD_len]; exact decide_eq_false (by omega))
         have HS : Hid (logOk ((newD m).lasts.length : Int) fr k hd hd ep = false) := Lib.hid (by rw [newD_len]; exact decide_eq_false (by omega))
         go_wp2_with (first
          | (go_at_call 9; first | (with_reducible refine (lnew_nil _).mono ?_; rintro e w5 ⟨rfl, rfl⟩) | (refine (lnew_no H2.out.1 fr k hd nx ep (by omega) (by omega) HN.out).mono ?_; rintro e w3 ⟨rfl, rfl⟩; have H3 := Lib.hid (And.intro H2.out.1 H2.out.2)))
          | (go_at_call 10; refine (scan_no H3.out.1 fr k hd ep (by omega) (by omega) HS.out).mono ?_; rintro e w4 ⟨rfl, rfl⟩; have H4 := Lib.hid H3.out.2))
         go_ret
         exact ⟨rfl, H4.out⟩)
      | (by_cases hh : hd < 1000000000 <;> by_cases hx : nx < 1000000000)
    all_goals first
      | (exfalso; omega)
      | (have HN : Hid (logOk ((newD m).lasts.length : Int) fr k hd nx ep = false) := Lib.hid (by rw [newD_len]; exact decide_eq_false (by omega))
         have HS : Hid (logOk ((newD m).lasts.length : Int) fr k hd hd ep = false) := Lib.hid (by rw [newD_len]; exact decide_eq_false (by omega))
         go_wp2_with (first
          | (go_at_call 9; first | (with_reducible refine (lnew_nil _).mono ?_; rintro e w5 ⟨rfl, rfl⟩) | (refine (lnew_no H2.out.1 fr k hd nx ep (by omega) (by omega) HN.out).mono ?_; rintro e w3 ⟨rfl, rfl⟩; have H3 := Lib.hid (And.intro H2.out.1 H2.out.2)))
          | (go_at_call 10; refine (scan_no H3.out.1 fr k hd ep (by omega) (by omega) HS.out).mono ?_; rintro e w4 ⟨rfl, rfl⟩; have H4 := Lib.hid H3.out.2))
         go_ret
         exact ⟨rfl, H4.out⟩)
      | (have HN : Hid (logOk ((newD m).lasts.length : Int) fr k hd nx ep = false) := Lib.hid (by rw [newD_len]; exact decide_eq_false (by omega))
         have HS : Hid (logOk (m : Int) fr k hd hd ep = true) := Lib.hid (decide_eq_true (by omega))
         go_wp2_with (first
          | (go_at_call 9; first | (with_reducible refine (lnew_nil _).mono ?_; rintro e w5 ⟨rfl, rfl⟩) | (refine (lnew_no H2.out.1 fr k hd nx ep (by omega) (by omega) HN.out).mono ?_; rintro e w3 ⟨rfl, rfl⟩; have H3 := Lib.hid (And.intro H2.out.1 H2.out.2)))
          | (go_at_call 10; refine (scan_newD H3.out.1 fr k hd ep (by omega) HS.out).mono ?_; rintro e w4 ⟨a4, c4, rfl, b4⟩; have H4 := Lib.hid (H3.out.2.trans (b4.mono H3.out.2.size))))
         go_ret
         exact ⟨rfl, H4.out⟩)
      | (have HN : Hid (logOk ((newD m).lasts.length : Int) fr k hd nx ep = true) := Lib.hid (by rw [newD_len]; exact decide_eq_true (by omega))
         have HS : Hid (logOk (m : Int) fr k hd hd ep = true) := Lib.hid (decide_eq_true (by omega))
         go_wp2_with (first
          | (go_at_call 9; first | (with_reducible refine (lnew_nil _).mono ?_; rintro e w5 ⟨rfl, rfl⟩) | (refine (lnew_yes H2.out.1 fr k hd nx ep HN.out).mono ?_; rintro e w3 ⟨q, rfl, A3, c3⟩; have H3 := Lib.hid (And.intro (H2.out.1.below c3) (H2.out.2.trans (c3.mono H2.out.2.size))); clear A3 c3))
          | (go_at_call 10; refine (scan_newD H3.out.1 fr k hd ep (by omega) HS.out).mono ?_; rintro e w4 ⟨a4, c4, rfl, b4⟩; have H4 := Lib.hid (H3.out.2.trans (b4.mono H3.out.2.size))))
         go_ret
         exact ⟨rfl, H4.out⟩)
end Go.Proofs.YtjfccpajcdpahaaDoor
