/- LoopCuts: a log is cut to greater epochs alone; what is there stays till it is. -/
import Derived.Test.YtjfccpajcdpahaaDoorLoopAlive
namespace Go.Proofs.YtjfccpajcdpahaaDoor
open Go.RowKit Sec
open Go.Proofs.YtjfccpajcdpahaaDoor.Bk

set_option maxRecDepth 100000 in
set_option maxHeartbeats 4000000 in
theorem Cuts_walk (x y : Int) (a : Option Addr) (c : List Chg) (cap : Nat) (W : World) (ht : TyOk W.heap.size W) (hL : LiesAt W a (flat Chg.cells c)) :
    Calls Tryd.prog 6 #[.int .i64 x, .int .i64 y, .slice a c.length cap] W fun e w' => e = .returned (.bool true) ∧ Below W.heap.size W w' := by
  have HT := Lib.hid ht
  clear ht
  by_cases hin : x < 0 ∨ 900000000 ≤ x ∨ y < 0 ∨ 1099511627776 < y ∨ 10 < c.length
  · have HA := Lib.hid (lalive_is W HT.out)
    clear hL
    rcases hin with h | h | h | h | h
    all_goals
      go_enter Tryd.func6, Tryd.ntmps6
      go_wp2_with (go_at_call 7; refine HA.out.mono ?_; rintro e w1 ⟨rfl, hb1⟩)
    all_goals
      go_ret
      exact ⟨rfl, hb1⟩
  · have h1 : 0 ≤ x := by omega
    have h2 : x < 900000000 := by omega
    have h3 : 0 ≤ y := by omega
    have h4 : y ≤ 1099511627776 := by omega
    have h5 : (c.length : Int) ≤ 10 := by omega
    have HL := Lib.hid hL
    clear hL hin
    go_enter Tryd.func6, Tryd.ntmps6
    go_wp2_with (first
      | (go_at_call 7; refine (lalive_is _ HT.out).mono ?_; rintro e w1 ⟨rfl, hb1⟩)
      | (go_at_call 8; refine (New_k 20 _ (HT.out.below hb1) hb1.size).mono ?_; rintro e w2 ⟨p, rfl, hA, hb2, _⟩; have H2 : Hid (AtK W.heap.size (fun _ => False) w2 p (newD 20) ∧ Below W.heap.size W w2) := Lib.hid ⟨hA.mono (fun _ q => q.elim), hb1.trans (hb2.mono hb1.size)⟩; clear hA hb2)
      | (go_at_call 9
         refine (lg_new H2.out.1 0 20 5 x (by omega) (by omega) (by omega) (by omega) (by omega)).mono ?_
         rintro e w3 ⟨q, rfl, A3, b3⟩
         have H3 := Lib.hid (And.intro A3 (H2.out.2.trans (b3.mono H2.out.2.size)))
         clear A3 b3))
    go_at_call 12
    refine (lg_append H3.out.1 (lim0 (by omega) (by omega) (by omega) (by omega) (by omega) (by omega)) a c cap (HL.out.below H3.out.2) (by omega)).mono ?_
    rintro e w4 ⟨z, nx, all, rfl, A4, b4, g4, hx⟩
    have H4 := Lib.hid (And.intro A4 (H3.out.2.trans b4))
    clear A4 b4 g4
    rcases hx with ⟨rfl, rfl, h3, _, hr⟩ | ⟨hz, rfl, h3, _⟩
    · rw [h3] at H4
      clear h3
      have LM : Lim 0 20 5 x (0 + c.length + 2) := lim0 (by omega) (by omega) (by omega) (by omega) (by omega) (by omega)
      have HM := Lib.hid LM
      clear LM
      by_cases hy : y ≤ x ∨ 1000000000 ≤ y
      · have HC : Hid (∀ u, Lg W.heap.size (fun _ => False) u q p 0 20 5 (5 + c.length + 1) x ([] ++ c) (0 + c.length + 2) → Calls Tryd.prog 11 #[.pointer (some ⟨q, 0, none⟩), .int .i64 y] u fun e w' => e = .returned (.int .i64 1) ∧ w' = u) := Lib.hid (fun u hu => lg_cut_no hu y hy)
        rcases hy with hy | hy
        all_goals
          go_wp2_with (first
            | (go_at_call 16; refine (lg_room (by first | exact H6.out.1 | exact H4.out.1) HM.out).mono ?_; rintro e w5 ⟨rfl, b5⟩; have H6 := Lib.hid (And.intro (Lg.below (by first | exact H6.out.1 | exact H4.out.1) b5) (Below.trans (by first | exact H6.out.2 | exact H4.out.2) (b5.mono (Below.size (by first | exact H6.out.2 | exact H4.out.2))))); clear b5)
            | (go_at_call 11; refine (HC.out _ H6.out.1).mono ?_; rintro e w6 ⟨rfl, rfl⟩)
            | (go_at_call 13; refine (lg_head H6.out.1).mono ?_; rintro e w7 ⟨rfl, rfl⟩))
        all_goals
          go_ret
          exact ⟨rfl, H6.out.2⟩
      · have hy1 : ¬ y ≤ x := by omega
        have hy2 : ¬ 1000000000 ≤ y := by omega
        have hci : ((5 + c.length + 1 : Nat) : Int) = 6 + (c.length : Int) := by omega
        have HN := Lib.hid hci
        have LM : Lim 0 20 (5 + c.length + 1) y (0 + c.length + 2) := lim0 (by omega) (by omega) (by omega) (by omega) (by omega) (by omega)
        have HM' := Lib.hid LM
        clear LM hy hci
        go_wp2_with (go_at_call 16; refine (lg_room H4.out.1 HM.out).mono ?_; rintro e w5 ⟨rfl, b5⟩; have H5 := Lib.hid (And.intro (H4.out.1.below b5) (H4.out.2.trans (b5.mono H4.out.2.size))); clear b5)
        go_at_call 11
        refine (lg_cut H5.out.1 y (by omega) (by omega)).mono ?_
        rintro e w6 ⟨rfl, A6, b6, _⟩
        have H6 := Lib.hid (And.intro A6 (H5.out.2.trans b6))
        clear A6 b6
        have HNx : Hid (∀ u, Lg W.heap.size (fun _ => False) u q p 0 20 (5 + c.length + 1) (5 + c.length + 1) y [] (0 + c.length + 2) → Calls Tryd.prog 14 #[.pointer (some ⟨q, 0, none⟩)] u fun e w' => e = .returned (.int .i64 (6 + (c.length : Int))) ∧ w' = u) := Lib.hid (fun u hu => by have := lg_next hu; rwa [HN.out] at this)
        have HHd : Hid (∀ u, Lg W.heap.size (fun _ => False) u q p 0 20 (5 + c.length + 1) (5 + c.length + 1) y [] (0 + c.length + 2) → Calls Tryd.prog 13 #[.pointer (some ⟨q, 0, none⟩)] u fun e w' => e = .returned (.int .i64 (6 + (c.length : Int))) ∧ w' = u) := Lib.hid (fun u hu => by have := lg_head hu; rwa [HN.out] at this)
        go_wp2_with (first
          | (go_at_call 16; refine (lg_room H6.out.1 HM'.out).mono ?_; rintro e w7 ⟨rfl, b7⟩; have H7 := Lib.hid (And.intro (H6.out.1.below b7) (H6.out.2.trans (b7.mono H6.out.2.size))); clear b7)
          | (go_at_call 13; refine (HHd.out _ H7.out.1).mono ?_; rintro e w8 ⟨rfl, rfl⟩)
          | (go_at_call 14; refine (HNx.out _ H7.out.1).mono ?_; rintro e w9 ⟨rfl, rfl⟩))
        go_ret
        exact ⟨rfl, H7.out.2⟩
    · have hzb : (z == 0) = false := by simpa using hz
      have hzb2 : (z != 0) = true := by simpa using hz
      go_wp2
      go_ret
      exact ⟨rfl, H4.out.2⟩
end Go.Proofs.YtjfccpajcdpahaaDoor
