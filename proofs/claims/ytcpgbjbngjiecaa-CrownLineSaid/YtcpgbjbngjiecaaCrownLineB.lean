/- CrownLine's walk: the line itself. -/
import Derived.Test.YtcpgbjbngjiecaaCrownLineA
namespace Go.Proofs.Ytcpgbjbngjiecaa
open Go.RowKit

set_option maxRecDepth 100000 in
set_option maxHeartbeats 2000000 in
theorem Line_in (s : Sup) (n : Int) (hs : supOk s = true) (hn : 1 ≤ n) (hn1 : n ≤ 60) (hq : s.q ≤ 1000000) (w : World) :
    Calls Try.prog 3 #[s.val, .int .i64 n] w fun e w' => e = .returned (.bool true) ∧ Below w.heap.size w w' := by
  have HA := Lib.hid alive_is
  have H1 := Lib.hid (right_is s)
  rw [hs] at H1
  have HS := Lib.hid (And.intro hs hq)
  have hq0 : 0 ≤ s.q := (sup_of hs).1.1
  clear hs
  obtain ⟨q0, h0, e0, f0, g0⟩ := s
  simp only [Sup.val] at *
  have hB : Hid (Below w.heap.size w _) := Lib.hid ((Below.refl w.heap.size w).alloc (Nat.le_refl _) (.cells #[.int .i64 q0, .int .i64 h0, .int .i64 e0, .int .i64 f0, .int .i64 g0] 23))
  have R1 := Lib.hid (Row5.made w (.int .i64 q0) (.int .i64 h0) (.int .i64 e0) (.int .i64 f0) (.int .i64 g0) 23)
  go_enter Try.func3, Try.ntmps3
  go_wp2_with (first
      | (go_at_call 5
         with_reducible refine (H1.out _).mono ?_
         rintro e w1 ⟨rfl, b1⟩
         replace R1 := Lib.hid (R1.out.below b1)
         obtain ⟨_, c0, c1, c2, c3, c4, _, _, _, _, _⟩ := R1.out
         replace hB := Lib.hid (below_next hB.out b1)
         clear b1)
      | (go_at_call 6
         refine (HA.out _).mono ?_
         rintro e w1 ⟨rfl, b1⟩
         replace R1 := Lib.hid (R1.out.below b1)
         replace hB := Lib.hid (below_next hB.out b1)
         clear b1))
  have hPl := Pl2.made w1 ByteArray.empty ByteArray.empty 26
  have R1' := R1.out.alloc (.cells #[.string ByteArray.empty, .string ByteArray.empty] 26)
  have hB' := hB.out.alloc hB.out.size (.cells #[.string ByteArray.empty, .string ByteArray.empty] 26)
  have HPW := Lib.hid (show w.heap.size < w1.heap.size from R1.out.lt)
  generalize w1.heap.size = P at *
  have HI := Lib.hid (And.intro hPl (And.intro R1' hB'))
  clear hPl R1' hB' R1 hB c0 c1 c2 c3 c4
  go_loopw [6] (fun i wr => ∃ (k : Nat) (A B : ByteArray), (k : Int) ≤ n ∧ i = .int .i64 (k : Int) ∧ Fit ⟨q0, h0, e0, f0, g0⟩ k A ∧ Fit ⟨q0, h0, e0, f0, g0⟩ k B ∧ Row5 wr w.heap.size (.int .i64 q0) (.int .i64 h0) (.int .i64 e0) (.int .i64 f0) (.int .i64 g0) ∧ Pl2 wr P A B ∧ Below w.heap.size w wr) (fun i _ => (n - intOf i).toNat)
  case atStart => exact ⟨0, ByteArray.empty, ByteArray.empty, by omega, rfl, fit_empty _, fit_empty _, HI.out.2.1, HI.out.1, HI.out.2.2⟩
  case round =>
    clear HI
    obtain ⟨k, A, B, hk, rfl, hA, hB, hR, hPl, hW⟩ := hrel
    by_cases hlt : (k : Int) < n
    · have hk60 : k ≤ 60 := by omega
      have hk0 : (k : Int) ≤ 60 := by omega
      have ok := at_ok HS.out.1 HS.out.2 k hk60
      have HP := Lib.hid (cput_yes (Sup.at_ ⟨q0, h0, e0, f0, g0⟩ k) ok)
      have HL := Lib.hid (place_is (Sup.at_ ⟨q0, h0, e0, f0, g0⟩ k))
      have NA := new_a HS.out.1 HS.out.2 hk60 hB
      have NB := new_b HS.out.1 HS.out.2 hk60 hA
      have hsz := crB_size (Sup.at_ ⟨q0, h0, e0, f0, g0⟩ k)
      have HNA := Lib.hid (newer_is (crB (Sup.at_ ⟨q0, h0, e0, f0, g0⟩ k)) B (by rw [hsz]; unfold maxLen; omega) (by have := hB.1; unfold maxLen; omega))
      have HNB := Lib.hid (newer_is A (crB (Sup.at_ ⟨q0, h0, e0, f0, g0⟩ k)) (by have := hA.1; unfold maxLen; omega) (by rw [hsz]; unfold maxLen; omega))
      rw [NA.1, NA.2.1, NA.2.2] at HNA
      rw [NB.1, NB.2.1, NB.2.2] at HNB
      have HF := Lib.hid (And.intro hA.up (And.intro hB.up (Fit.new ⟨q0, h0, e0, f0, g0⟩ k)))
      rw [show (Sup.at_ ⟨q0, h0, e0, f0, g0⟩ k).q = q0 + (k : Int) from rfl, and1 (q0 + (k : Int)) (by omega) (by omega)] at HL
      rw [show (Sup.at_ ⟨q0, h0, e0, f0, g0⟩ k).val = .agg #[.int .i64 (q0 + (k : Int)), .int .i64 h0, .int .i64 e0, .int .i64 f0, .int .i64 g0] from rfl] at HP HL HNA HNB
      generalize crB (Sup.at_ ⟨q0, h0, e0, f0, g0⟩ k) = C at *
      have HW := Lib.hid (And.intro hR (And.intro hPl hW))
      have HNE := Lib.hid (And.intro (show ¬ P = wr.heap.size by have := hPl.lt; omega) (And.intro (show ¬ P = w.heap.size by have := HPW.out; omega) HPW.out))
      obtain ⟨_, c0, c1, c2, c3, c4, _, _, _, _, _⟩ := hR
      clear hPl hW hA hB NA NB hsz ok H1 HA
      have hr : (q0 + (k : Int)) % 2 = 0 ∨ (q0 + (k : Int)) % 2 = 1 := by omega
      rcases hr with hr | hr
      · rw [hr] at HL
        have HN := HNA
        have HR := Lib.hid hr
        clear hr HNA HNB
        go_wp2_with (first
          | (go_at_call 7
             refine (HP.out _).mono ?_
             rintro e w2 ⟨rfl, b2⟩
             obtain ⟨RX, b2'⟩ := Row5.laid b2
             have R2 := Lib.hid (And.intro RX (And.intro (HW.out.1.below b2') (And.intro (HW.out.2.1.below b2') (below_next HW.out.2.2 b2'))))
             obtain ⟨_, x0, x1, x2, x3, x4, _, _, _, _, _⟩ := RX
             clear b2 b2' HW)
          | (go_at_call 8
             refine (HL.out _).mono ?_
             rintro e w3 ⟨rfl, b3⟩
             obtain ⟨RX, RR, RP, RB⟩ := R2.out
             have R3 := Lib.hid (And.intro (RX.below b3) (And.intro (RR.below b3) (And.intro (RP.below b3) (below_next RB b3))))
             obtain ⟨_, p0, p1, fp0, fp1⟩ := RP.below b3
             have pX := World.cell?_setCell_same w3 _ (.string C) p0
             clear b3 R2 RX RR RP RB)
          | (go_at_call 9
             refine (HN.out _).mono ?_
             rintro e w4 ⟨rfl, b4⟩
             obtain ⟨RX, RR, RP, RB⟩ := R3.out
             have R4 := Lib.hid (And.intro (((RX.off (a := ⟨P, 0, none⟩) (v := .string C) HNE.out.1).below b4).alloc (.cells #[.int .i64 (q0 + (k : Int)), .int .i64 h0, .int .i64 e0, .int .i64 f0, .int .i64 g0] 23))
               (And.intro (((RR.off (a := ⟨P, 0, none⟩) (v := .string C) HNE.out.2.1).below b4).alloc (.cells #[.int .i64 (q0 + (k : Int)), .int .i64 h0, .int .i64 e0, .int .i64 f0, .int .i64 g0] 23))
               (And.intro (((RP.set0 C).below b4).alloc' (.cells #[.int .i64 (q0 + (k : Int)), .int .i64 h0, .int .i64 e0, .int .i64 f0, .int .i64 g0] 23))
               (bel_alloc (below_next (RB.setCell (p := ⟨P, 0, none⟩) (Nat.le_of_lt HNE.out.2.2) (.string C)) b4) (.cells #[.int .i64 (q0 + (k : Int)), .int .i64 h0, .int .i64 e0, .int .i64 f0, .int .i64 g0] 23)))))
             obtain ⟨_, y0, y1, y2, y3, y4, _, _, _, _, _⟩ := R4.out.1
             clear b4 R3 RX RR RP RB)
          | (go_at_call 8
             refine (HL.out _).mono ?_
             rintro e w5 ⟨rfl, b5⟩
             obtain ⟨_, RR, RP, RB⟩ := R4.out
             have R5 := Lib.hid (And.intro (RR.below b5) (And.intro (RP.below b5) (below_next RB b5)))
             clear b5 RR RP RB))
        exact ⟨⟨k + 1, C, B, by omega, by go_num, HF.out.2.2, HF.out.2.1, R5.out.1, R5.out.2.1, R5.out.2.2⟩, by simp [intOf]; omega⟩
      · rw [hr] at HL
        have HN := HNB
        have HR := Lib.hid hr
        clear hr HNA HNB
        go_wp2_with (first
          | (go_at_call 7
             refine (HP.out _).mono ?_
             rintro e w2 ⟨rfl, b2⟩
             obtain ⟨RX, b2'⟩ := Row5.laid b2
             have R2 := Lib.hid (And.intro RX (And.intro (HW.out.1.below b2') (And.intro (HW.out.2.1.below b2') (below_next HW.out.2.2 b2'))))
             obtain ⟨_, x0, x1, x2, x3, x4, _, _, _, _, _⟩ := RX
             clear b2 b2' HW)
          | (go_at_call 8
             refine (HL.out _).mono ?_
             rintro e w3 ⟨rfl, b3⟩
             obtain ⟨RX, RR, RP, RB⟩ := R2.out
             have R3 := Lib.hid (And.intro (RX.below b3) (And.intro (RR.below b3) (And.intro (RP.below b3) (below_next RB b3))))
             obtain ⟨_, p0, p1, fp0, fp1⟩ := RP.below b3
             have pX := World.cell?_setCell_same w3 _ (.string C) p1
             clear b3 R2 RX RR RP RB)
          | (go_at_call 9
             refine (HN.out _).mono ?_
             rintro e w4 ⟨rfl, b4⟩
             obtain ⟨RX, RR, RP, RB⟩ := R3.out
             have R4 := Lib.hid (And.intro (((RX.off (a := ⟨P, 1, none⟩) (v := .string C) HNE.out.1).below b4).alloc (.cells #[.int .i64 (q0 + (k : Int)), .int .i64 h0, .int .i64 e0, .int .i64 f0, .int .i64 g0] 23))
               (And.intro (((RR.off (a := ⟨P, 1, none⟩) (v := .string C) HNE.out.2.1).below b4).alloc (.cells #[.int .i64 (q0 + (k : Int)), .int .i64 h0, .int .i64 e0, .int .i64 f0, .int .i64 g0] 23))
               (And.intro (((RP.set1 C).below b4).alloc' (.cells #[.int .i64 (q0 + (k : Int)), .int .i64 h0, .int .i64 e0, .int .i64 f0, .int .i64 g0] 23))
               (bel_alloc (below_next (RB.setCell (p := ⟨P, 1, none⟩) (Nat.le_of_lt HNE.out.2.2) (.string C)) b4) (.cells #[.int .i64 (q0 + (k : Int)), .int .i64 h0, .int .i64 e0, .int .i64 f0, .int .i64 g0] 23)))))
             obtain ⟨_, y0, y1, y2, y3, y4, _, _, _, _, _⟩ := R4.out.1
             clear b4 R3 RX RR RP RB)
          | (go_at_call 8
             refine (HL.out _).mono ?_
             rintro e w5 ⟨rfl, b5⟩
             obtain ⟨_, RR, RP, RB⟩ := R4.out
             have R5 := Lib.hid (And.intro (RR.below b5) (And.intro (RP.below b5) (below_next RB b5)))
             clear b5 RR RP RB))
        exact ⟨⟨k + 1, A, C, by omega, by go_num, HF.out.1, HF.out.2.2, R5.out.1, R5.out.2.1, R5.out.2.2⟩, by simp [intOf]; omega⟩
    · have hn : ¬ (k : Int) < n := hlt
      have HW := Lib.hid hW
      clear hlt hk hR hPl hW hA hB H1 HA
      go_wp2
      all_goals
        go_ret
        exact ⟨rfl, HW.out⟩
theorem Line_walk (s : Sup) (n : Int) (w : World) :
    Calls Try.prog 3 #[s.val, .int .i64 n] w fun e w' => e = .returned (.bool true) ∧ Below w.heap.size w w' := by
  cases hs : supOk s
  · exact Line_out s n (.inl hs) w
  by_cases h1 : n < 1
  · exact Line_out s n (.inr (.inl ⟨hs, h1⟩)) w
  by_cases h2 : 60 < n
  · exact Line_out s n (.inr (.inr (.inl ⟨hs, by omega, h2⟩))) w
  by_cases h3 : 1000000 < s.q
  · exact Line_out s n (.inr (.inr (.inr ⟨hs, by omega, by omega, h3⟩))) w
  · exact Line_in s n hs (by omega) (by omega) (by omega) w
end Go.Proofs.Ytcpgbjbngjiecaa
