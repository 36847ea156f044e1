/- CrownTells' walk, where the first crown may be. -/
import Derived.Test.YtpeidckpcjdfgaaCrownTellsA
namespace Go.Proofs.Ytpeidckpcjdfgaa
open Go.RowKit

set_option maxRecDepth 100000 in
set_option maxHeartbeats 4000000 in
theorem Tells_yes (s t : Sup) (at_ cb : Int) (raw : ByteArray) (hs : supOk s = true) (hcb0 : 0 ≤ cb) (hcb1 : cb < 256) (hraw : raw.size ≤ 100) (w : World) :
    Calls Try.prog 3 #[s.val, t.val, .int .i64 at_, .int .u8 cb, .string raw] w fun e w' => e = .returned (.bool true) ∧ Below w.heap.size w w' := by
  have HA := Lib.hid alive_is
  have H1 := Lib.hid (cput_yes s hs)
  have H2 := Lib.hid (cput_is t)
  have HS := Lib.hid (rsuper_is s)
  rw [hs] at HS
  have HT := Lib.hid (rsuper_is t)
  have HRI := Lib.hid (right_is s)
  rw [hs] at HRI
  have HC := Lib.hid (rcrown_is s)
  have HL := Lib.hid (place_is s)
  have hsz := crB_size s
  have HG := Lib.hid (cget_is (crB s) (by rw [hsz]; unfold maxLen; omega))
  rw [(cr_get hs).1, (cr_get hs).2] at HG
  have hr1 : (raw.size : Int) ≤ 100 := by omega
  have HZ := Lib.hid hsz
  have hbz : (cputS t).size ≤ 100 := by
    unfold cputS
    split
    · rw [crB_size]; omega
    · exact Nat.zero_le _
  clear hs hsz
  generalize crB s = a at *
  generalize cputS t = b at *
  generalize supOk t = q at *
  have hsz : ((a.size : Nat) : Int) = 32 := by rw [HZ.out]; rfl
  obtain ⟨q0, h0, e0, f0, g0⟩ := s
  obtain ⟨q1, h1, e1, f1, g1⟩ := t
  simp only [Sup.val] at *
  have HB := Lib.hid (((Below.refl w.heap.size w).alloc (Nat.le_refl _) (.cells #[.int .i64 q0, .int .i64 h0, .int .i64 e0, .int .i64 f0, .int .i64 g0] 23)).alloc (by simp) (.cells #[.int .i64 q1, .int .i64 h1, .int .i64 e1, .int .i64 f1, .int .i64 g1] 23))
  have R1 := Lib.hid ((Row5.made w (.int .i64 q0) (.int .i64 h0) (.int .i64 e0) (.int .i64 f0) (.int .i64 g0) 23).alloc (.cells #[.int .i64 q1, .int .i64 h1, .int .i64 e1, .int .i64 f1, .int .i64 g1] 23))
  have R2 := Lib.hid (Row5.made (w.alloc (.cells #[.int .i64 q0, .int .i64 h0, .int .i64 e0, .int .i64 f0, .int .i64 g0] 23)) (.int .i64 q1) (.int .i64 h1) (.int .i64 e1) (.int .i64 f1) (.int .i64 g1) 23)
  rw [size_alloc] at R2
  go_enter Try.func3, Try.ntmps3
  go_wp2_with (first
    | (go_at_call 4
       refine (HA.out _).mono ?_
       rintro e w1 ⟨rfl, b1⟩
       replace R1 := Lib.hid (R1.out.below b1)
       replace R2 := Lib.hid (R2.out.below b1)
       replace HB := Lib.hid (below_next HB.out b1)
       obtain ⟨_, c0, c1, c2, c3, c4, _, _, _, _, _⟩ := R1.out
       obtain ⟨_, d0, d1, d2, d3, d4, _, _, _, _, _⟩ := R2.out
       clear b1)
    | (go_at_call 5
       with_reducible refine (H1.out _).mono ?_
       rintro e w1 ⟨rfl, b1⟩
       replace R1 := Lib.hid (R1.out.below b1)
       replace R2 := Lib.hid (R2.out.below b1)
       replace HB := Lib.hid (below_next HB.out b1)
       obtain ⟨_, c0, c1, c2, c3, c4, _, _, _, _, _⟩ := R1.out
       obtain ⟨_, d0, d1, d2, d3, d4, _, _, _, _, _⟩ := R2.out
       clear b1)
    | (go_at_call 5
       with_reducible refine (H2.out _).mono ?_
       rintro e w1 ⟨rfl, b1⟩
       replace R1 := Lib.hid (R1.out.below b1)
       replace R2 := Lib.hid (R2.out.below b1)
       replace HB := Lib.hid (below_next HB.out b1)
       clear b1))
  have HK := Lib.hid (rows10 R1.out R2.out HB.out)
  clear R1 R2 HB c0 c1 c2 c3 c4 d0 d1 d2 d3 d4
  first
  | go_region_held (fun u => u.cell? ⟨w.heap.size, 0, none⟩ = some (.int .i64 q0) ∧ u.cell? ⟨w.heap.size, 1, none⟩ = some (.int .i64 h0) ∧ u.cell? ⟨w.heap.size, 2, none⟩ = some (.int .i64 e0) ∧ u.cell? ⟨w.heap.size, 3, none⟩ = some (.int .i64 f0) ∧ u.cell? ⟨w.heap.size, 4, none⟩ = some (.int .i64 g0) ∧ u.cell? ⟨w.heap.size + 1, 0, none⟩ = some (.int .i64 q1) ∧ u.cell? ⟨w.heap.size + 1, 1, none⟩ = some (.int .i64 h1) ∧ u.cell? ⟨w.heap.size + 1, 2, none⟩ = some (.int .i64 e1) ∧ u.cell? ⟨w.heap.size + 1, 3, none⟩ = some (.int .i64 f1) ∧ u.cell? ⟨w.heap.size + 1, 4, none⟩ = some (.int .i64 g1) ∧ w.heap.size + 1 < u.heap.size ∧ Below w.heap.size w u) (first
      | assumption
      | exact HK.out
      | exact keep10 HK.out (Below.refl _ _).drew
      | exact keep10 (by assumption) b2) (first
    | (go_at_call 6
       (first | (with_reducible refine (HS.out _).mono ?_) | (with_reducible refine (HT.out _).mono ?_))
       rintro e' w2 ⟨rfl, b2⟩)
    | (go_at_call 7
       refine (HRI.out _).mono ?_
       rintro e' w2 ⟨rfl, b2⟩)
    | (go_at_call 8
       refine (HC.out _).mono ?_
       rintro e' w2 ⟨rfl, b2⟩)
    | (go_at_call 9
       refine (HL.out _).mono ?_
       rintro e' w2 ⟨rfl, b2⟩))
  | fail
  rename_i hH
  have HK2 := Lib.hid hH
  clear hH HK
  clear HS HT HRI HC HL HA H1 H2
  have hne := fun u => run_ne5 u q0 h0 e0 f0 g0
  obtain ⟨⟨ht0, ht1⟩, K, hKN, hK1, hK2⟩ := turn_at at_ 32 (by omega)
  rw [show ((32 : Nat) : Int) = 32 from rfl] at ht0 ht1 hK1 hK2
  have hKi : (K : Int) < 32 := by omega
  have sl1 := cut_to a (K : Int) K rfl (by rw [HZ.out]; omega)
  have sl2 := cut_from a ((K : Int) + 1) (K + 1) (by omega) (by rw [HZ.out]; omega)
  have se1 : (a.extract 0 K).size = K := by rw [ByteArray.size_extract, HZ.out]; omega
  have se2 : (a.extract (K + 1) a.size).size = 31 - K := by rw [ByteArray.size_extract, HZ.out]; omega
  have HW := Lib.hid (wrap_k K hKi)
  generalize a.extract 0 K = x1 at *
  generalize a.extract (K + 1) a.size = x2 at *
  have sc : (strOfNums [cb]).size = 1 := strOfNums_size _
  have CV := Lib.hid (fun u : World => conv_cells u 5 #[.int .u8 cb] [cb] 1 1 rfl (fun i hi => by obtain rfl : i = 0 := (by omega); rfl))
  generalize strOfNums [cb] = y at *
  have z1 : ¬ 9223372036854775807 < x1.size + y.size := by omega
  have z2 : ¬ 9223372036854775807 < x1.size + y.size + x2.size := by omega
  have HX := Lib.hid (show x1.size + y.size + x2.size ≤ 100 by omega)
  clear se1 se2 sc
  go_wp2_with (first
    | (go_at_call 10
       refine (HG.out _).mono ?_
       rintro e w1 ⟨rfl, b1⟩
       have HK3 := Lib.hid (keep10 HK2.out b1)
       have HB3 := Lib.hid HK3.out.2.2.2.2.2.2.2.2.2.2.2
       obtain ⟨c0, c1, c2, c3, c4, _, _, _, _, _, l1, _⟩ := keep10 HK3.out ((Below.refl _ _).alloc (Nat.le_refl _) (.cells #[.int .i64 q0, .int .i64 h0, .int .i64 e0, .int .i64 f0, .int .i64 g0] 23))
       clear b1 HK2))
  have cv := CV.out (w1.alloc (.cells #[.int .i64 q0, .int .i64 h0, .int .i64 e0, .int .i64 f0, .int .i64 g0] 23)).drew
  change (convert 32 9 (.slice (some ⟨(w1.alloc (.cells #[.int .i64 q0, .int .i64 h0, .int .i64 e0, .int .i64 f0, .int .i64 g0] 23)).heap.size, 0, none⟩) 1 1)).run Try.prog ((w1.alloc (.cells #[.int .i64 q0, .int .i64 h0, .int .i64 e0, .int .i64 f0, .int .i64 g0] 23)).alloc (.cells #[.int .u8 cb] 5)).drew = .ok (.string y) ((w1.alloc (.cells #[.int .i64 q0, .int .i64 h0, .int .i64 e0, .int .i64 f0, .int .i64 g0] 23)).alloc (.cells #[.int .u8 cb] 5)).drew at cv
  rw [size_alloc] at cv
  obtain ⟨hw1, hw2⟩ := HW.out
  go_region_with fail
  go_wp2_with fail
  have HP := Lib.hid (And.intro (show TextsAt (((w1.alloc (.cells #[.int .i64 q0, .int .i64 h0, .int .i64 e0, .int .i64 f0, .int .i64 g0] 23)).alloc (.cells #[.int .u8 cb] 5)).alloc (.cells #[.string a, .string b, .string b, .string a, .string (x1 ++ y ++ x2), .string b, .string b, .string (x1 ++ y ++ x2), .string raw, .string a, .string raw, .string (x1 ++ y ++ x2)] 33)).drew ((w1.alloc (.cells #[.int .i64 q0, .int .i64 h0, .int .i64 e0, .int .i64 f0, .int .i64 g0] 23)).alloc (.cells #[.int .u8 cb] 5)).heap.size [a, b, b, a, x1 ++ y ++ x2, b, b, x1 ++ y ++ x2, raw, a, raw, x1 ++ y ++ x2] from TextsAt.made ((w1.alloc (.cells #[.int .i64 q0, .int .i64 h0, .int .i64 e0, .int .i64 f0, .int .i64 g0] 23)).alloc (.cells #[.int .u8 cb] 5)) [a, b, b, a, x1 ++ y ++ x2, b, b, x1 ++ y ++ x2, raw, a, raw, x1 ++ y ++ x2] 33) (bel_alloc (bel_alloc (bel_alloc HB3.out (.cells #[.int .i64 q0, .int .i64 h0, .int .i64 e0, .int .i64 f0, .int .i64 g0] 23)) (.cells #[.int .u8 cb] 5)) (.cells #[.string a, .string b, .string b, .string a, .string (x1 ++ y ++ x2), .string b, .string b, .string (x1 ++ y ++ x2), .string raw, .string a, .string raw, .string (x1 ++ y ++ x2)] 33)).drew)
  rw [size_alloc, size_alloc] at HP
  have HL := Lib.hid (small12 (show a.size ≤ 100 by rw [HZ.out]; omega) hbz (show (x1 ++ y ++ x2).size ≤ 100 by simp only [ByteArray.size_append]; exact HX.out) hraw)
  have HGR := Lib.hid (cget_is raw (by unfold maxLen; omega))
  have HCR := Lib.hid (rcrowned_is raw (by omega))
  generalize [a, b, b, a, x1 ++ y ++ x2, b, b, x1 ++ y ++ x2, raw, a, raw, x1 ++ y ++ x2] = L at HP HL
  generalize w1.heap.size + 1 + 1 = P at *
  clear hne sl1 sl2 z1 z2 cv hw1 hw2 CV HW HX HK3 HB3 HG ht0 ht1 hK1 hK2 hKi c0 c1 c2 c3 c4 l1
  go_loopw [150] (fun i wr => ∃ k : Nat, k ≤ 6 ∧ i = .int .i64 (k : Int) ∧ TextsAt wr P L ∧ Below w.heap.size w wr) (fun i _ => 6 - (intOf i).toNat)
  case atStart => exact ⟨0, Nat.zero_le _, rfl, HP.out.1, HP.out.2⟩
  case round =>
    clear HP
    obtain ⟨k, hk, rfl, hT, hW⟩ := hrel
    by_cases hlt : k < 6
    · as_aux_lemma =>
      have hi : (k : Int) < 6 := by omega
      obtain ⟨xx, hx, hxs⟩ := HL.out (k * 2) (by omega)
      obtain ⟨yy, hy, hys⟩ := HL.out (k * 2 + 1) (by omega)
      have r0 := hT.2 _ _ hx
      have r1 := hT.2 _ _ hy
      have HN := Lib.hid (newer_is xx yy (by unfold maxLen; omega) (by unfold maxLen; omega))
      have HM := Lib.hid (rnewer_is xx yy (by omega) (by omega))
      have HT := Lib.hid (And.intro hT hW)
      clear hT hW hx hy hxs hys HGR HCR HL
      generalize newS xx yy = z at *
      generalize newN xx yy = nn at *
      generalize (crIs xx || crIs yy) = bb at *
      rw [show z.val = .agg #[.int .i64 z.q, .int .i64 z.h, .int .i64 z.e, .int .i64 z.f, .int .i64 z.g] from rfl] at HN HM
      have hnz := fun u => run_ne5 u z.q z.h z.e z.f z.g
      go_wp2_with (first
        | (go_at_call 11
           refine (HN.out _).mono ?_
           rintro e w2 ⟨rfl, b2⟩
           have T2 := Lib.hid (And.intro ((HT.out.1.below (bel_self _ (.cells #[.string xx, .string yy] 33))).below b2) (below_next (bel_alloc HT.out.2 (.cells #[.string xx, .string yy] 33)) b2))
           obtain ⟨l2, p0, p1⟩ := (((Pl2.made wr xx yy 33).below b2).below (bel_self _ (.cells #[.int .i64 z.q, .int .i64 z.h, .int .i64 z.e, .int .i64 z.f, .int .i64 z.g] 23)))
           clear b2)
        | (go_at_call 12
           refine (HM.out _).mono ?_
           rintro e w3 ⟨rfl, b3⟩
           have T3 := Lib.hid (And.intro (((T2.out.1.below (bel_self _ (.cells #[.int .i64 z.q, .int .i64 z.h, .int .i64 z.e, .int .i64 z.f, .int .i64 z.g] 23))).below b3).below (bel_self _ (.cells #[.int .i64 z.q, .int .i64 z.h, .int .i64 z.e, .int .i64 z.f, .int .i64 z.g] 23))) (bel_alloc (below_next (bel_alloc T2.out.2 (.cells #[.int .i64 z.q, .int .i64 z.h, .int .i64 z.e, .int .i64 z.f, .int .i64 z.g] 23)) b3) (.cells #[.int .i64 z.q, .int .i64 z.h, .int .i64 z.e, .int .i64 z.f, .int .i64 z.g] 23)))
           obtain ⟨_, y0, y1, y2, y3, y4, _, _, _, _, _⟩ := ((Row5.laid b3).1.alloc (.cells #[.int .i64 z.q, .int .i64 z.h, .int .i64 z.e, .int .i64 z.f, .int .i64 z.g] 23))
           clear b3))
      exact ⟨⟨k + 1, by omega, by go_num, T3.out.1, T3.out.2⟩, by simp [intOf]; omega⟩
    · as_aux_lemma =>
      obtain rfl : k = 6 := by omega
      have HT := Lib.hid hW
      clear hlt hk hT hW HL
      generalize cgetS raw = z at *
      generalize crIs raw = bb at *
      rw [show z.val = .agg #[.int .i64 z.q, .int .i64 z.h, .int .i64 z.e, .int .i64 z.f, .int .i64 z.g] from rfl] at HGR HCR
      have hez := fun u => run_eq5s u z.q z.h z.e z.f z.g
      go_wp2_with (first
        | (go_at_call 10
           refine (HGR.out _).mono ?_
           rintro e w2 ⟨rfl, b2⟩
           have T2 := Lib.hid (bel_alloc (below_next HT.out b2) (.cells #[.int .i64 z.q, .int .i64 z.h, .int .i64 z.e, .int .i64 z.f, .int .i64 z.g] 23))
           clear b2)
        | (go_at_call 13
           refine (HCR.out _).mono ?_
           rintro e w3 ⟨rfl, b3⟩
           have T3 := Lib.hid (bel_alloc (below_next T2.out b3) (.cells #[.int .i64 z.q, .int .i64 z.h, .int .i64 z.e, .int .i64 z.f, .int .i64 z.g] 23))
           obtain ⟨_, y0, y1, y2, y3, y4, _, _, _, _, _⟩ := ((Row5.laid b3).1.alloc (.cells #[.int .i64 z.q, .int .i64 z.h, .int .i64 z.e, .int .i64 z.f, .int .i64 z.g] 23))
           clear b3))
      all_goals
        go_ret
        exact ⟨rfl, T3.out⟩
end Go.Proofs.Ytpeidckpcjdfgaa
