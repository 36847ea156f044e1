/- EntryTells' walk. -/
import Derived.Test.YtebeegfgghbdlaaEntryAlive
import Derived.Test.YtebeegfgghbdlaaEntryRead
import Derived.Test.YtebeegfgghbdlaaEntryRefC
import Derived.Test.YtebeegfgghbdlaaBookWLive
namespace Go.Proofs.Ytebeegfgghbdlaa
open Go.RowKit
open Go.Proofs.Ytebeegfgghbdlaa.Bk

theorem chR_len : ∀ (r : List Ent) (i wh : Nat) (op told : List Chg), (chR r i wh op told).1.length ≤ told.length + op.length + r.length
  | [], i, wh, op, told => by rw [chR]; simp
  | e :: r, i, wh, op, told => by
    rw [chR]
    split
    · have := chR_len r (i + 1) (i + 1) [] (told ++ op)
      simp at this ⊢
      omega
    · split
      · have := chR_len r (i + 1) wh (op ++ [toChg e]) told
        simp at this ⊢
        omega
      · simp; omega
theorem changesL_len (L : List Ent) : (changesL L).1.length ≤ L.length := by
  rw [changesL_R]
  have := chR_len L 0 0 [] []
  simpa using this
theorem grL_len (n e : Int) (l : List Chg) : (grL n e l).length ≤ l.length + 1 := by
  unfold grL
  split
  · rw [groupL_len]; exact Nat.le_refl _
  · simp
theorem run_neE (w : World) (a b c d e : Int) : (binOp .neq 23 (.agg #[.int .i64 a, .int .i64 b, .int .i64 c, .int .i64 d, .int .i64 e]) (.agg #[.int .i64 a, .int .i64 b, .int .i64 c, .int .i64 d, .int .i64 e])).run Try.prog w = .ok (.bool false) w := by
  go_simp

set_option maxRecDepth 100000 in
set_option maxHeartbeats 2000000 in
theorem Tells_much (s : Ent) (raw : ByteArray) (n ep : Int) (a4 a5 : Option Addr) (m4 m5 c4 c5 : Nat) (hc : 100 < raw.size ∨ (raw.size ≤ 100 ∧ 40 < m4) ∨ (raw.size ≤ 100 ∧ m4 ≤ 40 ∧ 60 < m5)) (w : World) :
    Calls Try.prog 3 #[s.val, .string raw, .int .i64 n, .int .i64 ep, .slice a4 m4 c4, .slice a5 m5 c5] w fun e w' => e = .returned (.bool true) ∧ Below w.heap.size w w' := by
  have HA := Lib.hid alive_is
  obtain ⟨q0, h0, e0, f0, g0⟩ := s
  simp only [Ent.val]
  have HB : Hid (Below w.heap.size w _) := Lib.hid ((Below.refl w.heap.size w).alloc (Nat.le_refl _) (.cells #[.int .i64 q0, .int .i64 h0, .int .i64 e0, .int .i64 f0, .int .i64 g0] 23))
  rcases hc with h1 | ⟨h1, h2⟩ | ⟨h1, h2, h3⟩
  · have k1 : (100 : Int) < (raw.size : Int) := by omega
    go_enter Try.func3, Try.ntmps3
    go_wp2_with (go_at_call 4; refine (HA.out _).mono ?_; rintro e w1 ⟨rfl, b1⟩; replace HB := Lib.hid (below_next HB.out b1); clear b1)
    all_goals
      go_ret
      exact ⟨rfl, HB.out⟩
  · have k1 : ¬ (100 : Int) < (raw.size : Int) := by omega
    have k2 : (40 : Int) < (m4 : Int) := by omega
    go_enter Try.func3, Try.ntmps3
    go_wp2_with (go_at_call 4; refine (HA.out _).mono ?_; rintro e w1 ⟨rfl, b1⟩; replace HB := Lib.hid (below_next HB.out b1); clear b1)
    all_goals
      go_ret
      exact ⟨rfl, HB.out⟩
  · have k1 : ¬ (100 : Int) < (raw.size : Int) := by omega
    have k2 : ¬ (40 : Int) < (m4 : Int) := by omega
    have k3 : (60 : Int) < (m5 : Int) := by omega
    go_enter Try.func3, Try.ntmps3
    go_wp2_with (go_at_call 4; refine (HA.out _).mono ?_; rintro e w1 ⟨rfl, b1⟩; replace HB := Lib.hid (below_next HB.out b1); clear b1)
    all_goals
      go_ret
      exact ⟨rfl, HB.out⟩

set_option maxRecDepth 100000 in
set_option maxHeartbeats 8000000 in
theorem Tells_in (s x u : Ent) (raw pb lb : ByteArray) (ok on : Bool) (n ep : Int) (a4 a5 : Option Addr) (l : List Chg) (m : List Ent) (c4 c5 : Nat) (W : World)
    (hs : raw.size ≤ 100) (h4 : LiesAt W a4 (flat Chg.cells l)) (hl : l.length ≤ 40) (h5 : LiesAt W a5 (flat Ent.cells m)) (hm : m.length ≤ 60) (hw : -9223372036854775808 ≤ n ∧ n ≤ 9223372036854775807)
    (hT : ok = true → pb = lb ∧ x = s) (hF : ok = false → pb = ⟨#[]⟩)
    (HP : Hid (∀ z, Calls Try.prog 5 #[s.val] z fun e w' => e = .returned (.tuple #[.string pb, .bool ok]) ∧ Below z.heap.size z w'))
    (HE : Hid (∀ z, Calls Try.prog 6 #[s.val] z fun e w' => e = .returned (.bool ok) ∧ Below z.heap.size z w'))
    (HR : Hid (∀ z, Calls Try.prog 7 #[s.val] z fun e w' => e = .returned (.bool ok) ∧ Below z.heap.size z w'))
    (HL : Hid (∀ z, Calls Try.prog 8 #[s.val] z fun e w' => e = .returned (.string lb) ∧ Below z.heap.size z w'))
    (HG1 : Hid (∀ z, Calls Try.prog 9 #[.string pb] z fun e w' => e = .returned (.tuple #[x.val, .bool ok]) ∧ Below z.heap.size z w'))
    (HG2 : Hid (∀ z, Calls Try.prog 9 #[.string raw] z fun e w' => e = .returned (.tuple #[u.val, .bool on]) ∧ Below z.heap.size z w'))
    (HRD : Hid (∀ z, Calls Try.prog 10 #[.string raw] z fun e w' => e = .returned (.tuple #[u.val, .bool on]) ∧ Below z.heap.size z w')) :
    Calls Try.prog 3 #[s.val, .string raw, .int .i64 n, .int .i64 ep, .slice a4 l.length c4, .slice a5 m.length c5] W fun e w' => e = .returned (.bool true) ∧ Below W.heap.size W w' := by
  have HA := Lib.hid alive_is
  have H4 := Lib.hid (fun z (q : Below W.heap.size W z) => h4.below q)
  have H5 := Lib.hid (fun z (q : Below W.heap.size W z) => h5.below q)
  have hR0 : changesL m = ((changesL m).1, (changesL m).2) := rfl
  have hRl := changesL_len m
  have hGl := grL_len n ep l
  generalize (changesL m).1 = RR at *
  generalize (changesL m).2 = NN at *
  have HCH := Lib.hid hR0
  have HLN := Lib.hid (And.intro hRl hGl)
  have HW := Lib.hid hw
  clear hR0 hRl hGl h4 h5 hw
  obtain ⟨q0, h0, e0, f0, g0⟩ := s
  obtain ⟨u0, u1, u2, u3, u4'⟩ := u
  simp only [Ent.val] at *
  have HB : Hid (Below W.heap.size W _) := Lib.hid ((Below.refl W.heap.size W).alloc (Nat.le_refl _) (.cells #[.int .i64 q0, .int .i64 h0, .int .i64 e0, .int .i64 f0, .int .i64 g0] 23))
  have R1 := Lib.hid (Row5.made W (.int .i64 q0) (.int .i64 h0) (.int .i64 e0) (.int .i64 f0) (.int .i64 g0) 23)
  have k1 : ¬ (100 : Int) < (raw.size : Int) := by omega
  have k2 : ¬ (40 : Int) < (l.length : Int) := by omega
  have k3 : ¬ (60 : Int) < (m.length : Int) := by omega
  have hn1 := fun z => run_neE z q0 h0 e0 f0 g0
  have hn2 := fun z => run_neE z u0 u1 u2 u3 u4'
  have HM1 : Hid (0 = 0) := Lib.hid rfl
  have HM2 : Hid (0 = 0) := Lib.hid rfl
  cases ok
  · obtain rfl := hF rfl
    obtain ⟨x0, x1, x2, x3, x4⟩ := x
    simp only at *
    clear hT hF
    go_enter Try.func3, Try.ntmps3
    go_wp2_with (first
      | (go_at_call 4
         refine (HA.out _).mono ?_
         rintro e w1 ⟨rfl, b1⟩
         replace HB := Lib.hid (below_next HB.out b1)
         replace R1 := Lib.hid (R1.out.below b1)
         obtain ⟨_, p0, p1, p2, p3, p4, _, _, _, _, _⟩ := R1.out
         clear b1)
      | (go_at_call 5
         refine (HP.out _).mono ?_
         rintro e w1 ⟨rfl, b1⟩
         replace HB := Lib.hid (below_next HB.out b1)
         replace R1 := Lib.hid (R1.out.below b1)
         obtain ⟨_, p0, p1, p2, p3, p4, _, _, _, _, _⟩ := R1.out
         clear b1)
      | (go_at_call 6
         refine (HE.out _).mono ?_
         rintro e w1 ⟨rfl, b1⟩
         replace HB := Lib.hid (below_next HB.out b1)
         replace R1 := Lib.hid (R1.out.below b1)
         obtain ⟨_, p0, p1, p2, p3, p4, _, _, _, _, _⟩ := R1.out
         clear b1)
      | (go_at_call 7
         refine (HR.out _).mono ?_
         rintro e w1 ⟨rfl, b1⟩
         replace HB := Lib.hid (below_next HB.out b1)
         replace R1 := Lib.hid (R1.out.below b1)
         obtain ⟨_, p0, p1, p2, p3, p4, _, _, _, _, _⟩ := R1.out
         clear b1)
      | (go_at_call 8
         refine (HL.out _).mono ?_
         rintro e w1 ⟨rfl, b1⟩
         replace HB := Lib.hid (below_next HB.out b1)
         replace R1 := Lib.hid (R1.out.below b1)
         obtain ⟨_, p0, p1, p2, p3, p4, _, _, _, _, _⟩ := R1.out
         clear b1)
      | (go_at_call 9
         have hm1 := HM1.out
         refine (HG1.out _).mono ?_
         rintro e w6 ⟨rfl, b6⟩
         clear HM1 hm1
         replace HB := Lib.hid (below_next HB.out b6)
         replace R1 := Lib.hid (R1.out.below b6)
         clear b6)
      | (go_at_call 9
         refine (HG2.out _).mono ?_
         rintro e w7 ⟨rfl, b7⟩
         replace HB := Lib.hid (below_next (HB.out.alloc HB.out.size _) b7)
         replace R1 := Lib.hid ((R1.out.alloc _).below b7)
         have RX := Lib.hid ((Row5.made w6 (.int .i64 x0) (.int .i64 x1) (.int .i64 x2) (.int .i64 x3) (.int .i64 x4) 23).below b7)
         clear b7)
      | (go_at_call 10
         refine (HRD.out _).mono ?_
         rintro e w8 ⟨rfl, b8⟩
         replace HB := Lib.hid (below_next (HB.out.alloc HB.out.size _) b8)
         replace R1 := Lib.hid ((R1.out.alloc _).below b8)
         replace RX := Lib.hid ((RX.out.alloc _).below b8)
         have RU := Lib.hid ((Row5.made w7 (.int .i64 u0) (.int .i64 u1) (.int .i64 u2) (.int .i64 u3) (.int .i64 u4') 23).below b8)
         obtain ⟨lt1, p0, p1, p2, p3, p4, _, _, _, _, _⟩ := R1.out
         obtain ⟨lt2, x0', x1', x2', x3', x4', _, _, _, _, _⟩ := RX.out
         obtain ⟨lt3, y0', y1', y2', y3', y4', _, _, _, _, _⟩ := RU.out
         have ne1 := Nat.ne_of_lt lt1
         have ne2 := Nat.ne_of_lt lt2
         have ne3 := Nat.ne_of_lt lt3
         clear b8))
    clear HA HP HE HR HL HG1 HG2 HRD R1 RX RU hn1 hn2
    clear p0 p1 p2 p3 p4 x0' x1' x2' x3' x4' y0' y1' y2' y3' y4' lt1 lt2 lt3 ne1 ne2 ne3
    go_wp2_with (first
      | (go_at_call 11
         refine (lentChanges_is a4 l c4 _ (H4.out _ (HB.out.alloc HB.out.size _)) (by omega)).mono ?_
         rintro e w9 ⟨gc, cc, rfl, b9, o9⟩
         have HB9 := Lib.hid (below_next (HB.out.alloc HB.out.size _) b9)
         have S0 : Hid (RowsK W w9 W.heap.size []) := Lib.hid ⟨HB9.out, HB9.out.size, fun r hr => by simp at hr⟩
         have S1 := Lib.hid (S0.out.addC o9 (by have := HB.out.size; simp; omega))
         clear b9 o9)
      | (go_at_call 12
         refine (lentEntries_is a5 m c5 _ (H5.out _ S1.out.below) (by omega)).mono ?_
         rintro e w10 ⟨gd, cd, rfl, b10, o10⟩
         have hcd := owns_cap o10
         have S2 := Lib.hid ((S1.out.next b10).addE o10 S1.out.bs)
         have HK0 := Lib.hid (bookCE_start W w10 S2.out.below)
         clear b10 o10)
      | (go_at_call 13
         refine (group_is n ep (some ⟨gc, 0, none⟩) l cc _ ((lent_lies (S2.out.get 1 rfl)).below ((Below.refl _ _).alloc (Nat.le_refl _) _)) (by omega)).mono ?_
         rintro e w11 ⟨vg, rfl, b11, o11⟩
         obtain ⟨ag, cg, rfl, _, _⟩ := own_formK o11
         have HK1 := Lib.hid (HK0.out.next b11)
         have S3 := Lib.hid (((S2.out.next ((Below.refl _ _).alloc (Nat.le_refl _) _)).next b11).addE o11 (by have := S2.out.bs; simp; omega))
         clear b11 o11)
      | (go_at_call 14
         refine (rgroup_is n ep a4 l c4 _ (H4.out _ S3.out.below) (by omega) HW.out).mono ?_
         rintro e w12 ⟨vh, rfl, b12, o12⟩
         obtain ⟨ah, ch, rfl, _, _⟩ := own_formK o12
         have HK2 := Lib.hid (HK1.out.next b12)
         have S4 := Lib.hid ((S3.out.next b12).addE o12 S3.out.bs)
         clear b12 o12)
      | (go_at_call 15
         have hm2 := HM2.out
         refine (changes_is (some ⟨gd, 0, none⟩) m cd _ (lent_lies (S4.out.get 2 rfl)) (by omega) (by omega) RR NN HCH.out).mono ?_
         rintro e w13 ⟨vp, rfl, b13, o13⟩
         clear HM2 hm2
         obtain ⟨ap, cp, rfl, _, _⟩ := own_formK o13
         have HK3 := Lib.hid (HK2.out.next b13)
         have S5 := Lib.hid ((S4.out.next b13).addC o13 S4.out.bs)
         have HM3 : Hid (0 = 0) := Lib.hid rfl
         clear b13 o13)
      | (go_at_call 16
         refine (rchanges_is a5 m c5 _ (H5.out _ S5.out.below) (by omega) RR NN HCH.out).mono ?_
         rintro e w14 ⟨vq, rfl, b14, o14⟩
         obtain ⟨aq, cq, rfl, _, _⟩ := own_formK o14
         have HK4 := Lib.hid (HK3.out.next b14)
         have S6 := Lib.hid ((S5.out.next b14).addC o14 S5.out.bs)
         clear b14 o14)
      | (go_at_call 17
         refine (keepEntries_is W.heap.size w10.heap.size [] [] ⟨ag, grL n ep l, cg⟩ _ HK4.out.book HK4.out.hp HK4.out.kEntries (S6.out.get 3 rfl) (fun y hy => by simp at hy) (by have := HLN.out.2; show (grL n ep l).length ≤ 1000; omega) (by simp)).mono ?_
         rintro e w15 ⟨rfl, b15, t15, y15, k15⟩
         have HK5 := Lib.hid (HK4.out.addEntries b15 t15 k15)
         have S7 := Lib.hid (S6.out.turn HK4.out.book b15 t15 (by decide) (by decide))
         clear b15 t15 k15)
      | (go_at_call 18
         have hm3 := HM3.out
         refine (keepChanges_is W.heap.size w10.heap.size [] [] ⟨ap, RR, cp⟩ _ HK5.out.book HK5.out.hp HK5.out.kChanges (S7.out.get 1 rfl) (fun y hy => by simp at hy) (by have := HLN.out.1; show RR.length ≤ 1000; omega) (by simp)).mono ?_
         rintro e w16 ⟨rfl, b16, t16, y16, k16⟩
         clear HM3 hm3
         have HK6 := Lib.hid (HK5.out.addChanges b16 t16 k16)
         have S8 := Lib.hid (S7.out.turn HK5.out.book b16 t16 (by decide) (by decide))
         clear b16 t16 k16)
      | (go_at_call 15
         refine (changes_is (some ⟨gd, 0, none⟩) m cd _ (lent_lies (S8.out.get 4 rfl)) (by omega) (by omega) RR NN HCH.out).mono ?_
         rintro e w17 ⟨vr, rfl, b17, o17⟩
         obtain ⟨ar, cr, rfl, _, _⟩ := own_formK o17
         have HK7 := Lib.hid (HK6.out.next b17)
         have HAP := Lib.hid (fun g (e1 : Value.ownBlock (.slice ap RR.length cp) = some g) (e2 : Value.ownBlock (.slice ar RR.length cr) = some g) => show False by
           have h1 := ((S8.out.get 1 rfl).lt g e1).2
           have h2 := (o17.lt g e2).1
           omega)
         have S9 := Lib.hid ((S8.out.next b17).addC o17 S8.out.bs)
         clear b17 o17)
      | (go_at_call 18
         refine (keepChanges_is W.heap.size w10.heap.size _ _ ⟨ar, RR, cr⟩ _ HK7.out.book HK7.out.hp HK7.out.kChanges (S9.out.get 0 rfl) (fun y hy => by
           obtain rfl : y = ⟨ap, RR, cp⟩ := by simpa using hy
           exact fun g e1 e2 => HAP.out g e1 e2) (by have := HLN.out.1; show RR.length ≤ 1000; omega) (by simp)).mono ?_
         rintro e w18 ⟨rfl, b18, t18, y18, k18⟩
         have HKz := Lib.hid (HK7.out.addChanges b18 t18 k18)
         have HK := HKz
         have Sz := Lib.hid (S9.out.turn HK7.out.book b18 t18 (by decide) (by decide))
         have S := Sz
         clear b18 t18 k18)
      | (go_at_call 19
         refine (SameEntries_is (grL n ep l) (grL n ep l) ag ah cg ch _ (row_lies (S.out.get 4 rfl)) (row_lies (S.out.get 3 rfl)) (by have := HLN.out.2; unfold maxLen; omega) (by have := HLN.out.2; unfold maxLen; omega) true ⟨fun _ => rfl, fun _ => rfl⟩).mono ?_
         rintro e w19 ⟨rfl, d1, rfl⟩
         replace HK := Lib.hid (HKz.out.next (bel_drewN (Below.refl _ _) (d1)))
         replace S := Lib.hid (Sz.out.next (bel_drewN (Below.refl _ _) (d1))))
      | (go_at_call 20
         refine (SameChanges_is RR RR ap aq cp cq _ (row_lies (S.out.get 2 rfl)) (row_lies (S.out.get 1 rfl)) (by have := HLN.out.1; unfold maxLen; omega) (by have := HLN.out.1; unfold maxLen; omega) true ⟨fun _ => rfl, fun _ => rfl⟩).mono ?_
         rintro e w19 ⟨rfl, d2, rfl⟩
         replace HK := Lib.hid (HKz.out.next (bel_drewN (Below.refl _ _) (d1 + d2)))
         replace S := Lib.hid (Sz.out.next (bel_drewN (Below.refl _ _) (d1 + d2))))
      | (go_at_call 21
         refine (staysChanges_is gc cc W.heap.size a4 l c4 _ (S.out.get 6 rfl) (H4.out _ S.out.below) (by omega)).mono ?_
         rintro e w19 ⟨rfl, d3, rfl⟩
         replace HK := Lib.hid (HKz.out.next (bel_drewN (Below.refl _ _) (d1 + d2 + d3)))
         replace S := Lib.hid (Sz.out.next (bel_drewN (Below.refl _ _) (d1 + d2 + d3))))
      | (go_at_call 22
         refine (staysEntries_is gd cd W.heap.size a5 m c5 _ (S.out.get 5 rfl) (H5.out _ S.out.below) (by omega)).mono ?_
         rintro e w19 ⟨rfl, d4, rfl⟩
         replace HK := Lib.hid (HKz.out.next (bel_drewN (Below.refl _ _) (d1 + d2 + d3 + d4)))
         replace S := Lib.hid (Sz.out.next (bel_drewN (Below.refl _ _) (d1 + d2 + d3 + d4))))
      | (go_at_call 23
         refine (apartCE_is W _ W.heap.size w10.heap.size _ _ _ _ HK.out (by simp) (by simp)).mono ?_
         rintro e w20 ⟨rfl, b20⟩
         have HZ := Lib.hid b20
         clear b20))
    all_goals
      go_ret
      exact ⟨rfl, HZ.out⟩
  · obtain ⟨rfl, rfl⟩ := hT rfl
    simp only at *
    clear hF
    go_enter Try.func3, Try.ntmps3
    go_wp2_with (first
      | (go_at_call 4
         refine (HA.out _).mono ?_
         rintro e w1 ⟨rfl, b1⟩
         replace HB := Lib.hid (below_next HB.out b1)
         replace R1 := Lib.hid (R1.out.below b1)
         obtain ⟨_, p0, p1, p2, p3, p4, _, _, _, _, _⟩ := R1.out
         clear b1)
      | (go_at_call 5
         refine (HP.out _).mono ?_
         rintro e w1 ⟨rfl, b1⟩
         replace HB := Lib.hid (below_next HB.out b1)
         replace R1 := Lib.hid (R1.out.below b1)
         obtain ⟨_, p0, p1, p2, p3, p4, _, _, _, _, _⟩ := R1.out
         clear b1)
      | (go_at_call 6
         refine (HE.out _).mono ?_
         rintro e w1 ⟨rfl, b1⟩
         replace HB := Lib.hid (below_next HB.out b1)
         replace R1 := Lib.hid (R1.out.below b1)
         obtain ⟨_, p0, p1, p2, p3, p4, _, _, _, _, _⟩ := R1.out
         clear b1)
      | (go_at_call 7
         refine (HR.out _).mono ?_
         rintro e w1 ⟨rfl, b1⟩
         replace HB := Lib.hid (below_next HB.out b1)
         replace R1 := Lib.hid (R1.out.below b1)
         obtain ⟨_, p0, p1, p2, p3, p4, _, _, _, _, _⟩ := R1.out
         clear b1)
      | (go_at_call 8
         refine (HL.out _).mono ?_
         rintro e w1 ⟨rfl, b1⟩
         replace HB := Lib.hid (below_next HB.out b1)
         replace R1 := Lib.hid (R1.out.below b1)
         obtain ⟨_, p0, p1, p2, p3, p4, _, _, _, _, _⟩ := R1.out
         clear b1)
      | (go_at_call 9
         have hm1 := HM1.out
         refine (HG1.out _).mono ?_
         rintro e w6 ⟨rfl, b6⟩
         clear HM1 hm1
         replace HB := Lib.hid (below_next HB.out b6)
         replace R1 := Lib.hid (R1.out.below b6)
         clear b6)
      | (go_at_call 9
         refine (HG2.out _).mono ?_
         rintro e w7 ⟨rfl, b7⟩
         replace HB := Lib.hid (below_next (HB.out.alloc HB.out.size _) b7)
         replace R1 := Lib.hid ((R1.out.alloc _).below b7)
         have RX := Lib.hid ((Row5.made w6 (.int .i64 q0) (.int .i64 h0) (.int .i64 e0) (.int .i64 f0) (.int .i64 g0) 23).below b7)
         clear b7)
      | (go_at_call 10
         refine (HRD.out _).mono ?_
         rintro e w8 ⟨rfl, b8⟩
         replace HB := Lib.hid (below_next (HB.out.alloc HB.out.size _) b8)
         replace R1 := Lib.hid ((R1.out.alloc _).below b8)
         replace RX := Lib.hid ((RX.out.alloc _).below b8)
         have RU := Lib.hid ((Row5.made w7 (.int .i64 u0) (.int .i64 u1) (.int .i64 u2) (.int .i64 u3) (.int .i64 u4') 23).below b8)
         obtain ⟨lt1, p0, p1, p2, p3, p4, _, _, _, _, _⟩ := R1.out
         obtain ⟨lt2, x0', x1', x2', x3', x4', _, _, _, _, _⟩ := RX.out
         obtain ⟨lt3, y0', y1', y2', y3', y4', _, _, _, _, _⟩ := RU.out
         have ne1 := Nat.ne_of_lt lt1
         have ne2 := Nat.ne_of_lt lt2
         have ne3 := Nat.ne_of_lt lt3
         clear b8))
    clear HA HP HE HR HL HG1 HG2 HRD R1 RX RU hn1 hn2
    clear p0 p1 p2 p3 p4 x0' x1' x2' x3' x4' y0' y1' y2' y3' y4' lt1 lt2 lt3 ne1 ne2 ne3
    go_wp2_with (first
      | (go_at_call 11
         refine (lentChanges_is a4 l c4 _ (H4.out _ (HB.out.alloc HB.out.size _)) (by omega)).mono ?_
         rintro e w9 ⟨gc, cc, rfl, b9, o9⟩
         have HB9 := Lib.hid (below_next (HB.out.alloc HB.out.size _) b9)
         have S0 : Hid (RowsK W w9 W.heap.size []) := Lib.hid ⟨HB9.out, HB9.out.size, fun r hr => by simp at hr⟩
         have S1 := Lib.hid (S0.out.addC o9 (by have := HB.out.size; simp; omega))
         clear b9 o9)
      | (go_at_call 12
         refine (lentEntries_is a5 m c5 _ (H5.out _ S1.out.below) (by omega)).mono ?_
         rintro e w10 ⟨gd, cd, rfl, b10, o10⟩
         have hcd := owns_cap o10
         have S2 := Lib.hid ((S1.out.next b10).addE o10 S1.out.bs)
         have HK0 := Lib.hid (bookCE_start W w10 S2.out.below)
         clear b10 o10)
      | (go_at_call 13
         refine (group_is n ep (some ⟨gc, 0, none⟩) l cc _ ((lent_lies (S2.out.get 1 rfl)).below ((Below.refl _ _).alloc (Nat.le_refl _) _)) (by omega)).mono ?_
         rintro e w11 ⟨vg, rfl, b11, o11⟩
         obtain ⟨ag, cg, rfl, _, _⟩ := own_formK o11
         have HK1 := Lib.hid (HK0.out.next b11)
         have S3 := Lib.hid (((S2.out.next ((Below.refl _ _).alloc (Nat.le_refl _) _)).next b11).addE o11 (by have := S2.out.bs; simp; omega))
         clear b11 o11)
      | (go_at_call 14
         refine (rgroup_is n ep a4 l c4 _ (H4.out _ S3.out.below) (by omega) HW.out).mono ?_
         rintro e w12 ⟨vh, rfl, b12, o12⟩
         obtain ⟨ah, ch, rfl, _, _⟩ := own_formK o12
         have HK2 := Lib.hid (HK1.out.next b12)
         have S4 := Lib.hid ((S3.out.next b12).addE o12 S3.out.bs)
         clear b12 o12)
      | (go_at_call 15
         have hm2 := HM2.out
         refine (changes_is (some ⟨gd, 0, none⟩) m cd _ (lent_lies (S4.out.get 2 rfl)) (by omega) (by omega) RR NN HCH.out).mono ?_
         rintro e w13 ⟨vp, rfl, b13, o13⟩
         clear HM2 hm2
         obtain ⟨ap, cp, rfl, _, _⟩ := own_formK o13
         have HK3 := Lib.hid (HK2.out.next b13)
         have S5 := Lib.hid ((S4.out.next b13).addC o13 S4.out.bs)
         have HM3 : Hid (0 = 0) := Lib.hid rfl
         clear b13 o13)
      | (go_at_call 16
         refine (rchanges_is a5 m c5 _ (H5.out _ S5.out.below) (by omega) RR NN HCH.out).mono ?_
         rintro e w14 ⟨vq, rfl, b14, o14⟩
         obtain ⟨aq, cq, rfl, _, _⟩ := own_formK o14
         have HK4 := Lib.hid (HK3.out.next b14)
         have S6 := Lib.hid ((S5.out.next b14).addC o14 S5.out.bs)
         clear b14 o14)
      | (go_at_call 17
         refine (keepEntries_is W.heap.size w10.heap.size [] [] ⟨ag, grL n ep l, cg⟩ _ HK4.out.book HK4.out.hp HK4.out.kEntries (S6.out.get 3 rfl) (fun y hy => by simp at hy) (by have := HLN.out.2; show (grL n ep l).length ≤ 1000; omega) (by simp)).mono ?_
         rintro e w15 ⟨rfl, b15, t15, y15, k15⟩
         have HK5 := Lib.hid (HK4.out.addEntries b15 t15 k15)
         have S7 := Lib.hid (S6.out.turn HK4.out.book b15 t15 (by decide) (by decide))
         clear b15 t15 k15)
      | (go_at_call 18
         have hm3 := HM3.out
         refine (keepChanges_is W.heap.size w10.heap.size [] [] ⟨ap, RR, cp⟩ _ HK5.out.book HK5.out.hp HK5.out.kChanges (S7.out.get 1 rfl) (fun y hy => by simp at hy) (by have := HLN.out.1; show RR.length ≤ 1000; omega) (by simp)).mono ?_
         rintro e w16 ⟨rfl, b16, t16, y16, k16⟩
         clear HM3 hm3
         have HK6 := Lib.hid (HK5.out.addChanges b16 t16 k16)
         have S8 := Lib.hid (S7.out.turn HK5.out.book b16 t16 (by decide) (by decide))
         clear b16 t16 k16)
      | (go_at_call 15
         refine (changes_is (some ⟨gd, 0, none⟩) m cd _ (lent_lies (S8.out.get 4 rfl)) (by omega) (by omega) RR NN HCH.out).mono ?_
         rintro e w17 ⟨vr, rfl, b17, o17⟩
         obtain ⟨ar, cr, rfl, _, _⟩ := own_formK o17
         have HK7 := Lib.hid (HK6.out.next b17)
         have HAP := Lib.hid (fun g (e1 : Value.ownBlock (.slice ap RR.length cp) = some g) (e2 : Value.ownBlock (.slice ar RR.length cr) = some g) => show False by
           have h1 := ((S8.out.get 1 rfl).lt g e1).2
           have h2 := (o17.lt g e2).1
           omega)
         have S9 := Lib.hid ((S8.out.next b17).addC o17 S8.out.bs)
         clear b17 o17)
      | (go_at_call 18
         refine (keepChanges_is W.heap.size w10.heap.size _ _ ⟨ar, RR, cr⟩ _ HK7.out.book HK7.out.hp HK7.out.kChanges (S9.out.get 0 rfl) (fun y hy => by
           obtain rfl : y = ⟨ap, RR, cp⟩ := by simpa using hy
           exact fun g e1 e2 => HAP.out g e1 e2) (by have := HLN.out.1; show RR.length ≤ 1000; omega) (by simp)).mono ?_
         rintro e w18 ⟨rfl, b18, t18, y18, k18⟩
         have HKz := Lib.hid (HK7.out.addChanges b18 t18 k18)
         have HK := HKz
         have Sz := Lib.hid (S9.out.turn HK7.out.book b18 t18 (by decide) (by decide))
         have S := Sz
         clear b18 t18 k18)
      | (go_at_call 19
         refine (SameEntries_is (grL n ep l) (grL n ep l) ag ah cg ch _ (row_lies (S.out.get 4 rfl)) (row_lies (S.out.get 3 rfl)) (by have := HLN.out.2; unfold maxLen; omega) (by have := HLN.out.2; unfold maxLen; omega) true ⟨fun _ => rfl, fun _ => rfl⟩).mono ?_
         rintro e w19 ⟨rfl, d1, rfl⟩
         replace HK := Lib.hid (HKz.out.next (bel_drewN (Below.refl _ _) (d1)))
         replace S := Lib.hid (Sz.out.next (bel_drewN (Below.refl _ _) (d1))))
      | (go_at_call 20
         refine (SameChanges_is RR RR ap aq cp cq _ (row_lies (S.out.get 2 rfl)) (row_lies (S.out.get 1 rfl)) (by have := HLN.out.1; unfold maxLen; omega) (by have := HLN.out.1; unfold maxLen; omega) true ⟨fun _ => rfl, fun _ => rfl⟩).mono ?_
         rintro e w19 ⟨rfl, d2, rfl⟩
         replace HK := Lib.hid (HKz.out.next (bel_drewN (Below.refl _ _) (d1 + d2)))
         replace S := Lib.hid (Sz.out.next (bel_drewN (Below.refl _ _) (d1 + d2))))
      | (go_at_call 21
         refine (staysChanges_is gc cc W.heap.size a4 l c4 _ (S.out.get 6 rfl) (H4.out _ S.out.below) (by omega)).mono ?_
         rintro e w19 ⟨rfl, d3, rfl⟩
         replace HK := Lib.hid (HKz.out.next (bel_drewN (Below.refl _ _) (d1 + d2 + d3)))
         replace S := Lib.hid (Sz.out.next (bel_drewN (Below.refl _ _) (d1 + d2 + d3))))
      | (go_at_call 22
         refine (staysEntries_is gd cd W.heap.size a5 m c5 _ (S.out.get 5 rfl) (H5.out _ S.out.below) (by omega)).mono ?_
         rintro e w19 ⟨rfl, d4, rfl⟩
         replace HK := Lib.hid (HKz.out.next (bel_drewN (Below.refl _ _) (d1 + d2 + d3 + d4)))
         replace S := Lib.hid (Sz.out.next (bel_drewN (Below.refl _ _) (d1 + d2 + d3 + d4))))
      | (go_at_call 23
         refine (apartCE_is W _ W.heap.size w10.heap.size _ _ _ _ HK.out (by simp) (by simp)).mono ?_
         rintro e w20 ⟨rfl, b20⟩
         have HZ := Lib.hid b20
         clear b20))
    all_goals
      go_ret
      exact ⟨rfl, HZ.out⟩

theorem eput_back (s : Ent) : enIs (eputS s) = entOk s ∧ (entOk s = true → eputS s = enB s ∧ egetS (eputS s) = s) ∧ (entOk s = false → eputS s = ⟨#[]⟩) := by
  cases h : entOk s
  · have hp : eputS s = ⟨#[]⟩ := by
      unfold eputS
      rw [if_neg (by rw [h]; decide)]
      rfl
    rw [hp]
    exact ⟨decide_eq_false (fun q => by have := q.1; exact absurd this (by decide)), fun q => (by cases q), fun _ => rfl⟩
  · have hp : eputS s = enB s := if_pos h
    rw [hp]
    obtain ⟨h1, h2⟩ := en_put h
    exact ⟨h1, fun _ => ⟨rfl, by rw [egetS_yes h1, h2]⟩, fun q => by cases q⟩
theorem Tells_walk {W : World} (s : Ent) (raw : ByteArray) (n ep : Int) (a4 a5 : Option Addr) (l : List Chg) (m : List Ent) (c4 c5 : Nat) (h4 : LiesAt W a4 (flat Chg.cells l)) (h5 : LiesAt W a5 (flat Ent.cells m)) (hw : -9223372036854775808 ≤ n ∧ n ≤ 9223372036854775807) :
    Calls Try.prog 3 #[s.val, .string raw, .int .i64 n, .int .i64 ep, .slice a4 l.length c4, .slice a5 m.length c5] W fun e w' => e = .returned (.bool true) ∧ Below W.heap.size W w' := by
  by_cases r1 : 100 < raw.size
  · exact Tells_much s raw n ep a4 a5 _ _ c4 c5 (.inl r1) W
  by_cases r2 : 40 < l.length
  · exact Tells_much s raw n ep a4 a5 _ _ c4 c5 (.inr (.inl ⟨by omega, r2⟩)) W
  by_cases r3 : 60 < m.length
  · exact Tells_much s raw n ep a4 a5 _ _ c4 c5 (.inr (.inr ⟨by omega, by omega, r3⟩)) W
  obtain ⟨b1, b2, b3⟩ := eput_back s
  have hps : (eputS s).size ≤ maxLen := by
    unfold eputS maxLen
    split
    · rw [enB_size]; omega
    · exact Nat.zero_le _
  have hG : ∀ z, Calls Try.prog 9 #[.string (eputS s)] z fun e w' => e = .returned (.tuple #[(egetS (eputS s)).val, .bool (entOk s)]) ∧ Below z.heap.size z w' := fun z => by
    have := eget_is (eputS s) hps z
    rw [b1] at this
    exact this
  exact Tells_in s (egetS (eputS s)) (egetS raw) raw (eputS s) (enB s) (entOk s) (enIs raw) n ep a4 a5 l m c4 c5 W (by omega) h4 (by omega) h5 (by omega) hw b2 b3
    (Lib.hid (eput_is s)) (Lib.hid (rentry_is s)) (Lib.hid (right_is s)) (Lib.hid (rlaid_is s)) (Lib.hid hG) (Lib.hid (fun z => eget_is raw (by unfold maxLen; omega) z)) (Lib.hid (fun z => rread_is raw (by omega) z))
end Go.Proofs.Ytebeegfgghbdlaa
