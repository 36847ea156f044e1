/- FieldKeeps: the walk. -/
import Derived.Test.YtjengjmhjccnoaaGreatDoorZFieldLaws
import Derived.Test.YtjengjmhjccnoaaGreatDoorZGeo
import Derived.Test.YtjengjmhjccnoaaGreatDoorZStoreC
set_option linter.unusedVariables false
set_option linter.unusedSimpArgs false
namespace Go.Proofs.YtjengjmhjccnoaaGreatDoor
open Go.RowKit Sec
open Go.Proofs.YtjengjmhjccnoaaGreatDoor.Bk

section
variable {W : World}
theorem LwS.new {u : World} {h l : Int} {B s H L : Nat} {G : Nat → Prop} {V V' : List Int} (x : LwS W h l B G s H L V u) {f : FuncId} {args : Array Value} {r : Ending} (y : St B G u s H L V → Calls Tryz.prog f args u fun e w' => e = r ∧ St B G w' s H L V' ∧ Below B u w' ∧ KeptG G u w') :
    Calls Tryz.prog f args u fun e w' => e = r ∧ LwS W h l B G s H L V' w' :=
  (y x.s).mono fun _ _ ⟨y0, y1, y2, y3⟩ => ⟨y0, x.set y1 y2 y3⟩
set_option maxRecDepth 100000 in
set_option maxHeartbeats 4000000 in
theorem Keep_no (ht : TyOk W.heap.size W) (h l sl wo i v : Int) (no : ¬ (geOk h l = true ∧ (1 ≤ sl ∧ sl ≤ 15) ∧ (1 ≤ wo ∧ wo ≤ 30) ∧ 2 + 2 * sl + 2 * wo ≤ h ∧ (0 ≤ v ∧ v < 4294967296))) : Calls Tryz.prog 3 #[.agg #[.int .i64 h, .int .i64 l], .int .i64 sl, .int .i64 wo, .int .i64 i, .int .i64 v] W fun e w' => e = .returned (.bool true) ∧ Below W.heap.size W w' := by
  have HT := Lib.hid ht
  have HR := Lib.hid (fun u => rgeo_is h l u)
  have cases : geOk h l = false ∨ (geOk h l = true ∧ (sl < 1 ∨ (1 ≤ sl ∧ (15 < sl ∨ (sl ≤ 15 ∧ (wo < 1 ∨ (1 ≤ wo ∧ (30 < wo ∨ (wo ≤ 30 ∧ (h < 2 + 2 * sl + 2 * wo ∨ (2 + 2 * sl + 2 * wo ≤ h ∧ (v < 0 ∨ (0 ≤ v ∧ 4294967296 ≤ v))))))))))))) := by
    cases q : geOk h l
    · exact .inl rfl
    · have no2 : ¬ ((1 ≤ sl ∧ sl ≤ 15) ∧ (1 ≤ wo ∧ wo ≤ 30) ∧ 2 + 2 * sl + 2 * wo ≤ h ∧ (0 ≤ v ∧ v < 4294967296)) := fun x => no ⟨q, x⟩
      exact .inr ⟨rfl, by omega⟩
  clear no ht
  generalize geOk h l = ok at *
  rcases cases with rfl | ⟨rfl, c⟩
  rotate_left
  rcases c with c | ⟨c1, c⟩
  rotate_left
  rcases c with c | ⟨c2, c⟩
  rotate_left
  rcases c with c | ⟨c3, c⟩
  rotate_left
  rcases c with c | ⟨c4, c⟩
  rotate_left
  rcases c with c | ⟨c5, c⟩
  rotate_left
  rcases c with c | ⟨c6, c⟩
  all_goals
    go_enter Tryz.func3, Tryz.ntmps3
    go_wp2_with (first
      | (go_at_call 5; refine (HR.out _).mono ?_; rintro e' w1 ⟨rfl, b1⟩; have H1 := Lib.hid (GBox.laid b1); obtain ⟨_, c0, _⟩ := H1.out.1; clear b1)
      | (go_at_call 6; refine (fialive_is ((HT.out.below H1.out.2).more H1.out.2.size)).mono ?_; rintro e' w2 ⟨rfl, b2⟩; have H2 := Lib.hid (geo_next H1.out.2 b2); clear b2))
    go_ret
    exact ⟨rfl, H2.out⟩
set_option maxRecDepth 100000 in
set_option maxHeartbeats 8000000 in
theorem Keep_yes (ht : TyOk W.heap.size W) (H L S X : Nat) (i v : Int) (hg : geOk H L = true) (hs0 : 1 ≤ S) (hs1 : S ≤ 15) (hx0 : 1 ≤ X) (hx1 : X ≤ 30) (hz : 2 + 2 * (S : Int) + 2 * (X : Int) ≤ (H : Int)) (hv0 : 0 ≤ v) (hv1 : v < 4294967296) : Calls Tryz.prog 3 #[.agg #[.int .i64 (H : Int), .int .i64 (L : Int)], .int .i64 (S : Int), .int .i64 (X : Int), .int .i64 i, .int .i64 v] W fun e w' => e = .returned (.bool true) ∧ Below W.heap.size W w' := by
  have hge := geOk_yes hg
  have HT := Lib.hid ht
  have HR := Lib.hid (fun u => rgeo_is H L u)
  rw [hg] at HR
  have HBg : Hid (∀ u, TyOk u.heap.size u → Calls Tryz.prog 7 #[.agg #[.int .i64 (H : Int), .int .i64 (L : Int)]] u fun r w' => ∃ s p, r = .returned (.tuple #[.pointer (some ⟨p, 0, none⟩), .pointer (some ⟨s, 0, none⟩)]) ∧ St u.heap.size (fun b => b < u.heap.size) w' s H L (freshC H) ∧ Below u.heap.size u w') := Lib.hid (fun u x => Begin_st x H L (by omega))
  have sh : shOk (S : Int) (X : Int) = true := decide_eq_true (by omega)
  obtain ⟨⟨r0, r1⟩, K, hK, _, hrK⟩ := turn_at i S (by omega)
  obtain ⟨⟨r2, r3⟩, M, hM, _, hrM⟩ := turn_at i X (by omega)
  obtain ⟨m1, m2, p3, p4, kp⟩ := keeps_data hg sh (by omega) (by omega) hz (n := 1 + S + X) (k := K) (m := M) (by omega) (by omega) (by omega) hv0 hv1
  obtain ⟨la, lb, wa, wb, n1, n2, n3, n4, n5, n6, n7⟩ := kp
  have hbe : ((16 + (1 + S + X) : Nat) : Int) = 16 + ((1 + S + X : Nat) : Int) := by omega
  have hb0 : (16 : Int) + ((1 + S + X : Nat) : Int) ≠ 0 := by omega
  have HN1 : Hid (∀ h l B u s, LwS W h l B (fun k => k < B) s H L (freshC H) u → Calls Tryz.prog 8 #[.pointer (some ⟨s, 0, none⟩), .int .i64 (S : Int), .int .i64 (X : Int)] u fun r w' => r = .returned (.tuple #[.int .i64 16, .int .i64 0]) ∧ LwS W h l B (fun k => k < B) s H L (newW H L (freshC H) S X) w') := Lib.hid (fun h l B u s x => x.new (fun y => by
    have := anew_st y S X
    rwa [m1.ad, m1.e] at this))
  generalize newW H L (freshC H) S X = W1 at *
  have HN2 : Hid (∀ h l B u s, LwS W h l B (fun k => k < B) s H L W1 u → Calls Tryz.prog 8 #[.pointer (some ⟨s, 0, none⟩), .int .i64 (S : Int), .int .i64 (X : Int)] u fun r w' => r = .returned (.tuple #[.int .i64 (16 + ((1 + S + X : Nat) : Int)), .int .i64 0]) ∧ LwS W h l B (fun k => k < B) s H L (newW H L W1 S X) w') := Lib.hid (fun h l B u s x => x.new (fun y => by
    have := anew_st y S X
    rwa [m2.ad, m2.e, hbe] at this))
  generalize newW H L W1 S X = W2 at *
  clear m1 m2 sh hbe
  generalize (16 : Int) + ((1 + S + X : Nat) : Int) = b at *
  have HP3 : Hid (∀ h l B u s, LwS W h l B (fun k => k < B) s H L W2 u → Calls Tryz.prog 9 #[.pointer (some ⟨s, 0, none⟩), .int .i64 16, .int .i64 (K : Int), .int .i64 b] u fun r w' => r = .returned (.int .i64 0) ∧ LwS W h l B (fun k => k < B) s H L (ptW H L W2 16 K b) w') := Lib.hid (fun h l B u s x => x.new (fun y => by
    have := fPut_is y 16 K b
    rwa [p3] at this))
  generalize ptW H L W2 16 K b = W3 at *
  have HP4 : Hid (∀ h l B u s, LwS W h l B (fun k => k < B) s H L W3 u → Calls Tryz.prog 10 #[.pointer (some ⟨s, 0, none⟩), .int .i64 b, .int .i64 (M : Int), .int .i64 v] u fun r w' => r = .returned (.int .i64 0) ∧ LwS W h l B (fun k => k < B) s H L (swW H L W3 b M v) w') := Lib.hid (fun h l B u s x => x.new (fun y => by
    have := fSetWord_is y b M v
    rwa [p4] at this))
  generalize swW H L W3 b M v = V at *
  clear p3 p4
  have HLa : Hid (∀ h l B u s (j : Nat), (j : Int) < (S : Int) → LwS W h l B (fun k => k < B) s H L V u → Calls Tryz.prog 11 #[.pointer (some ⟨s, 0, none⟩), .int .i64 16, .int .i64 (j : Int)] u fun r w' => r = .returned (.tuple #[.int .i64 (if j = K then b else 0), .int .i64 0]) ∧ LwS W h l B (fun k => k < B) s H L V w') := Lib.hid (fun h l B u s j hj x => x.new (fun y => by
    obtain ⟨q1, q2, q3⟩ := la j hj
    have := fLoad_is y 16 j
    rwa [q1, q2, q3] at this))
  have HLb : Hid (∀ h l B u s (j : Nat), (j : Int) < (S : Int) → LwS W h l B (fun k => k < B) s H L V u → Calls Tryz.prog 11 #[.pointer (some ⟨s, 0, none⟩), .int .i64 b, .int .i64 (j : Int)] u fun r w' => r = .returned (.tuple #[.int .i64 0, .int .i64 0]) ∧ LwS W h l B (fun k => k < B) s H L V w') := Lib.hid (fun h l B u s j hj x => x.new (fun y => by
    obtain ⟨q1, q2, q3⟩ := lb j hj
    have := fLoad_is y b j
    rwa [q1, q2, q3] at this))
  have HWa : Hid (∀ h l B u s (j : Nat), (j : Int) < (X : Int) → LwS W h l B (fun k => k < B) s H L V u → Calls Tryz.prog 12 #[.pointer (some ⟨s, 0, none⟩), .int .i64 16, .int .i64 (j : Int)] u fun r w' => r = .returned (.tuple #[.int .i64 0, .int .i64 0]) ∧ LwS W h l B (fun k => k < B) s H L V w') := Lib.hid (fun h l B u s j hj x => by
    obtain ⟨q1, q2⟩ := wa j hj
    have := fWord_is x.s 16 j
    rw [q1, q2] at this
    exact this.mono fun _ _ ⟨y0, y1⟩ => ⟨y0, x.below y1⟩)
  have HWb : Hid (∀ h l B u s (j : Nat), (j : Int) < (X : Int) → LwS W h l B (fun k => k < B) s H L V u → Calls Tryz.prog 12 #[.pointer (some ⟨s, 0, none⟩), .int .i64 b, .int .i64 (j : Int)] u fun r w' => r = .returned (.tuple #[.int .i64 (if j = M then v else 0), .int .i64 0]) ∧ LwS W h l B (fun k => k < B) s H L V w') := Lib.hid (fun h l B u s j hj x => by
    obtain ⟨q1, q2⟩ := wb j hj
    have := fWord_is x.s b j
    rw [q1, q2] at this
    exact this.mono fun _ _ ⟨y0, y1⟩ => ⟨y0, x.below y1⟩)
  have HE1 : Hid (∀ h l B u s, LwS W h l B (fun k => k < B) s H L V u → Calls Tryz.prog 11 #[.pointer (some ⟨s, 0, none⟩), .int .i64 16, .int .i64 (S : Int)] u fun r w' => r = .returned (.tuple #[.int .i64 (loadV H L V 16 S), .int .i64 8]) ∧ LwS W h l B (fun k => k < B) s H L V w') := Lib.hid (fun h l B u s x => x.new (fun y => by
    have := fLoad_is y 16 S
    rwa [n1, n2] at this))
  have HE2 : Hid (∀ h l B u s, LwS W h l B (fun k => k < B) s H L V u → Calls Tryz.prog 12 #[.pointer (some ⟨s, 0, none⟩), .int .i64 b, .int .i64 (-1)] u fun r w' => r = .returned (.tuple #[.int .i64 (wrdV H L V b (-1)), .int .i64 8]) ∧ LwS W h l B (fun k => k < B) s H L V w') := Lib.hid (fun h l B u s x => by
    have := fWord_is x.s b (-1)
    rw [n3] at this
    exact this.mono fun _ _ ⟨y0, y1⟩ => ⟨y0, x.below y1⟩)
  have HE3 : Hid (∀ h l B u s, LwS W h l B (fun k => k < B) s H L V u → Calls Tryz.prog 9 #[.pointer (some ⟨s, 0, none⟩), .int .i64 0, .int .i64 0, .int .i64 16] u fun r w' => r = .returned (.int .i64 7) ∧ LwS W h l B (fun k => k < B) s H L V w') := Lib.hid (fun h l B u s x => x.new (fun y => by
    have := fPut_is y 0 0 16
    rwa [n4, n5] at this))
  have HE4 : Hid (∀ h l B u s, LwS W h l B (fun k => k < B) s H L V u → Calls Tryz.prog 10 #[.pointer (some ⟨s, 0, none⟩), .int .i64 16, .int .i64 (X : Int), .int .i64 1] u fun r w' => r = .returned (.int .i64 8) ∧ LwS W h l B (fun k => k < B) s H L V w') := Lib.hid (fun h l B u s x => x.new (fun y => by
    have := fSetWord_is y 16 X 1
    rwa [n6, n7] at this))
  generalize loadV H L V 16 S = v8 at *
  generalize wrdV H L V b (-1) = v9 at *
  have HM := Lib.hid (GBox.made W (H : Int) (L : Int) 23)
  have hH4 : (H : Int) ≤ 400 := by omega
  have hS1 : (1 : Int) ≤ (S : Int) := by omega
  have hS15 : (S : Int) ≤ 15 := by omega
  have hX1 : (1 : Int) ≤ (X : Int) := by omega
  have hX30 : (X : Int) ≤ 30 := by omega
  have hKS : (K : Int) < (S : Int) := by omega
  have hMX : (M : Int) < (X : Int) := by omega
  have hw1 : IntKind.i64.wrap (i.tmod (S : Int) + (S : Int)) = i.tmod (S : Int) + (S : Int) := by rw [IntKind.wrap_i64]; omega
  have hw2 : IntKind.i64.wrap (i.tmod (X : Int) + (X : Int)) = i.tmod (X : Int) + (X : Int) := by rw [IntKind.wrap_i64]; omega
  have hS0 : ¬ (S : Int) = 0 := by omega
  have hX0 : ¬ (X : Int) = 0 := by omega
  clear la lb wa wb n1 n2 n3 n4 n5 n6 n7 r0 r1 r2 r3 ht hg hge
  go_enter Tryz.func3, Tryz.ntmps3
  go_wp2_with (first
    | (go_at_call 5; refine (HR.out _).mono ?_; rintro e' w1 ⟨rfl, b1⟩; have H1 := Lib.hid (GBox.laid b1); obtain ⟨_, c0, c1⟩ := H1.out.1; clear b1)
    | (go_at_call 6; refine (fialive_is ((HT.out.below H1.out.2).more H1.out.2.size)).mono ?_; rintro e' w2 ⟨rfl, b2⟩; replace H1 := Lib.hid (And.intro (H1.out.1.below b2) (geo_next H1.out.2 b2)); clear b2 c0 c1; obtain ⟨_, c0, c1⟩ := H1.out.1)
    | (go_at_call 7; refine (HBg.out _ ((HT.out.below H1.out.2).more H1.out.2.size)).mono ?_; rintro e' w3 ⟨s, p, rfl, h3, b3⟩; have HS := Lib.hid (LwS.start H1.out.1 H1.out.2 h3 b3); clear h3 b3 c0 c1)
    | (go_at_call 8; with_reducible refine (HN1.out _ _ _ _ _ HS.out).mono ?_; rintro e' w4 ⟨rfl, h4⟩; have H4 := Lib.hid h4; clear h4 HS)
    | (go_at_call 8; with_reducible refine (HN2.out _ _ _ _ _ H4.out).mono ?_; rintro e' w5 ⟨rfl, h5⟩; have H5 := Lib.hid h5; clear h5 H4))
  go_region
  have HS := Lib.hid (H5.out.below (Below.refl _ _).drew)
  clear H5
  go_wp2_with (first
    | (go_at_call 9; refine (HP3.out _ _ _ _ _ HS.out).mono ?_; rintro e' w6 ⟨rfl, h6⟩; have H6 := Lib.hid h6; clear h6 HS)
    | (go_at_call 10; refine (HP4.out _ _ _ _ _ H6.out).mono ?_; rintro e' w7 ⟨rfl, h7⟩; have HS := Lib.hid h7; clear h7 H6))
  clear H1 HR HBg HT HM HN1 HN2 HP3 HP4
  generalize w2.heap.size = B at *
  go_loopw [19] (fun i wr => ∃ j : Nat, j ≤ S ∧ i = .int .i64 (j : Int) ∧ Hid (LwS W H L B (fun k => k < B) s H L V wr)) (fun i _ => S - (intOf i).toNat)
  case atStart => exact ⟨0, Nat.zero_le _, rfl, HS⟩
  case round =>
    clear HS
    obtain ⟨j, hj, rfl, HS⟩ := hrel
    have hjS : (j : Int) ≤ (S : Int) := by omega
    by_cases hlt : j < S
    · have hi1 : (j : Int) < (S : Int) := by omega
      have HLa1 := Lib.hid (HLa.out _ _ _ _ _ j hi1 HS.out)
      have HLb1 := Lib.hid (fun u => HLb.out (H : Int) (L : Int) B u s j hi1)
      by_cases e : j = K
      · have hb1 : ((j : Int) == (K : Int)) = true := by rw [e]; exact beq_self_eq_true _
        rw [if_pos e] at HLa1
        subst e
        go_wp2_with (first
          | (go_at_call 11; with_reducible refine HLa1.out.mono ?_; rintro e' w8 ⟨rfl, h8⟩; have H8 := Lib.hid h8; clear h8)
          | (go_at_call 11; with_reducible refine (HLb1.out _ H8.out).mono ?_; rintro e' w9 ⟨rfl, h9⟩; have H9 := Lib.hid h9; clear h9))
        exact ⟨⟨j + 1, by omega, by go_num, H9⟩, by simp [intOf]; omega⟩
      · have hb1 : ((j : Int) == (K : Int)) = false := beq_eq_false_iff_ne.2 (by omega)
        have hb2 : ¬ (j : Int) = (K : Int) := by omega
        rw [if_neg e] at HLa1
        go_wp2_with (first
          | (go_at_call 11; with_reducible refine HLa1.out.mono ?_; rintro e' w8 ⟨rfl, h8⟩; have H8 := Lib.hid h8; clear h8)
          | (go_at_call 11; with_reducible refine (HLb1.out _ H8.out).mono ?_; rintro e' w9 ⟨rfl, h9⟩; have H9 := Lib.hid h9; clear h9))
        exact ⟨⟨j + 1, by omega, by go_num, H9⟩, by simp [intOf]; omega⟩
    · obtain rfl : j = S := by omega
      have hnl : ¬ (j : Int) < (j : Int) := by omega
      clear HLa HLb hlt hj hjS
      generalize wr = wo1 at *
      go_wp2_with fail
      go_loopw [24] (fun i wr => ∃ k : Nat, k ≤ X ∧ i = .int .i64 (k : Int) ∧ Hid (LwS W H L B (fun k => k < B) s H L V wr)) (fun i _ => X - (intOf i).toNat)
      case atStart => exact ⟨0, Nat.zero_le _, rfl, HS⟩
      case round =>
        clear HS
        obtain ⟨k, hk, rfl, HS⟩ := hrel
        have hkX : (k : Int) ≤ (X : Int) := by omega
        by_cases hlt : k < X
        · have hi1 : (k : Int) < (X : Int) := by omega
          have HWa1 := Lib.hid (HWa.out _ _ _ _ _ k hi1 HS.out)
          have HWb1 := Lib.hid (fun u => HWb.out (H : Int) (L : Int) B u s k hi1)
          by_cases e : k = M
          · have hb1 : ((k : Int) == (M : Int)) = true := by rw [e]; exact beq_self_eq_true _
            simp only [if_pos e] at HWb1
            subst e
            go_wp2_with (first
              | (go_at_call 12; with_reducible refine HWa1.out.mono ?_; rintro e' w8 ⟨rfl, h8⟩; have H8 := Lib.hid h8; clear h8)
              | (go_at_call 12; with_reducible refine (HWb1.out _ H8.out).mono ?_; rintro e' w9 ⟨rfl, h9⟩; have H9 := Lib.hid h9; clear h9))
            exact ⟨⟨k + 1, by omega, by go_num, H9⟩, by simp [intOf]; omega⟩
          · have hb1 : ((k : Int) == (M : Int)) = false := beq_eq_false_iff_ne.2 (by omega)
            have hb2 : ¬ (k : Int) = (M : Int) := by omega
            simp only [if_neg e] at HWb1
            go_wp2_with (first
              | (go_at_call 12; with_reducible refine HWa1.out.mono ?_; rintro e' w8 ⟨rfl, h8⟩; have H8 := Lib.hid h8; clear h8)
              | (go_at_call 12; with_reducible refine (HWb1.out _ H8.out).mono ?_; rintro e' w9 ⟨rfl, h9⟩; have H9 := Lib.hid h9; clear h9))
            exact ⟨⟨k + 1, by omega, by go_num, H9⟩, by simp [intOf]; omega⟩
        · obtain rfl : k = X := by omega
          have hnl2 : ¬ (k : Int) < (k : Int) := by omega
          clear HWa HWb hlt hk hkX
          go_wp2_with (first
            | (go_at_call 11; refine (HE1.out _ _ _ _ _ HS.out).mono ?_; rintro e' w8 ⟨rfl, h8⟩; have H8 := Lib.hid h8; clear h8)
            | (go_at_call 12; refine (HE2.out _ _ _ _ _ H8.out).mono ?_; rintro e' w9 ⟨rfl, h9⟩; have H9 := Lib.hid h9; clear h9)
            | (go_at_call 9; refine (HE3.out _ _ _ _ _ H9.out).mono ?_; rintro e' wa ⟨rfl, ha⟩; have HA := Lib.hid ha; clear ha)
            | (go_at_call 10; refine (HE4.out _ _ _ _ _ HA.out).mono ?_; rintro e' wb ⟨rfl, hb⟩; have HB := Lib.hid hb; clear hb))
          go_ret
          exact ⟨rfl, HB.out.b⟩
theorem Keep_walk (ht : TyOk W.heap.size W) (h l sl wo i v : Int) : Calls Tryz.prog 3 #[.agg #[.int .i64 h, .int .i64 l], .int .i64 sl, .int .i64 wo, .int .i64 i, .int .i64 v] W fun e w' => e = .returned (.bool true) ∧ Below W.heap.size W w' := by
  by_cases c : geOk h l = true ∧ (1 ≤ sl ∧ sl ≤ 15) ∧ (1 ≤ wo ∧ wo ≤ 30) ∧ 2 + 2 * sl + 2 * wo ≤ h ∧ (0 ≤ v ∧ v < 4294967296)
  · obtain ⟨c0, ⟨c1, c2⟩, ⟨c3, c4⟩, c5, c6, c7⟩ := c
    have hq := geOk_yes c0
    obtain ⟨H, rfl⟩ := Int.eq_ofNat_of_zero_le (show 0 ≤ h by omega)
    obtain ⟨L, rfl⟩ := Int.eq_ofNat_of_zero_le (show 0 ≤ l by omega)
    obtain ⟨S, rfl⟩ := Int.eq_ofNat_of_zero_le (show 0 ≤ sl by omega)
    obtain ⟨X, rfl⟩ := Int.eq_ofNat_of_zero_le (show 0 ≤ wo by omega)
    exact Keep_yes ht H L S X i v c0 (by omega) (by omega) (by omega) (by omega) c5 c6 c7
  · exact Keep_no ht h l sl wo i v c
end
end Go.Proofs.YtjengjmhjccnoaaGreatDoor
