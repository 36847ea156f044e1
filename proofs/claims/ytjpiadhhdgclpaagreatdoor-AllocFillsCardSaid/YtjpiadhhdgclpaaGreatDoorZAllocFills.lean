/- AllocFills: the walk. -/
import Derived.Test.YtjpiadhhdgclpaaGreatDoorZAllocB
import Derived.Test.YtjpiadhhdgclpaaGreatDoorZGeo
set_option linter.unusedVariables false
set_option linter.unusedSimpArgs false
namespace Go.Proofs.YtjpiadhhdgclpaaGreatDoor
open Go.RowKit Sec
open Go.Proofs.YtjpiadhhdgclpaaGreatDoor.Bk

section
variable {W : World}
set_option maxRecDepth 100000 in
set_option maxHeartbeats 4000000 in
theorem Fills_no (ht : TyOk W.heap.size W) (h l sl wo : Int) (no : ¬ (geOk h l = true ∧ (0 ≤ sl ∧ sl ≤ 15) ∧ (0 ≤ wo ∧ wo ≤ 30))) : Calls Tryz.prog 4 #[.agg #[.int .i64 h, .int .i64 l], .int .i64 sl, .int .i64 wo] W fun e w' => e = .returned (.bool true) ∧ Below W.heap.size W w' := by
  have HT := Lib.hid ht
  have HR := Lib.hid (fun u => rgeo_is h l u)
  have cases : geOk h l = false ∨ (geOk h l = true ∧ (sl < 0 ∨ (0 ≤ sl ∧ (15 < sl ∨ (sl ≤ 15 ∧ (wo < 0 ∨ (0 ≤ wo ∧ 30 < wo))))))) := by
    cases q : geOk h l
    · exact .inl rfl
    · have no2 : ¬ ((0 ≤ sl ∧ sl ≤ 15) ∧ (0 ≤ wo ∧ wo ≤ 30)) := fun x => no ⟨q, x⟩
      exact .inr ⟨rfl, by omega⟩
  clear no ht
  generalize geOk h l = ok at *
  rcases cases with rfl | ⟨rfl, c⟩
  rotate_left
  rcases c with c | ⟨c1, c⟩
  rotate_left
  rcases c with c | ⟨c2, c⟩
  rotate_left
  rcases c with c | ⟨c3, c⟩
  all_goals
    go_enter Tryz.func4, Tryz.ntmps4
    go_wp2_with (first
      | (go_at_call 7; refine (HR.out _).mono ?_; rintro e' w1 ⟨rfl, b1⟩; have H1 := Lib.hid (GBox.laid b1); obtain ⟨_, c0, c1⟩ := H1.out.1; clear b1)
      | (go_at_call 8; refine (alalive_is ((HT.out.below H1.out.2).more H1.out.2.size)).mono ?_; rintro e' w2 ⟨rfl, b2⟩; have H2 := Lib.hid (geo_next H1.out.2 b2); clear b2))
    go_ret
    exact ⟨rfl, H2.out⟩
set_option maxRecDepth 100000 in
set_option maxHeartbeats 8000000 in
theorem Fills_yes (ht : TyOk W.heap.size W) (H L : Nat) (sl wo : Int) (hg : geOk H L = true) (hs0 : 0 ≤ sl) (hs1 : sl ≤ 15) (hw0 : 0 ≤ wo) (hw1 : wo ≤ 30) : Calls Tryz.prog 4 #[.agg #[.int .i64 (H : Int), .int .i64 (L : Int)], .int .i64 sl, .int .i64 wo] W fun e w' => e = .returned (.bool true) ∧ Below W.heap.size W w' := by
  have hge := geOk_yes hg
  have HT := Lib.hid ht
  have HR := Lib.hid (fun u => rgeo_is H L u)
  rw [hg] at HR
  have HBg : Hid (∀ u, TyOk u.heap.size u → Calls Tryz.prog 23 #[.agg #[.int .i64 (H : Int), .int .i64 (L : Int)]] u fun r w' => ∃ s p, r = .returned (.tuple #[.pointer (some ⟨p, 0, none⟩), .pointer (some ⟨s, 0, none⟩)]) ∧ St u.heap.size (fun b => b < u.heap.size) w' s H L (freshC H) ∧ Below u.heap.size u w') := Lib.hid (fun u x => Begin_st x H L (by omega))
  have sh : shOk sl wo = true := decide_eq_true (by omega)
  obtain ⟨z, hz⟩ := Int.eq_ofNat_of_zero_le (show 0 ≤ 1 + sl + wo by omega)
  have hz1 : 0 < z := by omega
  have hz46 : (z : Int) ≤ 46 := by omega
  have HYes : Hid (∀ k V, Filled H L z V k → (k + 1) * z ≤ H → Filled H L z (newW H L V sl wo) (k + 1) ∧ ∀ B G u s, St B G u s H L V → Calls Tryz.prog 11 #[.pointer (some ⟨s, 0, none⟩), .int .i64 sl, .int .i64 wo] u fun r w' => r = .returned (.tuple #[.int .i64 (16 + (k : Int) * (z : Int)), .int .i64 0]) ∧ St B G w' s H L (newW H L V sl wo) ∧ Below B u w' ∧ KeptG G u w') := Lib.hid (fun k V f room => by
    obtain ⟨m, f2⟩ := f.step hz sh room
    refine ⟨f2, fun B G u s x => ?_⟩
    have := anew_st x sl wo
    rw [m.ad, m.e, show ((16 + k * z : Nat) : Int) = 16 + (k : Int) * (z : Int) by rw [Int.natCast_add, Int.natCast_mul]; rfl] at this
    exact this)
  have HFull : Hid (∀ k V, Filled H L z V k → ¬ (k + 1) * z ≤ H → ∀ B G u s, St B G u s H L V → Calls Tryz.prog 11 #[.pointer (some ⟨s, 0, none⟩), .int .i64 sl, .int .i64 wo] u fun r w' => r = .returned (.tuple #[.int .i64 0, .int .i64 6]) ∧ St B G w' s H L V ∧ Below B u w' ∧ KeptG G u w') := Lib.hid (fun k V f room B G u s x => by
    have e := f.full hz sh room
    have := anew_st x sl wo
    rw [(new_no (by rw [e]; decide)).1, (new_no (by rw [e]; decide)).2, e] at this
    exact this)
  have HO : Hid (∀ k V, Filled H L z V k → ∀ B G u s, St B G u s H L V → Calls Tryz.prog 14 #[.pointer (some ⟨s, 0, none⟩)] u fun r w' => ∃ a c, r = .returned (.slice a k c) ∧ Below u.heap.size u w') := Lib.hid (fun k V f B G u s x => by
    refine (aobjs_st x).mono fun r w' ⟨v, h1, h2, h3⟩ => ?_
    obtain ⟨a, c, rfl⟩ := owns_slice h3
    rw [f.no] at h1
    exact ⟨a, c, h1, h2⟩)
  have HAll : Hid (∀ V B G u s, St B G u s H L V → Calls Tryz.prog 24 #[.pointer (some ⟨s, 0, none⟩)] u fun r w' => ∃ g c, r = .returned (.slice (some ⟨g, 0, none⟩) (16 + 2 * H) c) ∧ Below u.heap.size u w' ∧ LiesAt w' (some ⟨g, 0, none⟩) (vals V) ∧ u.heap.size ≤ g ∧ g < w'.heap.size ∧ V.length = 16 + 2 * H) := Lib.hid (fun V B G u s x =>
    (st_all x).mono fun r w' ⟨g, c, h1, h2, h3⟩ => ⟨g, c, h1, h2, row_liesK h3, (h3.lt g rfl).1, (h3.lt g rfl).2, x.len⟩)
  have HSm : Hid (∀ V u a a2 c c2, V.length = 16 + 2 * H → LiesAt u a (vals V) → LiesAt u a2 (vals V) → Calls Tryz.prog 18 #[.slice a (16 + 2 * H) c, .slice a2 (16 + 2 * H) c2] u fun e w' => e = .returned (.bool true) ∧ Below u.heap.size u w') := Lib.hid (fun V u a a2 c c2 hl h1 h2 => by
    have := SameInts_is V V a a2 c c2 u h1 h2 (by rw [hl]; unfold maxLen; omega) (by rw [hl]; unfold maxLen; omega) true (by simp)
    rw [hl] at this
    exact this.mono fun e w' ⟨h3, m, h4⟩ => ⟨h3, by rw [h4]; exact bel_drewN (Below.refl _ _) m⟩)
  have HF0 := Lib.hid (Filled.zero hg z)
  have hN : Hid ((1 : Int) + sl + wo = (z : Int)) := Lib.hid hz
  have HM := Lib.hid (GBox.made W (H : Int) (L : Int) 23)
  have hHi : (H : Int) ≤ 400 := by omega
  clear sh ht hg hge hz
  have hsx : (1 : Int) + sl + wo = (z : Int) := hN.out
  go_enter Tryz.func4, Tryz.ntmps4
  go_wp2_with (first
    | (go_at_call 7; refine (HR.out _).mono ?_; rintro e' w1 ⟨rfl, b1⟩; have H1 := Lib.hid (GBox.laid b1); obtain ⟨_, c0, c1⟩ := H1.out.1; clear b1)
    | (go_at_call 8; refine (alalive_is ((HT.out.below H1.out.2).more H1.out.2.size)).mono ?_; rintro e' w2 ⟨rfl, b2⟩; replace H1 := Lib.hid (And.intro (H1.out.1.below b2) (geo_next H1.out.2 b2)); clear b2 c0 c1; obtain ⟨_, c0, c1⟩ := H1.out.1)
    | (go_at_call 23; refine (HBg.out _ ((HT.out.below H1.out.2).more H1.out.2.size)).mono ?_; rintro e' w3 ⟨s, p, rfl, h3, b3⟩; have HS := Lib.hid (LwS.start H1.out.1 H1.out.2 h3 b3); clear h3 b3 c0 c1))
  clear H1 HR HBg HT HM
  generalize w2.heap.size = B at *
  go_loopw [10] (fun i wr => ∃ (k : Nat) (V : List Int), k * z ≤ H ∧ i = .int .i64 (k : Int) ∧ Hid (Filled H L z V k) ∧ Hid (LwS W H L B (fun k => k < B) s H L V wr)) (fun i _ => H - (intOf i).toNat)
  case atStart => exact ⟨0, freshC H, by omega, rfl, HF0, HS⟩
  case round =>
    clear HS HF0
    obtain ⟨k, V, hk, rfl, HF, HS⟩ := hrel
    have hkH : k ≤ H := Nat.le_trans (Nat.le_mul_of_pos_right k hz1) hk
    have hki : (k : Int) ≤ (H : Int) := by omega
    have c0 := HS.out.g.c0
    by_cases room : (k + 1) * z ≤ H
    · have hkz : (k : Int) * (z : Int) ≤ 400 := by
        have : ((k * z : Nat) : Int) ≤ 400 := by omega
        rwa [Int.natCast_mul] at this
      have hkz0 : 0 ≤ (k : Int) * (z : Int) := by
        have : (0 : Int) ≤ ((k * z : Nat) : Int) := by omega
        rwa [Int.natCast_mul] at this
      have hk1 : k + 1 ≤ H := Nat.le_trans (Nat.le_mul_of_pos_right (k + 1) hz1) room
      obtain ⟨F2, HN⟩ := HYes.out k V HF.out room
      have HF2 := Lib.hid F2
      have HNw := Lib.hid HN
      clear F2 HN
      go_wp2_with (go_at_call 11; refine (HNw.out _ _ _ _ HS.out.s).mono ?_; rintro e w4 ⟨rfl, h4, b4, k4⟩; replace HS := Lib.hid (HS.out.set h4 b4 k4); clear h4 b4 k4 c0)
      exact ⟨⟨k + 1, _, room, by go_num, HF2, HS⟩, by simp [intOf]; omega⟩
    · have HNo := Lib.hid (HFull.out k V HF.out room)
      have HOb := Lib.hid (HO.out k V HF.out)
      have hdv : (H : Int).tdiv (z : Int) = (k : Int) := by
        rw [Int.tdiv_eq_ediv_of_nonneg (by omega), ← filled_div hz1 hk room]
      have hzne : ¬ ((z : Int) = 0) := by omega
      clear HYes HFull HO
      go_wp2_with (first
        | (go_at_call 11; refine (HNo.out _ _ _ _ HS.out.s).mono ?_; rintro e w4 ⟨rfl, h4, b4, k4⟩; replace HS := Lib.hid (HS.out.set h4 b4 k4); clear h4 b4 k4 c0)
        | (go_at_call 24; refine (HAll.out _ _ _ _ _ HS.out.s).mono ?_; rintro e w5 ⟨g, c, rfl, b5, l5, m5, n5, v5⟩; have H5 := Lib.hid (And.intro (HS.out.more b5) (And.intro l5 (And.intro m5 (And.intro n5 v5)))); clear b5 l5 m5 n5 v5; replace HS := True.intro)
        | (go_at_call 11; refine (HNo.out _ _ _ _ H5.out.1.s).mono ?_; rintro e w6 ⟨rfl, h6, b6, k6⟩; have H6 := Lib.hid (And.intro (H5.out.1.set h6 b6 k6) (And.intro (H5.out.2.1.of_blocks b6.size (fun b e => by obtain rfl := Option.some.inj e; exact k6 _ (.inr ⟨H5.out.2.2.1, H5.out.2.2.2.1⟩))) H5.out.2.2.2.2)); have c0 := H6.out.1.g.c0; clear h6 b6 k6)
        | (go_at_call 24; refine (HAll.out _ _ _ _ _ H6.out.1.s).mono ?_; rintro e w7 ⟨g7, c7, rfl, b7, l7, _, _, _⟩; have H7 := Lib.hid (And.intro (H6.out.1.below b7) (And.intro (H6.out.2.1.below b7) l7)); clear b7 l7)
        | (go_at_call 18; refine (HSm.out _ _ _ _ _ _ H6.out.2.2 H7.out.2.2 H7.out.2.1).mono ?_; rintro e w8 ⟨rfl, b8⟩; have H8 := Lib.hid (H7.out.1.below b8); clear b8)
        | (go_at_call 14; refine (HOb.out _ _ _ _ H8.out.s).mono ?_; rintro e w9 ⟨a9, c9, rfl, b9⟩; have H9 := Lib.hid (H8.out.below b9); clear b9))
      go_ret
      exact ⟨rfl, H9.out.b⟩
theorem Fills_walk (ht : TyOk W.heap.size W) (h l sl wo : Int) : Calls Tryz.prog 4 #[.agg #[.int .i64 h, .int .i64 l], .int .i64 sl, .int .i64 wo] W fun e w' => e = .returned (.bool true) ∧ Below W.heap.size W w' := by
  by_cases c : geOk h l = true ∧ (0 ≤ sl ∧ sl ≤ 15) ∧ (0 ≤ wo ∧ wo ≤ 30)
  · obtain ⟨c0, ⟨c4, c5⟩, c6, c7⟩ := c
    have hq := geOk_yes c0
    obtain ⟨H, rfl⟩ := Int.eq_ofNat_of_zero_le (show 0 ≤ h by omega)
    obtain ⟨L, rfl⟩ := Int.eq_ofNat_of_zero_le (show 0 ≤ l by omega)
    exact Fills_yes ht H L sl wo c0 c4 c5 c6 c7
  · exact Fills_no ht h l sl wo c
end
end Go.Proofs.YtjpiadhhdgclpaaGreatDoor
