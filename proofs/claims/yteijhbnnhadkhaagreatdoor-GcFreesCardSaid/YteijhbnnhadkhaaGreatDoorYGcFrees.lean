/- GcFrees: the walk. -/
import Derived.Test.YteijhbnnhadkhaaGreatDoorYGcG
set_option linter.unusedVariables false
set_option linter.unusedSimpArgs false
namespace Go.Proofs.YteijhbnnhadkhaaGreatDoor
open Go.RowKit Sec
open Go.Proofs.YteijhbnnhadkhaaGreatDoor.Bk

section
variable {W : World}
set_option maxRecDepth 100000 in
set_option maxHeartbeats 4000000 in
theorem Free_no (ht : TyOk W.heap.size W) (h l wo : Int) (no : ¬ (geOk h l = true ∧ 1 ≤ wo ∧ wo ≤ 30 ∧ 8 * (wo + 1) ≤ h)) : Calls Tryz.prog 8 #[.agg #[.int .i64 h, .int .i64 l], .int .i64 wo] W fun e w' => e = .returned (.bool true) ∧ Below W.heap.size W w' := by
  have HT := Lib.hid ht
  have HR := Lib.hid (fun u => rgeo_is h l u)
  have cases : geOk h l = false ∨ (geOk h l = true ∧ (wo < 1 ∨ (1 ≤ wo ∧ (30 < wo ∨ (wo ≤ 30 ∧ h < 8 * (wo + 1)))))) := by
    cases q : geOk h l
    · exact .inl rfl
    · have no2 : ¬ (1 ≤ wo ∧ wo ≤ 30 ∧ 8 * (wo + 1) ≤ h) := fun x => no ⟨q, x⟩
      exact .inr ⟨rfl, by omega⟩
  clear no ht
  generalize geOk h l = ok at *
  rcases cases with rfl | ⟨rfl, c⟩
  rotate_left
  rcases c with c | ⟨c1, c⟩
  rotate_left
  rcases c with c | ⟨c2, c⟩
  all_goals
    go_enter Tryz.func8, Tryz.ntmps8
    go_wp2_with (first
      | (go_at_call 11; refine (HR.out _).mono ?_; rintro e' w1 ⟨rfl, b1⟩; have H1 := Lib.hid (GBox.laid b1); obtain ⟨_, c0, c1⟩ := H1.out.1; clear b1)
      | (go_at_call 12; refine (gcalive_is ((HT.out.below H1.out.2).more H1.out.2.size)).mono ?_; rintro e' w2 ⟨rfl, b2⟩; have H2 := Lib.hid (geo_next H1.out.2 b2); clear b2))
    go_ret
    exact ⟨rfl, H2.out⟩
set_option maxRecDepth 100000 in
set_option maxHeartbeats 8000000 in
theorem Free_yes (ht : TyOk W.heap.size W) (H L : Nat) (wo : Int) (hg : geOk H L = true) (hw1 : 1 ≤ wo) (hw30 : wo ≤ 30) (hH : 8 * (wo + 1) ≤ (H : Int)) : Calls Tryz.prog 8 #[.agg #[.int .i64 (H : Int), .int .i64 (L : Int)], .int .i64 wo] W fun e w' => e = .returned (.bool true) ∧ Below W.heap.size W w' := by
  have hge := geOk_yes hg
  have HT := Lib.hid ht
  have HR := Lib.hid (fun u => rgeo_is H L u)
  rw [hg] at HR
  have HBg : Hid (∀ u, TyOk u.heap.size u → Calls Tryz.prog 48 #[.agg #[.int .i64 (H : Int), .int .i64 (L : Int)]] u fun r w' => ∃ s p, r = .returned (.tuple #[.pointer (some ⟨p, 0, none⟩), .pointer (some ⟨s, 0, none⟩)]) ∧ St u.heap.size (fun b => b < u.heap.size) w' s H L (freshC H) ∧ Below u.heap.size u w') := Lib.hid (fun u x => Begin_st x H L (by omega))
  have sh : shOk 0 wo = true := decide_eq_true (by omega)
  obtain ⟨z, hz⟩ := Int.eq_ofNat_of_zero_le (show 0 ≤ 1 + wo by omega)
  have hz1 : 1 ≤ z := by omega
  have hz8 : 8 * z ≤ H := by omega
  have HF0 := Lib.hid (Frs.start hg z wo)
  have HNw : Hid (∀ k V T, Frs H L z wo k V T → k < 8 → ∀ B G u s, St B G u s H L V → Calls Tryz.prog 25 #[.pointer (some ⟨s, 0, none⟩), .int .i64 0, .int .i64 wo] u fun r w' => r = .returned (.tuple #[.int .i64 ((16 + k * z : Nat) : Int), .int .i64 0]) ∧ St B G w' s H L (newW H L V 0 wo) ∧ Below B u w' ∧ KeptG G u w') := Lib.hid (fun k V T f hk B G u s x => by
    obtain ⟨q1, q2, _⟩ := f.step hk hz sh hz8
    have := anew_st x 0 wo
    rwa [q1, q2] at this)
  have HEv : Hid (∀ k V T, Frs H L z wo k V T → k < 8 → k % 2 = 0 → Frs H L z wo (k + 1) (srW H L (newW H L V 0 wo) (k : Int) ((16 + k * z : Nat) : Int)) (T ++ [((16 + k * z : Nat) : Int)]) ∧ ∀ B G u s, St B G u s H L (newW H L V 0 wo) → Calls Tryz.prog 27 #[.pointer (some ⟨s, 0, none⟩), .int .i64 (k : Int), .int .i64 ((16 + k * z : Nat) : Int)] u fun r w' => r = .returned (.int .i64 0) ∧ St B G w' s H L (srW H L (newW H L V 0 wo) (k : Int) ((16 + k * z : Nat) : Int)) ∧ Below B u w' ∧ KeptG G u w') := Lib.hid (fun k V T f hk he => by
    obtain ⟨_, _, q3, _⟩ := f.step hk hz sh hz8
    obtain ⟨q4, q5⟩ := q3 he
    refine ⟨q5, fun B G u s x => ?_⟩
    have := fSetRoot_is x (k : Int) ((16 + k * z : Nat) : Int)
    rwa [q4] at this)
  have HOd : Hid (∀ k V T, Frs H L z wo k V T → k < 8 → k % 2 ≠ 0 → Frs H L z wo (k + 1) (newW H L V 0 wo) (T ++ [((16 + k * z : Nat) : Int)])) := Lib.hid (fun k V T f hk he => (f.step hk hz sh hz8).2.2.2 he)
  have HAl : Hid (∀ V T, Frs H L z wo 8 V T → ∃ V2, Mor H L z 0 V2 ∧ ∀ B G u s, St B G u s H L V → Calls Tryz.prog 21 #[.pointer (some ⟨s, 0, none⟩), .slice none 0 0] u fun r w' => ∃ v, r = .returned (.tuple #[v, .int .i64 0]) ∧ St B G w' s H L V2 ∧ Below B u w' ∧ KeptG G u w') := Lib.hid (fun V T f => by
    obtain ⟨V2, T2, q1, q2, q3, q4⟩ := f.all hz sh
    refine ⟨V2, ⟨⟨T2, _, q2⟩, q3, by rw [q4]⟩, fun B G u s x => ?_⟩
    have := gAll_off x none [] 0 (Lent.nil _ _ _) (fun _ => rfl) (by rw [f.o.f.off]; decide)
    rw [q1] at this
    exact this.mono fun r w' ⟨v, h1, h2, h3, h4, h5⟩ => ⟨v, h1, h2.mono (fun k q => .inl q), h3, h4⟩)
  have HUs : Hid (∀ V, Mor H L z 0 V → ∀ B G u s, St B G u s H L V → Calls Tryz.prog 39 #[.pointer (some ⟨s, 0, none⟩)] u fun r w' => r = .returned (.int .i64 (4 * (z : Int))) ∧ Below u.heap.size u w') := Lib.hid (fun V f B G u s x => by
    obtain ⟨⟨T, Z, q⟩, q2, q3⟩ := f
    have := spused_st x
    rw [q.gi.ok, if_pos rfl, q2, q3, show ((16 + H + (4 + 0) * z : Nat) : Int) - (16 + 1 * (H : Int)) = 4 * (z : Int) by omega] at this
    exact this)
  have HMy : Hid (∀ n V, Mor H L z n V → (4 + n + 1) * z ≤ H → Mor H L z (n + 1) (newW H L V 0 wo) ∧ ∀ B G u s, St B G u s H L V → Calls Tryz.prog 25 #[.pointer (some ⟨s, 0, none⟩), .int .i64 0, .int .i64 wo] u fun r w' => (∃ a, r = .returned (.tuple #[.int .i64 a, .int .i64 0])) ∧ St B G w' s H L (newW H L V 0 wo) ∧ Below B u w' ∧ KeptG G u w') := Lib.hid (fun n V f room => by
    obtain ⟨q1, q2⟩ := (f.step hz sh).1 room
    refine ⟨q2, fun B G u s x => ?_⟩
    have := anew_st x 0 wo
    rw [q1] at this
    exact this.mono fun r w' ⟨h1, h2⟩ => ⟨⟨_, h1⟩, h2⟩)
  have HMn : Hid (∀ n V, Mor H L z n V → ¬ (4 + n + 1) * z ≤ H → ∀ B G u s, St B G u s H L V → Calls Tryz.prog 25 #[.pointer (some ⟨s, 0, none⟩), .int .i64 0, .int .i64 wo] u fun r w' => (∃ a, r = .returned (.tuple #[.int .i64 a, .int .i64 6])) ∧ St B G w' s H L V ∧ Below B u w' ∧ KeptG G u w') := Lib.hid (fun n V f room B G u s x => by
    obtain ⟨q1, q2⟩ := (f.step hz sh).2 room
    have := anew_st x 0 wo
    rw [q1, q2] at this
    exact this.mono fun r w' ⟨h1, h2⟩ => ⟨⟨_, h1⟩, h2⟩)
  have HDv : Hid (∀ n, (4 + n) * z ≤ H → ¬ (4 + n + 1) * z ≤ H → ((H : Int) - 4 * (z : Int)).tdiv (z : Int) = (n : Int)) := Lib.hid (fun n => mor_div hz1)
  have hN : Hid (wo + 1 = (z : Int)) := Lib.hid (by omega)
  have HM := Lib.hid (GBox.made W (H : Int) (L : Int) 23)
  have hHi : (H : Int) ≤ 400 := by omega
  have hz31 : (z : Int) ≤ 31 := by omega
  have hz8i : ¬ ((H : Int) < 8 * (z : Int)) := by omega
  clear sh ht hg hge hz hH
  have hsx : wo + 1 = (z : Int) := hN.out
  go_enter Tryz.func8, Tryz.ntmps8
  go_wp2_with (first
    | (go_at_call 11; refine (HR.out _).mono ?_; rintro e' w1 ⟨rfl, b1⟩; have H1 := Lib.hid (GBox.laid b1); obtain ⟨_, c0, c1⟩ := H1.out.1; clear b1)
    | (go_at_call 12; refine (gcalive_is ((HT.out.below H1.out.2).more H1.out.2.size)).mono ?_; rintro e' w2 ⟨rfl, b2⟩; replace H1 := Lib.hid (And.intro (H1.out.1.below b2) (geo_next H1.out.2 b2)); clear b2 c0 c1; obtain ⟨_, c0, c1⟩ := H1.out.1)
    | (go_at_call 48; refine (HBg.out _ ((HT.out.below H1.out.2).more H1.out.2.size)).mono ?_; rintro e' w3 ⟨s, p, rfl, h3, b3⟩; have HS := Lib.hid (LwS.start H1.out.1 H1.out.2 h3 b3); clear h3 b3 c0 c1))
  clear H1 HR HBg HT HM
  generalize w2.heap.size = B at *
  go_loopw [7] (fun i wr => ∃ (k : Nat) (V T : List Int), k ≤ 8 ∧ i = .int .i64 (k : Int) ∧ Hid (Frs H L z wo k V T) ∧ Hid (LwS W H L B (fun k => k < B) s H L V wr)) (fun i _ => 8 - (intOf i).toNat)
  case atStart => exact ⟨0, freshC H, [], by omega, rfl, HF0, HS⟩
  case round =>
    clear HS HF0
    obtain ⟨k, V, T, hk, rfl, HF, HS⟩ := hrel
    have hki : (k : Int) ≤ 8 := by omega
    by_cases hlt : k < 8
    · have hk1 : (k : Int) < 8 := by omega
      have HN := Lib.hid (HNw.out k V T HF.out hlt)
      by_cases he : k % 2 = 0
      · have hm : (k : Int).tmod 2 = 0 := by rw [Int.tmod_eq_emod_of_nonneg (by omega)]; omega
        obtain ⟨F2, R2⟩ := HEv.out k V T HF.out hlt he
        have HF2 := Lib.hid F2
        have HSr := Lib.hid R2
        clear F2 R2 HNw HEv HOd
        generalize ((16 + k * z : Nat) : Int) = at_ at *
        generalize newW H L V 0 wo = V1 at *
        generalize srW H L V1 (k : Int) at_ = V2 at *
        go_wp2_with (first
          | (go_at_call 25; refine (HN.out _ _ _ _ HS.out.s).mono ?_; rintro e w4 ⟨rfl, h4, b4, k4⟩; replace HS := Lib.hid (HS.out.set h4 b4 k4); clear h4 b4 k4)
          | (go_at_call 27; refine (HSr.out _ _ _ _ HS.out.s).mono ?_; rintro e w5 ⟨rfl, h5, b5, k5⟩; replace HS := Lib.hid (HS.out.set h5 b5 k5); clear h5 b5 k5))
        exact ⟨⟨k + 1, V2, _, by omega, by go_num, HF2, HS⟩, by simp [intOf]; omega⟩
      · have hm : (k : Int).tmod 2 = 1 := by rw [Int.tmod_eq_emod_of_nonneg (by omega)]; omega
        have HF2 := Lib.hid (HOd.out k V T HF.out hlt he)
        clear HNw HEv HOd
        generalize ((16 + k * z : Nat) : Int) = at_ at *
        generalize newW H L V 0 wo = V1 at *
        go_wp2_with (first
          | (go_at_call 25; refine (HN.out _ _ _ _ HS.out.s).mono ?_; rintro e w4 ⟨rfl, h4, b4, k4⟩; replace HS := Lib.hid (HS.out.set h4 b4 k4); clear h4 b4 k4))
        exact ⟨⟨k + 1, V1, _, by omega, by go_num, HF2, HS⟩, by simp [intOf]; omega⟩
    · obtain rfl : k = 8 := by omega
      obtain ⟨V2, M2, A2⟩ := HAl.out V T HF.out
      have HAll := Lib.hid A2
      have HMo := Lib.hid M2
      have HUse := Lib.hid (HUs.out V2 M2)
      clear HNw HEv HOd HAl HUs A2 M2 HF
      go_wp2_with (first
        | (go_at_call 21; refine (HAll.out _ _ _ _ HS.out.s).mono ?_; rintro e w4 ⟨v4, rfl, h4, b4, k4⟩; replace HS := Lib.hid (HS.out.set h4 b4 k4); clear h4 b4 k4)
        | (go_at_call 39; refine (HUse.out _ _ _ _ HS.out.s).mono ?_; rintro e w5 ⟨rfl, b5⟩; replace HS := Lib.hid (HS.out.below b5); clear b5))
      clear HAll HUse
      go_loopw [12] (fun i wr => ∃ (n : Nat) (V : List Int), (4 + n) * z ≤ H ∧ i = .int .i64 (n : Int) ∧ Hid (Mor H L z n V) ∧ Hid (LwS W H L B (fun k => k < B) s H L V wr)) (fun i _ => H - (intOf i).toNat)
      case atStart => exact ⟨0, V2, by omega, rfl, HMo, HS⟩
      case round =>
        clear HS HMo
        obtain ⟨n, V, hn, rfl, HF, HS⟩ := hrel
        have hnH : n ≤ H := Nat.le_trans (Nat.le_add_left n 4) (Nat.le_trans (Nat.le_mul_of_pos_right (4 + n) hz1) hn)
        have hni : (n : Int) ≤ (H : Int) := by omega
        have c0 := HS.out.g.c0
        by_cases room : (4 + n + 1) * z ≤ H
        · have hn1 : n + 1 ≤ H := by
            have := Nat.le_mul_of_pos_right (4 + n + 1) hz1
            omega
          obtain ⟨F2, N2⟩ := HMy.out n V HF.out room
          have HF2 := Lib.hid F2
          have HNw := Lib.hid N2
          clear F2 N2
          go_wp2_with (go_at_call 25; refine (HNw.out _ _ _ _ HS.out.s).mono ?_; rintro e w4 ⟨⟨a4, rfl⟩, h4, b4, k4⟩; replace HS := Lib.hid (HS.out.set h4 b4 k4); clear h4 b4 k4 c0)
          exact ⟨⟨n + 1, _, room, by go_num, HF2, HS⟩, by simp [intOf]; omega⟩
        · have HNo := Lib.hid (HMn.out n V HF.out room)
          have hdv := HDv.out n hn room
          have hzne : ¬ ((z : Int) = 0) := by omega
          clear HMy HMn
          go_wp2_with (go_at_call 25; refine (HNo.out _ _ _ _ HS.out.s).mono ?_; rintro e w4 ⟨⟨a4, rfl⟩, h4, b4, k4⟩; replace HS := Lib.hid (HS.out.set h4 b4 k4); clear h4 b4 k4 c0; have c0 := HS.out.g.c0)
          go_ret
          exact ⟨rfl, HS.out.b⟩
theorem Free_walk (ht : TyOk W.heap.size W) (h l wo : Int) : Calls Tryz.prog 8 #[.agg #[.int .i64 h, .int .i64 l], .int .i64 wo] W fun e w' => e = .returned (.bool true) ∧ Below W.heap.size W w' := by
  by_cases c : geOk h l = true ∧ 1 ≤ wo ∧ wo ≤ 30 ∧ 8 * (wo + 1) ≤ h
  · obtain ⟨c0, c1, c2, c3⟩ := c
    have hq := geOk_yes c0
    obtain ⟨H, rfl⟩ := Int.eq_ofNat_of_zero_le (show 0 ≤ h by omega)
    obtain ⟨L, rfl⟩ := Int.eq_ofNat_of_zero_le (show 0 ≤ l by omega)
    exact Free_yes ht H L wo c0 c1 c2 c3
  · exact Free_no ht h l wo c
end
end Go.Proofs.YteijhbnnhadkhaaGreatDoor
