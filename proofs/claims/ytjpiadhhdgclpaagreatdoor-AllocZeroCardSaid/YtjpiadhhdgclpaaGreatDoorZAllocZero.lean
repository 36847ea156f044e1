/- AllocZero: the walk. -/
import Derived.Test.YtjpiadhhdgclpaaGreatDoorZAllocB
import Derived.Test.YtjpiadhhdgclpaaGreatDoorZGeo
set_option linter.unusedVariables false
set_option linter.unusedSimpArgs false
namespace Go.Proofs.YtjpiadhhdgclpaaGreatDoor
open Go.RowKit Sec
open Go.Proofs.YtjpiadhhdgclpaaGreatDoor.Bk

section
variable {W : World}
set_option maxRecDepth 100000 in
set_option maxHeartbeats 4000000 in
theorem Zero_no (ht : TyOk W.heap.size W) (h l sl wo v : Int) (no : ¬ (geOk h l = true ∧ h ≤ 100 ∧ (0 ≤ v ∧ v < 4294967296) ∧ (0 ≤ sl ∧ sl ≤ 15) ∧ (0 ≤ wo ∧ wo ≤ 30) ∧ 1 + sl + wo ≤ h)) : Calls Tryz.prog 5 #[.agg #[.int .i64 h, .int .i64 l], .int .i64 sl, .int .i64 wo, .int .i64 v] W fun e w' => e = .returned (.bool true) ∧ Below W.heap.size W w' := by
  have HT := Lib.hid ht
  have HR := Lib.hid (fun u => rgeo_is h l u)
  have cases : geOk h l = false ∨ (geOk h l = true ∧ (100 < h ∨ (h ≤ 100 ∧ (v < 0 ∨ (0 ≤ v ∧ (4294967296 ≤ v ∨ (v < 4294967296 ∧ (sl < 0 ∨ (0 ≤ sl ∧ (15 < sl ∨ (sl ≤ 15 ∧ (wo < 0 ∨ (0 ≤ wo ∧ (30 < wo ∨ (wo ≤ 30 ∧ h < 1 + sl + wo))))))))))))))) := by
    cases q : geOk h l
    · exact .inl rfl
    · have no2 : ¬ (h ≤ 100 ∧ (0 ≤ v ∧ v < 4294967296) ∧ (0 ≤ sl ∧ sl ≤ 15) ∧ (0 ≤ wo ∧ wo ≤ 30) ∧ 1 + sl + wo ≤ h) := fun x => no ⟨q, x⟩
      exact .inr ⟨rfl, by omega⟩
  clear no ht
  generalize geOk h l = ok at *
  rcases cases with rfl | ⟨rfl, c⟩
  rotate_left
  rcases c with c | ⟨c1, c⟩
  rotate_left
  rcases c with c | ⟨c2, c⟩
  rotate_left
  rcases c with c | ⟨c3, c⟩
  rotate_left
  rcases c with c | ⟨c4, c⟩
  rotate_left
  rcases c with c | ⟨c5, c⟩
  rotate_left
  rcases c with c | ⟨c6, c⟩
  rotate_left
  rcases c with c | ⟨c7, c⟩
  all_goals
    go_enter Tryz.func5, Tryz.ntmps5
    go_wp2_with (first
      | (go_at_call 7; refine (HR.out _).mono ?_; rintro e' w1 ⟨rfl, b1⟩; have H1 := Lib.hid (GBox.laid b1); obtain ⟨_, c0, c1⟩ := H1.out.1; clear b1)
      | (go_at_call 8; refine (alalive_is ((HT.out.below H1.out.2).more H1.out.2.size)).mono ?_; rintro e' w2 ⟨rfl, b2⟩; have H2 := Lib.hid (geo_next H1.out.2 b2); clear b2))
    go_ret
    exact ⟨rfl, H2.out⟩
set_option maxRecDepth 100000 in
set_option maxHeartbeats 8000000 in
theorem Zero_yes (ht : TyOk W.heap.size W) (H L : Nat) (sl wo v : Int) (hg : geOk H L = true) (hH : H ≤ 100) (hv0 : 0 ≤ v) (hv1 : v < 4294967296) (hs0 : 0 ≤ sl) (hs1 : sl ≤ 15) (hw0 : 0 ≤ wo) (hw1 : wo ≤ 30) (hz : 1 + sl + wo ≤ H) : Calls Tryz.prog 5 #[.agg #[.int .i64 (H : Int), .int .i64 (L : Int)], .int .i64 sl, .int .i64 wo, .int .i64 v] W fun e w' => e = .returned (.bool true) ∧ Below W.heap.size W w' := by
  have hge := geOk_yes hg
  have HT := Lib.hid ht
  have HR := Lib.hid (fun u => rgeo_is H L u)
  rw [hg] at HR
  have HBg : Hid (∀ u, TyOk u.heap.size u → Calls Tryz.prog 23 #[.agg #[.int .i64 (H : Int), .int .i64 (L : Int)]] u fun r w' => ∃ s p, r = .returned (.tuple #[.pointer (some ⟨p, 0, none⟩), .pointer (some ⟨s, 0, none⟩)]) ∧ St u.heap.size (fun b => b < u.heap.size) w' s H L (freshC H) ∧ Below u.heap.size u w') := Lib.hid (fun u x => Begin_st x H L (by omega))
  have sh : shOk sl wo = true := decide_eq_true (by omega)
  obtain ⟨n, hn⟩ := Int.eq_ofNat_of_zero_le (show 0 ≤ 1 + sl + wo by omega)
  obtain ⟨m, ob, hat⟩ := vfill_new hg sh hn (by omega) v
  have HSet : Hid (∀ B G u s V (j : Nat), j < H → St B G u s H L V → Calls Tryz.prog 25 #[.pointer (some ⟨s, 0, none⟩), .int .i64 (16 + (j : Int)), .int .i64 v] u fun r w' => ∃ t, r = .returned (.bool t) ∧ St B G w' s H L (V.set (16 + j) v) ∧ Below B u w' ∧ KeptG G u w') := Lib.hid (fun B G u s V j hj x => by
    have := st_set x (16 + (j : Int)) v
    rw [setW_in (i := 16 + j) (by omega) (by omega) hv0 hv1] at this
    exact this.mono fun r w' ⟨q1, q2⟩ => ⟨_, q1, q2⟩)
  have HNew : Hid (∀ B G u s, St B G u s H L (vfill (freshC H) 16 v H) → Calls Tryz.prog 11 #[.pointer (some ⟨s, 0, none⟩), .int .i64 sl, .int .i64 wo] u fun r w' => r = .returned (.tuple #[.int .i64 16, .int .i64 0]) ∧ St B G w' s H L (newW H L (vfill (freshC H) 16 v H) sl wo) ∧ Below B u w' ∧ KeptG G u w') := Lib.hid (fun B G u s x => by
    have := anew_st x sl wo
    rwa [m.ad, m.e] at this)
  have hd := m.hd
  have hzr : ∀ k, 1 ≤ k → k < n → (newW H L (vfill (freshC H) 16 v H) sl wo).getD (16 + k) 0 = 0 := fun k h1 h2 => m.zero (by omega) (by omega)
  obtain ⟨_, p2, p3⟩ := hd_back sh
  generalize hV : newW H L (vfill (freshC H) 16 v H) sl wo = V2 at *
  have HG0 : Hid (∀ B G u s (k : Nat) (c : Int), St B G u s H L V2 → 1 ≤ k → k < n → c = 16 + (k : Int) → Calls Tryz.prog 26 #[.pointer (some ⟨s, 0, none⟩), .int .i64 c] u fun r w' => r = .returned (.int .i64 0) ∧ Below u.heap.size u w') := Lib.hid (fun B G u s k c x h1 h2 h3 => by
    have := st_get x c
    rwa [wk_at x.len (by omega), show c.toNat = 16 + k by omega, hzr k h1 h2] at this)
  have HG1 : Hid (∀ B G u s (c : Int), St B G u s H L V2 → n < H → c = 16 + (n : Int) → Calls Tryz.prog 26 #[.pointer (some ⟨s, 0, none⟩), .int .i64 c] u fun r w' => r = .returned (.int .i64 v) ∧ Below u.heap.size u w') := Lib.hid (fun B G u s c x h1 h3 => by
    have := st_get x c
    rwa [wk_at x.len (by omega), show c.toNat = 16 + n by omega, hat n h1 (Nat.le_refl _)] at this)
  have HSh : Hid (∀ B G u s, St B G u s H L V2 → Calls Tryz.prog 17 #[.pointer (some ⟨s, 0, none⟩), .int .i64 16] u fun r w' => r = .returned (.tuple #[.int .i64 sl, .int .i64 wo, .bool true]) ∧ Below u.heap.size u w') := Lib.hid (fun B G u s x => by
    have := ashape_st x 16
    rw [shAS, shAW, ob, if_pos (List.mem_singleton.2 rfl), if_pos (List.mem_singleton.2 rfl), decide_eq_true (List.mem_singleton.2 rfl), show (16 : Int).toNat = 16 from rfl, hd, p2, p3] at this
    exact this)
  have hN : Hid ((1 : Int) + sl + wo = (n : Int)) := Lib.hid hn
  have HM := Lib.hid (GBox.made W (H : Int) (L : Int) 23)
  have hi0 : ¬ (100 : Int) < (H : Int) := by omega
  have hHi : (H : Int) ≤ 100 := by omega
  have hnH : (n : Int) ≤ (H : Int) := by omega
  have hn46 : (n : Int) ≤ 46 := by omega
  have hn1 : 1 ≤ n := by omega
  have hnl : ¬ ((H : Int) < (n : Int)) := by omega
  clear m ob hat hd hzr p2 p3 sh ht hg hge hV hH hz
  have hsx : (1 : Int) + sl + wo = (n : Int) := hN.out
  go_enter Tryz.func5, Tryz.ntmps5
  go_wp2_with (first
    | (go_at_call 7; refine (HR.out _).mono ?_; rintro e' w1 ⟨rfl, b1⟩; have H1 := Lib.hid (GBox.laid b1); obtain ⟨_, c0, c1⟩ := H1.out.1; clear b1)
    | (go_at_call 8; refine (alalive_is ((HT.out.below H1.out.2).more H1.out.2.size)).mono ?_; rintro e' w2 ⟨rfl, b2⟩; replace H1 := Lib.hid (And.intro (H1.out.1.below b2) (geo_next H1.out.2 b2)); clear b2 c0 c1; obtain ⟨_, c0, c1⟩ := H1.out.1)
    | (go_at_call 23; refine (HBg.out _ ((HT.out.below H1.out.2).more H1.out.2.size)).mono ?_; rintro e' w3 ⟨s, p, rfl, h3, b3⟩; have HS := Lib.hid (LwS.start H1.out.1 H1.out.2 h3 b3); clear h3 b3 c0 c1))
  clear H1 HR HBg HT HM
  generalize w2.heap.size = B at *
  go_loopw [11] (fun i wr => ∃ j : Nat, j ≤ H ∧ i = .int .i64 (j : Int) ∧ Hid (LwS W H L B (fun k => k < B) s H L (vfill (freshC H) 16 v j) wr)) (fun i _ => H - (intOf i).toNat)
  case atStart => exact ⟨0, Nat.zero_le _, rfl, HS⟩
  case round =>
    clear HS
    obtain ⟨j, hj, rfl, HS⟩ := hrel
    have c0 := HS.out.g.c0
    by_cases hlt : j < H
    · have hi1 : (j : Int) < (H : Int) := by omega
      have hj100 : (j : Int) ≤ 100 := by omega
      go_wp2_with (go_at_call 25; refine (HSet.out _ _ _ _ _ j hlt HS.out.s).mono ?_; rintro e w4 ⟨t4, rfl, h4, b4, k4⟩; have HS2 := Lib.hid (HS.out.set h4 b4 k4); clear h4 b4 k4)
      exact ⟨⟨j + 1, by omega, by go_num, HS2⟩, by simp [intOf]; omega⟩
    · obtain rfl : j = H := by omega
      have hnlt : ¬ (j : Int) < (j : Int) := by omega
      clear HSet hlt hj
      go_wp2_with (go_at_call 11; refine (HNew.out _ _ _ _ HS.out.s).mono ?_; rintro e w5 ⟨rfl, h5, b5, k5⟩; replace HS := Lib.hid (HS.out.set h5 b5 k5); clear h5 b5 k5 c0)
      clear HNew
      generalize wr = wo1 at *
      go_loopw [14] (fun i wr => ∃ k : Nat, 1 ≤ k ∧ k ≤ n ∧ i = .int .i64 (k : Int) ∧ Hid (LwS W j L B (fun k => k < B) s j L V2 wr)) (fun i _ => n - (intOf i).toNat)
      case atStart => exact ⟨1, Nat.le_refl _, hn1, rfl, HS⟩
      case round =>
        clear HS
        obtain ⟨k, hk1, hk, rfl, HS⟩ := hrel
        by_cases hlt : k < n
        · have hi1 : (k : Int) < (n : Int) := by omega
          have hk46 : (k : Int) ≤ 46 := by omega
          go_wp2_with (go_at_call 26; refine (HG0.out _ _ _ _ k _ HS.out.s hk1 hlt (by omega)).mono ?_; rintro e w6 ⟨rfl, b6⟩; have HS2 := Lib.hid (HS.out.below b6); clear b6)
          exact ⟨⟨k + 1, by omega, by omega, by go_num, HS2⟩, by simp [intOf]; omega⟩
        · obtain rfl : k = n := by omega
          have hnlt2 : ¬ (k : Int) < (k : Int) := by omega
          have c0 := HS.out.g.c0
          by_cases hfull : k < j
          · have hge1 : ¬ ((j : Int) ≤ (k : Int)) := by omega
            go_wp2_with (first
              | (go_at_call 17; refine (HSh.out _ _ _ _ HS.out.s).mono ?_; rintro e w7 ⟨rfl, b7⟩; replace HS := Lib.hid (HS.out.below b7); clear b7 c0; have c0 := HS.out.g.c0)
              | (go_at_call 26; refine (HG1.out _ _ _ _ _ HS.out.s hfull (by omega)).mono ?_; rintro e w8 ⟨rfl, b8⟩; have HE := Lib.hid (HS.out.below b8); clear b8))
            go_ret
            exact ⟨rfl, HE.out.b⟩
          · have hge1 : ((j : Int) ≤ (k : Int)) := by omega
            go_wp2_with (go_at_call 17; refine (HSh.out _ _ _ _ HS.out.s).mono ?_; rintro e w7 ⟨rfl, b7⟩; replace HS := Lib.hid (HS.out.below b7); clear b7 c0; have c0 := HS.out.g.c0)
            go_ret
            exact ⟨rfl, HS.out.b⟩
theorem Zero_walk (ht : TyOk W.heap.size W) (h l sl wo v : Int) : Calls Tryz.prog 5 #[.agg #[.int .i64 h, .int .i64 l], .int .i64 sl, .int .i64 wo, .int .i64 v] W fun e w' => e = .returned (.bool true) ∧ Below W.heap.size W w' := by
  by_cases c : geOk h l = true ∧ h ≤ 100 ∧ (0 ≤ v ∧ v < 4294967296) ∧ (0 ≤ sl ∧ sl ≤ 15) ∧ (0 ≤ wo ∧ wo ≤ 30) ∧ 1 + sl + wo ≤ h
  · obtain ⟨c0, c1, ⟨c2, c3⟩, ⟨c4, c5⟩, ⟨c6, c7⟩, c8⟩ := c
    have hq := geOk_yes c0
    obtain ⟨H, rfl⟩ := Int.eq_ofNat_of_zero_le (show 0 ≤ h by omega)
    obtain ⟨L, rfl⟩ := Int.eq_ofNat_of_zero_le (show 0 ≤ l by omega)
    exact Zero_yes ht H L sl wo v c0 (by omega) c2 c3 c4 c5 c6 c7 c8
  · exact Zero_no ht h l sl wo v c
end
end Go.Proofs.YtjpiadhhdgclpaaGreatDoor
