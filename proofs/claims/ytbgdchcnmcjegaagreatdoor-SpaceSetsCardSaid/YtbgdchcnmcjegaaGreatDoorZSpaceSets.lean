/- SpaceSets: the walk. -/
import Derived.Test.YtbgdchcnmcjegaaGreatDoorZSpaceLaws
set_option linter.unusedVariables false
set_option linter.unusedSimpArgs false
namespace Go.Proofs.YtbgdchcnmcjegaaGreatDoor
open Go.RowKit Sec
open Go.Proofs.YtbgdchcnmcjegaaGreatDoor.Bk

/-- A geometry's box at g, a control's box at k, a store s beside them: what SpaceSets keeps. -/
def SpT (W : World) (g k : Nat) (h l a b c d : Int) (u : World) : Prop :=
  (u.cell? ⟨g, 0, none⟩ = some (.int .i64 h) ∧ u.cell? ⟨g, 1, none⟩ = some (.int .i64 l) ∧ u.cell? ⟨k, 0, none⟩ = some (.int .i64 a) ∧ u.cell? ⟨k, 1, none⟩ = some (.int .i64 b) ∧ u.cell? ⟨k, 2, none⟩ = some (.int .i64 c) ∧ u.cell? ⟨k, 3, none⟩ = some (.int .i64 d)) ∧ (g < u.heap.size ∧ k < u.heap.size) ∧ Below W.heap.size W u
theorem SpT.below {W u u' : World} {g k : Nat} {h l a b c d : Int} (x : SpT W g k h l a b c d u) (y : Below u.heap.size u u') : SpT W g k h l a b c d u' := by
  obtain ⟨⟨x0, x1, x2, x3, x4, x5⟩, ⟨x6, x7⟩, x8⟩ := x
  have c : ∀ k o, k < u.heap.size → u'.cell? ⟨k, o, none⟩ = u.cell? ⟨k, o, none⟩ := fun k o q => y.cell (p := ⟨k, o, none⟩) q
  exact ⟨⟨(c _ _ x6).trans x0, (c _ _ x6).trans x1, (c _ _ x7).trans x2, (c _ _ x7).trans x3, (c _ _ x7).trans x4, (c _ _ x7).trans x5⟩, ⟨Nat.lt_of_lt_of_le x6 y.size, Nat.lt_of_lt_of_le x7 y.size⟩, geo_next x8 y⟩
theorem SpT.kept {W u u' : World} {B g k : Nat} {G : Nat → Prop} {h l a b c d : Int} (x : SpT W g k h l a b c d u) (y : Below B u u') (hB : W.heap.size ≤ B) (z : KeptG G u u') (hg : G g) (hk : G k) : SpT W g k h l a b c d u' := by
  obtain ⟨⟨x0, x1, x2, x3, x4, x5⟩, ⟨x6, x7⟩, x8⟩ := x
  have c : ∀ k o, G k → u'.cell? ⟨k, o, none⟩ = u.cell? ⟨k, o, none⟩ := fun k o q => z.cell _ q
  exact ⟨⟨(c _ _ hg).trans x0, (c _ _ hg).trans x1, (c _ _ hk).trans x2, (c _ _ hk).trans x3, (c _ _ hk).trans x4, (c _ _ hk).trans x5⟩, ⟨Nat.lt_of_lt_of_le x6 y.size, Nat.lt_of_lt_of_le x7 y.size⟩, x8.trans (y.mono hB)⟩

theorem sets_box {W u : World} {B g s H L : Nat} {G : Nat → Prop} {h l : Int} {C : List Int} (x : GBox u g h l) (y : Below W.heap.size W u) (z : St B G u s H L C) (hg : G g) (a b c d : Int) (t : TypeId) :
    SpT W g u.heap.size h l a b c d (u.alloc (.cells #[.int .i64 a, .int .i64 b, .int .i64 c, .int .i64 d] t)) ∧ St B (fun k => k = g ∨ k = u.heap.size) (u.alloc (.cells #[.int .i64 a, .int .i64 b, .int .i64 c, .int .i64 d] t)) s H L C := by
  have y1 : Below u.heap.size u (u.alloc (.cells #[.int .i64 a, .int .i64 b, .int .i64 c, .int .i64 d] t)) := (Below.refl _ _).alloc (Nat.le_refl _) _
  have m := Row4.made u (.int .i64 a) (.int .i64 b) (.int .i64 c) (.int .i64 d) t
  have x1 := x.below y1
  refine ⟨⟨⟨x1.c0, x1.c1, m.c0, m.c1, m.c2, m.c3⟩, ⟨x1.lt, m.lt⟩, geo_next y y1⟩, (z.more y1).mono fun k q => ?_⟩
  rcases q with rfl | rfl
  · exact .inl hg
  · exact .inr ⟨Nat.le_refl _, m.lt⟩
section
variable {W : World}
set_option maxRecDepth 100000 in
set_option maxHeartbeats 4000000 in
theorem Sets_no (ht : TyOk W.heap.size W) (h l wh us sc : Int) (no : ¬ (geOk h l = true ∧ h ≤ 100 ∧ 0 ≤ wh ∧ wh ≤ 1 ∧ 0 ≤ us ∧ us ≤ h ∧ -1 ≤ sc ∧ sc ≤ us)) : Calls Tryz.prog 4 #[.agg #[.int .i64 h, .int .i64 l], .int .i64 wh, .int .i64 us, .int .i64 sc] W fun e w' => e = .returned (.bool true) ∧ Below W.heap.size W w' := by
  have HT := Lib.hid ht
  have HR := Lib.hid (fun u => rgeo_is h l u)
  have HM := Lib.hid (GBox.made W h l 23)
  have cases : geOk h l = false ∨ (geOk h l = true ∧ (100 < h ∨ (h ≤ 100 ∧ (wh < 0 ∨ (0 ≤ wh ∧ (1 < wh ∨ (wh ≤ 1 ∧ (us < 0 ∨ (0 ≤ us ∧ (h < us ∨ (us ≤ h ∧ (sc < -1 ∨ (-1 ≤ sc ∧ us < sc))))))))))))) := by
    cases q : geOk h l
    · exact .inl rfl
    · have no2 : ¬ (h ≤ 100 ∧ 0 ≤ wh ∧ wh ≤ 1 ∧ 0 ≤ us ∧ us ≤ h ∧ -1 ≤ sc ∧ sc ≤ us) := fun x => no ⟨q, x⟩
      exact .inr ⟨rfl, by omega⟩
  clear no ht
  generalize geOk h l = ok at *
  rcases cases with rfl | ⟨rfl, c⟩
  rotate_left
  rcases c with c | ⟨c1, c⟩
  rotate_left
  rcases c with c | ⟨c2, c⟩
  rotate_left
  rcases c with c | ⟨c3, c⟩
  rotate_left
  rcases c with c | ⟨c4, c⟩
  rotate_left
  rcases c with c | ⟨c5, c⟩
  rotate_left
  rcases c with c | ⟨c6, c⟩
  all_goals
    go_enter Tryz.func4, Tryz.ntmps4
    go_wp2_with (first
      | (go_at_call 5; refine (HR.out _).mono ?_; rintro e' w1 ⟨rfl, b1⟩; have H1 := Lib.hid (GBox.laid b1); obtain ⟨_, c0, c1⟩ := H1.out.1; clear b1)
      | (go_at_call 6; refine (spalive_is ((HT.out.below H1.out.2).more H1.out.2.size)).mono ?_; rintro e' w2 ⟨rfl, b2⟩; have H2 := Lib.hid (geo_next H1.out.2 b2); clear b2))
    go_ret
    exact ⟨rfl, H2.out⟩
set_option maxRecDepth 100000 in
set_option maxHeartbeats 4000000 in
theorem Sets_yes (ht : TyOk W.heap.size W) (H L : Nat) (wh us sc gc sv : Int) (hg : geOk H L = true) (h1 : H ≤ 100) (hwh : wh = 0 ∨ wh = 1) (hus : 0 ≤ us ∧ us ≤ H) (hsc : (sc = -1 ∧ gc = 0 ∧ sv = 0) ∨ (0 ≤ sc ∧ sc ≤ us ∧ gc = 1 ∧ sv = 16 + wh * H + sc)) : Calls Tryz.prog 4 #[.agg #[.int .i64 (H : Int), .int .i64 (L : Int)], .int .i64 wh, .int .i64 us, .int .i64 sc] W fun e w' => e = .returned (.bool true) ∧ Below W.heap.size W w' := by
  have hge := geOk_yes hg
  have HT := Lib.hid ht
  have HR := Lib.hid (fun u => rgeo_is H L u)
  rw [hg] at HR
  have HB := Lib.hid (fun u => rbase_is H L wh hg hwh u)
  rw [ge_base hg hwh] at HB
  obtain ⟨fr, hfr⟩ : ∃ fr, fr = 16 + wh * H + us := ⟨_, rfl⟩
  have hb : 16 ≤ 16 + wh * H ∧ 16 + wh * H ≤ 400 := by rcases hwh with rfl | rfl <;> omega
  have hf : fineB H L wh fr gc sv = true := by
    rw [← ctl_fine]
    have e1 : geBase H L wh = 16 + wh * H := ge_base hg hwh
    have e2 : geEnd H L wh = 16 + wh * H + H := ge_end hg hwh
    rw [e1, e2]
    refine ctl_yes ⟨by omega, by omega, ?_⟩
    rcases hsc with q | q
    · exact .inl ⟨q.2.1, q.2.2⟩
    · exact .inr ⟨q.2.2.1, by omega, by omega⟩
  have HBg : Hid (∀ u, TyOk u.heap.size u → Calls Tryz.prog 19 #[.agg #[.int .i64 (H : Int), .int .i64 (L : Int)]] u fun r w' => ∃ s p, r = .returned (.tuple #[.pointer (some ⟨p, 0, none⟩), .pointer (some ⟨s, 0, none⟩)]) ∧ St u.heap.size (fun b => b < u.heap.size) w' s H L (freshC H) ∧ Below u.heap.size u w') := Lib.hid (fun u x => Begin_st x H L (by omega))
  have HS := Lib.hid (fun B G u s (x : St B G u s H L (freshC H)) => spset_yes x wh fr gc sv hf)
  have HV : Hid (hSp (ctlW (freshC H) wh fr gc sv) = wh ∧ hFr (ctlW (freshC H) wh fr gc sv) = fr ∧ hGc (ctlW (freshC H) wh fr gc sv) = gc ∧ hSc (ctlW (freshC H) wh fr gc sv) = sv) := Lib.hid (ctl_at (by rw [freshC_len]; omega))
  generalize hV : ctlW (freshC H) wh fr gc sv = V at *
  clear hV
  have hok : hOk H L V = true := by rw [hOk, HV.out.1, HV.out.2.1, HV.out.2.2.1, HV.out.2.2.2]; exact hf
  have HG : Hid (∀ B G u s, St B G u s H L V → Calls Tryz.prog 12 #[.pointer (some ⟨s, 0, none⟩)] u fun e w' => e = .returned (.agg #[.int .i64 wh, .int .i64 fr, .int .i64 gc, .int .i64 sv]) ∧ Below u.heap.size u w') := Lib.hid (fun B G u s x => by
    have := spget_st x
    rwa [HV.out.1, HV.out.2.1, HV.out.2.2.1, HV.out.2.2.2] at this)
  have HU : Hid (∀ B G u s, St B G u s H L V → Calls Tryz.prog 14 #[.pointer (some ⟨s, 0, none⟩)] u fun e w' => e = .returned (.int .i64 us) ∧ Below u.heap.size u w') := Lib.hid (fun B G u s x => by
    have := spused_st x
    rwa [if_pos hok, HV.out.1, HV.out.2.1, show fr - (16 + wh * (H : Int)) = us by omega] at this)
  have HL : Hid (∀ B G u s, St B G u s H L V → Calls Tryz.prog 13 #[.pointer (some ⟨s, 0, none⟩)] u fun e w' => e = .returned (.int .i64 ((H : Int) - us)) ∧ Below u.heap.size u w') := Lib.hid (fun B G u s x => by
    have := spleft_st x
    rwa [if_pos hok, HV.out.1, HV.out.2.1, show 16 + wh * (H : Int) + H - fr = H - us by omega] at this)
  clear hok HV hf ht hg
  have hi1 : ¬ (100 : Int) < (H : Int) := by omega
  obtain ⟨hu0, hu1⟩ := hus
  have hw0 : 0 ≤ wh := by omega
  have hw1 : wh ≤ 1 := by omega
  have hw2 : IntKind.i64.wrap (16 + wh * (H : Int) + us) = fr := by rw [IntKind.wrap_i64]; omega
  have hw3 : IntKind.i64.wrap ((H : Int) - us) = (H : Int) - us := by rw [IntKind.wrap_i64]; omega
  have hw4 : 0 ≤ sc → IntKind.i64.wrap (16 + wh * (H : Int) + sc) = sv := fun q => by rw [IntKind.wrap_i64]; omega
  have hez := fun u => run_eq4s u wh fr gc sv
  have HM := Lib.hid (GBox.made W (H : Int) (L : Int) 23)
  generalize 16 + wh * (H : Int) = base at *
  clear hb hge h1 hwh hfr
  generalize (H : Int) = hh at *
  generalize (L : Int) = ll at *
  rcases hsc with ⟨rfl, rfl, rfl⟩ | ⟨hs0, hs1, rfl, hsv⟩
  · clear hw4
    go_enter Tryz.func4, Tryz.ntmps4
    go_wp2_with (first
      | (go_at_call 5; refine (HR.out _).mono ?_; rintro e' w1 ⟨rfl, b1⟩; have H1 := Lib.hid (GBox.laid b1); obtain ⟨_, c0, c1⟩ := H1.out.1; clear b1)
      | (go_at_call 6; refine (spalive_is ((HT.out.below H1.out.2).more H1.out.2.size)).mono ?_; rintro e' w2 ⟨rfl, b2⟩; replace H1 := Lib.hid (And.intro (H1.out.1.below b2) (geo_next H1.out.2 b2)); clear b2 c0 c1; obtain ⟨_, c0, c1⟩ := H1.out.1)
      | (go_at_call 19; refine (HBg.out _ ((HT.out.below H1.out.2).more H1.out.2.size)).mono ?_; rintro e' w3 ⟨s, p, rfl, h3, b3⟩; have H3 := Lib.hid (And.intro h3 (And.intro H1.out.2.size H1.out.1.lt)); replace H1 := Lib.hid (And.intro (H1.out.1.below b3) (geo_next H1.out.2 b3)); clear h3 b3 c0 c1; obtain ⟨_, c0, c1⟩ := H1.out.1)
      | (go_at_call 20; refine (HB.out _).mono ?_; rintro e' w4 ⟨rfl, b4⟩; replace H3 := Lib.hid (And.intro (H3.out.1.below b4) H3.out.2); replace H1 := Lib.hid (And.intro (H1.out.1.below b4) (geo_next H1.out.2 b4)); clear b4 c0 c1; obtain ⟨_, c0, c1⟩ := H1.out.1))
    have H5 := Lib.hid (sets_box H1.out.1 H1.out.2 H3.out.1 H3.out.2.2 wh fr 0 0 26)
    go_region_held3 (fun u => (u.cell? ⟨W.heap.size, 0, none⟩ = some (.int .i64 hh) ∧ u.cell? ⟨W.heap.size, 1, none⟩ = some (.int .i64 ll) ∧ u.cell? ⟨w4.heap.size, 0, none⟩ = some (.int .i64 wh) ∧ u.cell? ⟨w4.heap.size, 1, none⟩ = some (.int .i64 fr) ∧ u.cell? ⟨w4.heap.size, 2, none⟩ = some (.int .i64 0) ∧ u.cell? ⟨w4.heap.size, 3, none⟩ = some (.int .i64 0)) ∧ (W.heap.size < u.heap.size ∧ w4.heap.size < u.heap.size) ∧ Below W.heap.size W u) (first
        | assumption
        | exact H5.out.1
        | exact H5.out.1.below (Below.refl _ _).drew
        | exact H6.out.1
        | exact H6.out.1.below b6) (first
      | (go_at_call 17
         refine (HS.out _ _ _ _ (by first | exact H5.out.2 | exact H5.out.2.below (Below.refl _ _).drew)).mono ?_
         rintro e' w5 ⟨rfl, h5, b5, k5⟩
         have H6 := Lib.hid (And.intro (SpT.kept (by assumption) b5 H3.out.2.1 k5 (.inl rfl) (.inr rfl)) h5)
         clear h5 b5 k5)
      | (go_at_call 12; refine (HG.out _ _ _ _ H6.out.2).mono ?_; rintro e' w6 ⟨rfl, b6⟩; replace H6 := Lib.hid (And.intro (H6.out.1.below b6) (H6.out.2.below b6)))
      | (go_at_call 14; refine (HU.out _ _ _ _ H6.out.2).mono ?_; rintro e' w6 ⟨rfl, b6⟩; replace H6 := Lib.hid (And.intro (H6.out.1.below b6) (H6.out.2.below b6)))
      | (go_at_call 13; refine (HL.out _ _ _ _ H6.out.2).mono ?_; rintro e' w6 ⟨rfl, b6⟩; replace H6 := Lib.hid (And.intro (H6.out.1.below b6) (H6.out.2.below b6))))
    rename_i hH
    have HZ := Lib.hid hH.2.2
    clear hH
    go_wp2_with fail
    go_ret
    exact ⟨rfl, HZ.out⟩
  · have hw5 := hw4 hs0
    clear hw4
    subst hsv
    have hs2 : -1 ≤ sc := by omega
    go_enter Tryz.func4, Tryz.ntmps4
    go_wp2_with (first
      | (go_at_call 5; refine (HR.out _).mono ?_; rintro e' w1 ⟨rfl, b1⟩; have H1 := Lib.hid (GBox.laid b1); obtain ⟨_, c0, c1⟩ := H1.out.1; clear b1)
      | (go_at_call 6; refine (spalive_is ((HT.out.below H1.out.2).more H1.out.2.size)).mono ?_; rintro e' w2 ⟨rfl, b2⟩; replace H1 := Lib.hid (And.intro (H1.out.1.below b2) (geo_next H1.out.2 b2)); clear b2 c0 c1; obtain ⟨_, c0, c1⟩ := H1.out.1)
      | (go_at_call 19; refine (HBg.out _ ((HT.out.below H1.out.2).more H1.out.2.size)).mono ?_; rintro e' w3 ⟨s, p, rfl, h3, b3⟩; have H3 := Lib.hid (And.intro h3 (And.intro H1.out.2.size H1.out.1.lt)); replace H1 := Lib.hid (And.intro (H1.out.1.below b3) (geo_next H1.out.2 b3)); clear h3 b3 c0 c1; obtain ⟨_, c0, c1⟩ := H1.out.1)
      | (go_at_call 20; refine (HB.out _).mono ?_; rintro e' w4 ⟨rfl, b4⟩; replace H3 := Lib.hid (And.intro (H3.out.1.below b4) H3.out.2); replace H1 := Lib.hid (And.intro (H1.out.1.below b4) (geo_next H1.out.2 b4)); clear b4 c0 c1; obtain ⟨_, c0, c1⟩ := H1.out.1))
    have H5 := Lib.hid (sets_box H1.out.1 H1.out.2 H3.out.1 H3.out.2.2 wh fr 1 (base + sc) 26)
    go_region_held3 (fun u => (u.cell? ⟨W.heap.size, 0, none⟩ = some (.int .i64 hh) ∧ u.cell? ⟨W.heap.size, 1, none⟩ = some (.int .i64 ll) ∧ u.cell? ⟨w4.heap.size, 0, none⟩ = some (.int .i64 wh) ∧ u.cell? ⟨w4.heap.size, 1, none⟩ = some (.int .i64 fr) ∧ u.cell? ⟨w4.heap.size, 2, none⟩ = some (.int .i64 1) ∧ u.cell? ⟨w4.heap.size, 3, none⟩ = some (.int .i64 (base + sc))) ∧ (W.heap.size < u.heap.size ∧ w4.heap.size < u.heap.size) ∧ Below W.heap.size W u) (first
        | assumption
        | exact H5.out.1
        | exact H5.out.1.below (Below.refl _ _).drew
        | exact H6.out.1
        | exact H6.out.1.below b6) (first
      | (go_at_call 17
         refine (HS.out _ _ _ _ (by first | exact H5.out.2 | exact H5.out.2.below (Below.refl _ _).drew)).mono ?_
         rintro e' w5 ⟨rfl, h5, b5, k5⟩
         have H6 := Lib.hid (And.intro (SpT.kept (by assumption) b5 H3.out.2.1 k5 (.inl rfl) (.inr rfl)) h5)
         clear h5 b5 k5)
      | (go_at_call 12; refine (HG.out _ _ _ _ H6.out.2).mono ?_; rintro e' w6 ⟨rfl, b6⟩; replace H6 := Lib.hid (And.intro (H6.out.1.below b6) (H6.out.2.below b6)))
      | (go_at_call 14; refine (HU.out _ _ _ _ H6.out.2).mono ?_; rintro e' w6 ⟨rfl, b6⟩; replace H6 := Lib.hid (And.intro (H6.out.1.below b6) (H6.out.2.below b6)))
      | (go_at_call 13; refine (HL.out _ _ _ _ H6.out.2).mono ?_; rintro e' w6 ⟨rfl, b6⟩; replace H6 := Lib.hid (And.intro (H6.out.1.below b6) (H6.out.2.below b6))))
    rename_i hH
    have HZ := Lib.hid hH.2.2
    clear hH
    go_wp2_with fail
    go_ret
    exact ⟨rfl, HZ.out⟩
theorem Sets_walk (ht : TyOk W.heap.size W) (h l wh us sc : Int) : Calls Tryz.prog 4 #[.agg #[.int .i64 h, .int .i64 l], .int .i64 wh, .int .i64 us, .int .i64 sc] W fun e w' => e = .returned (.bool true) ∧ Below W.heap.size W w' := by
  by_cases c : geOk h l = true ∧ h ≤ 100 ∧ 0 ≤ wh ∧ wh ≤ 1 ∧ 0 ≤ us ∧ us ≤ h ∧ -1 ≤ sc ∧ sc ≤ us
  · obtain ⟨c0, c1, c2, c3, c4, c5, c6, c7⟩ := c
    have hq := geOk_yes c0
    obtain ⟨H, rfl⟩ := Int.eq_ofNat_of_zero_le (show 0 ≤ h by omega)
    obtain ⟨L, rfl⟩ := Int.eq_ofNat_of_zero_le (show 0 ≤ l by omega)
    by_cases q : sc = -1
    · exact Sets_yes ht H L wh us sc 0 0 c0 (by omega) (by omega) ⟨c4, c5⟩ (.inl ⟨q, rfl, rfl⟩)
    · exact Sets_yes ht H L wh us sc 1 (16 + wh * H + sc) c0 (by omega) (by omega) ⟨c4, c5⟩ (.inr ⟨by omega, c7, rfl, rfl⟩)
  · exact Sets_no ht h l wh us sc c
end
end Go.Proofs.YtbgdchcnmcjegaaGreatDoor
