/- GcNothing: the walk. -/
import Derived.Test.YteijhbnnhadkhaaGreatDoorYGcG
import Derived.Test.YteijhbnnhadkhaaGreatDoorYOpenA
set_option linter.unusedVariables false
set_option linter.unusedSimpArgs false
namespace Go.Proofs.YteijhbnnhadkhaaGreatDoor
open Go.RowKit Sec
open Go.Proofs.YteijhbnnhadkhaaGreatDoor.Bk

/-- What is there behind the collection: two registers that name nothing, the geometry's box, the store. -/
def NtS (W : World) (B s H L : Nat) (V : List Int) (g : Nat) (u : World) : Prop :=
  (u.cell? ⟨g, 0, none⟩ = some (.int .i64 0) ∧ u.cell? ⟨g, 1, none⟩ = some (.int .i64 0) ∧ u.cell? ⟨W.heap.size, 0, none⟩ = some (.int .i64 (H : Int))) ∧ (∃ G, LwS W (H : Int) (L : Int) B G s H L V u) ∧ g < u.heap.size
section
variable {W : World} {B s H L g : Nat} {V : List Int} {u u' : World}
theorem NtS.keep (x : NtS W B s H L V g u) (y : Below u.heap.size u u') : NtS W B s H L V g u' := by
  obtain ⟨⟨x0, x1, x2⟩, ⟨G, x3⟩, x4⟩ := x
  exact ⟨⟨(y.cell (p := ⟨g, 0, none⟩) x4).trans x0, (y.cell (p := ⟨g, 1, none⟩) x4).trans x1, (y.cell (p := ⟨_, 0, none⟩) x3.g.lt).trans x2⟩, ⟨G, x3.below y⟩, Nat.lt_of_lt_of_le x4 y.size⟩
theorem NtS.st (x : NtS W B s H L V g u) : ∃ G, St B G u s H L V := by
  obtain ⟨_, ⟨G, x3⟩, _⟩ := x
  exact ⟨G, x3.s⟩
theorem NtS.b (x : NtS W B s H L V g u) : Below W.heap.size W u := by
  obtain ⟨_, ⟨G, x3⟩, _⟩ := x
  exact x3.b
set_option maxRecDepth 100000 in
set_option maxHeartbeats 4000000 in
theorem Noth_no (ht : TyOk W.heap.size W) (h l : Int) (q : Option Addr) (n m : Nat) (hn : (n : Int) ≤ 9223372036854775807) (no : ¬ (geOk h l = true ∧ h ≤ 200 ∧ n ≤ 40)) : Calls Tryz.prog 10 #[.agg #[.int .i64 h, .int .i64 l], .slice q n m] W fun e w' => e = .returned (.bool true) ∧ Below W.heap.size W w' := by
  have HT := Lib.hid ht
  have HR := Lib.hid (fun u => rgeo_is h l u)
  have cases : geOk h l = false ∨ (geOk h l = true ∧ (200 < h ∨ (h ≤ 200 ∧ (40 : Int) < (n : Int)))) := by
    cases q : geOk h l
    · exact .inl rfl
    · have no2 : ¬ (h ≤ 200 ∧ n ≤ 40) := fun x => no ⟨q, x⟩
      exact .inr ⟨rfl, by omega⟩
  clear no ht
  generalize geOk h l = ok at *
  rcases cases with rfl | ⟨rfl, c1 | ⟨c1, c2⟩⟩
  all_goals
    go_enter Tryz.func10, Tryz.ntmps10
    go_wp2_with (first
      | (go_at_call 11; refine (HR.out _).mono ?_; rintro e' w1 ⟨rfl, b1⟩; have H1 := Lib.hid (GBox.laid b1); obtain ⟨_, c0, _⟩ := H1.out.1; clear b1)
      | (go_at_call 12; refine (gcalive_is ((HT.out.below H1.out.2).more H1.out.2.size)).mono ?_; rintro e' w2 ⟨rfl, b2⟩; have H2 := Lib.hid (geo_next H1.out.2 b2); clear b2))
    go_ret
    exact ⟨rfl, H2.out⟩
set_option maxRecDepth 100000 in
set_option maxHeartbeats 8000000 in
theorem Noth_yes (ht : TyOk W.heap.size W) (H L : Nat) (hg : geOk H L = true) (hH : H ≤ 200) (q : Option Addr) (l : List Two) (m : Nat) (hq : LiesAt W q (flat Two.cells l)) (hl : l.length ≤ 40) : Calls Tryz.prog 10 #[.agg #[.int .i64 (H : Int), .int .i64 (L : Int)], .slice q l.length m] W fun e w' => e = .returned (.bool true) ∧ Below W.heap.size W w' := by
  have hge := geOk_yes hg
  have HT := Lib.hid ht
  have HR := Lib.hid (fun u => rgeo_is H L u)
  rw [hg] at HR
  have HBg : Hid (∀ u, TyOk u.heap.size u → Calls Tryz.prog 48 #[.agg #[.int .i64 (H : Int), .int .i64 (L : Int)]] u fun r w' => ∃ s p, r = .returned (.tuple #[.pointer (some ⟨p, 0, none⟩), .pointer (some ⟨s, 0, none⟩)]) ∧ St u.heap.size (fun b => b < u.heap.size) w' s H L (freshC H) ∧ Below u.heap.size u w') := Lib.hid (fun u x => Begin_st x H L (by omega))
  have HL := Lib.hid hq
  have HF0 : Hid (∃ T, Fin H L (freshC H) T (fun _ => 1) ∧ celL (freshC H) 8 8 = List.replicate 8 0) := Lib.hid ⟨[], Fin.fresh hg _⟩
  have HNw : Hid (∀ V, (∃ T, Fin H L V T (fun _ => 1) ∧ celL V 8 8 = List.replicate 8 0) → ∀ sl wo, (∃ T, Fin H L (newW H L V sl wo) T (fun _ => 1) ∧ celL (newW H L V sl wo) 8 8 = List.replicate 8 0) ∧ ∀ B G u s, St B G u s H L V → Calls Tryz.prog 25 #[.pointer (some ⟨s, 0, none⟩), .int .i64 sl, .int .i64 wo] u fun r w' => (∃ a e, r = .returned (.tuple #[.int .i64 a, .int .i64 e])) ∧ St B G w' s H L (newW H L V sl wo) ∧ Below B u w' ∧ KeptG G u w') := Lib.hid (fun V ⟨T, f, z⟩ sl wo => by
    obtain ⟨T2, f2, z2⟩ := f.new sl wo
    exact ⟨⟨T2, f2, z2.trans z⟩, fun B G u s x => (anew_st x sl wo).mono fun r w' ⟨h1, h2⟩ => ⟨⟨_, _, h1⟩, h2⟩⟩)
  have HAl : Hid (∀ V, (∃ T, Fin H L V T (fun _ => 1) ∧ celL V 8 8 = List.replicate 8 0) → ∃ V2, ((∀ B G u s q, St B G u s H L V → Lent B G u q [0, 0] → (q = none → 2 = 0) → Calls Tryz.prog 21 #[.pointer (some ⟨s, 0, none⟩), .slice q 2 2] u fun e w' => ∃ r, e = .returned (.tuple #[r, .int .i64 0]) ∧ St B G w' s H L V2 ∧ Below B u w' ∧ KeptG G u w' ∧ w'.ownsRow u.heap.size 3 1 r 2 (vals [0, 0]))) ∧ ∀ B G u s, St B G u s H L V2 → (Calls Tryz.prog 39 #[.pointer (some ⟨s, 0, none⟩)] u fun e w' => e = .returned (.int .i64 0) ∧ Below u.heap.size u w') ∧ (Calls Tryz.prog 44 #[.pointer (some ⟨s, 0, none⟩)] u fun e w' => e = .returned (.int .i64 (H : Int)) ∧ Below u.heap.size u w') ∧ (Calls Tryz.prog 31 #[.pointer (some ⟨s, 0, none⟩)] u fun e w' => e = .returned (.bool false) ∧ Below u.heap.size u w')) := Lib.hid (fun V ⟨T, f, z⟩ => by
    obtain ⟨V2, T2, q1, q2, q3⟩ := f.nothing z 2
    refine ⟨V2, fun B G u s q x y hq => ?_, fun B G u s x => ⟨?_, ?_, ?_⟩⟩
    · have := gAll_off x q [0, 0] 2 y hq (by rw [f.off]; decide)
      rw [show ([0, 0] : List Int) = List.replicate 2 0 from rfl, q1] at this
      exact this.mono fun e w' ⟨r, h1, h2, h3⟩ => ⟨r, h1, h2.mono (fun _ g => .inl g), h3⟩
    · have := spused_st x
      rwa [q2.gi.ok, if_pos rfl, q3, show 16 + hSp V2 * (H : Int) - (16 + hSp V2 * (H : Int)) = 0 by omega] at this
    · have := spleft_st x
      rwa [q2.gi.ok, if_pos rfl, q3, show 16 + hSp V2 * (H : Int) + (H : Int) - (16 + hSp V2 * (H : Int)) = (H : Int) by omega] at this
    · have := gOn_is x
      rwa [q2.off, decide_eq_false (by decide)] at this)
  have HM := Lib.hid (GBox.made W (H : Int) (L : Int) 23)
  have hi0 : ¬ (200 : Int) < (H : Int) := by omega
  have hl1 : ¬ (40 : Int) < (l.length : Int) := by omega
  have hl2 : (l.length : Int) ≤ 40 := by omega
  clear ht hg hge hq
  go_enter Tryz.func10, Tryz.ntmps10
  go_wp2_with (first
    | (go_at_call 11; refine (HR.out _).mono ?_; rintro e' w1 ⟨rfl, b1⟩; have H1 := Lib.hid (GBox.laid b1); obtain ⟨_, c0, c1⟩ := H1.out.1; clear b1)
    | (go_at_call 12; refine (gcalive_is ((HT.out.below H1.out.2).more H1.out.2.size)).mono ?_; rintro e' w2 ⟨rfl, b2⟩; replace H1 := Lib.hid (And.intro (H1.out.1.below b2) (geo_next H1.out.2 b2)); clear b2 c0 c1; obtain ⟨_, c0, c1⟩ := H1.out.1)
    | (go_at_call 48; refine (HBg.out _ ((HT.out.below H1.out.2).more H1.out.2.size)).mono ?_; rintro e' w3 ⟨s, p, rfl, h3, b3⟩; have HS := Lib.hid (LwS.start H1.out.1 H1.out.2 h3 b3); clear h3 b3 c0 c1))
  clear H1 HR HBg HT HM
  generalize w2.heap.size = B at *
  go_loopw [7] (fun i wr => ∃ (k : Nat) (V : List Int), k ≤ l.length ∧ i = .int .i64 (k : Int) ∧ Hid (∃ T, Fin H L V T (fun _ => 1) ∧ celL V 8 8 = List.replicate 8 0) ∧ Hid (LwS W H L B (fun k => k < B) s H L V wr)) (fun i _ => l.length - (intOf i).toNat)
  case atStart => exact ⟨0, freshC H, Nat.zero_le _, rfl, HF0, HS⟩
  case round =>
    clear HS HF0
    obtain ⟨k, V, hk, rfl, HF, HS⟩ := hrel
    have hk60 : (k : Int) ≤ 40 := by omega
    by_cases hlt : k < l.length
    · obtain ⟨g1, og, rfl, hg1, e1⟩ := HL.out.elem Two.len (by omega) (List.getElem?_eq_getElem hlt)
      have e1_0 := e1 0 _ rfl
      have e1_1 := e1 1 _ rfl
      rw [Nat.add_zero] at e1_0
      clear e1
      have HD : Hid (∀ u, Below W.heap.size W u → u.cell? ⟨g1, og + k * 2, none⟩ = some (.int .i64 l[k].a) ∧ u.cell? ⟨g1, og + k * 2 + 1, none⟩ = some (.int .i64 l[k].b)) := Lib.hid (fun u y => ⟨(y.cell (p := ⟨g1, og + k * 2, none⟩) hg1).trans e1_0, (y.cell (p := ⟨g1, og + k * 2 + 1, none⟩) hg1).trans e1_1⟩)
      generalize l[k].a = xa at *
      generalize l[k].b = xb at *
      have hi1 : (k : Int) < (l.length : Int) := by omega
      obtain ⟨F2, N2⟩ := HNw.out V HF.out xa xb
      have HF2 := Lib.hid F2
      have HN := Lib.hid N2
      clear F2 N2 HNw HAl e1_0 e1_1
      obtain ⟨e1_0, e1_1⟩ := HD.out _ HS.out.b
      go_wp2_with fail
      go_region_held3 (fun u => u.cell? ⟨g1, og + k * 2, none⟩ = some (.int .i64 xa) ∧ u.cell? ⟨g1, og + k * 2 + 1, none⟩ = some (.int .i64 xb)) (first
          | assumption
          | exact HD.out _ HS.out.b
          | exact HD.out _ HS.out.b.drew
          | exact HD.out _ HS.out.b.drew.drew
          | exact HD.out _ (bel_drewN HS.out.b _)
          | exact HD.out _ H4.out.b) (first
        | (go_at_call 25; refine (HN.out _ _ _ _ (by first | exact HS.out.s | exact (HS.out.below (Below.refl _ _).drew).s | exact (HS.out.below (Below.refl _ _).drew.drew).s | exact (HS.out.below (bel_drewN (Below.refl _ _) _)).s)).mono ?_; rintro e w4 ⟨⟨a4, e4, rfl⟩, h4, b4, k4⟩; have H4 := Lib.hid (LwS.set (by first | exact HS.out | exact HS.out.below (Below.refl _ _).drew | exact HS.out.below (Below.refl _ _).drew.drew | exact HS.out.below (bel_drewN (Below.refl _ _) _)) h4 b4 k4); clear h4 b4 k4))
      all_goals
        go_wp2_with fail
        exact ⟨⟨k + 1, _, by omega, by go_num, HF2, by first | exact H4 | exact Lib.hid (H4.out.below (Below.refl _ _).drew)⟩, by simp [intOf]; omega⟩
    · obtain rfl : k = l.length := by omega
      have hnl : ¬ (l.length : Int) < (l.length : Int) := by omega
      obtain ⟨V2, A2, U2⟩ := HAl.out V HF.out
      have HAll := Lib.hid A2
      have HUse := Lib.hid U2
      clear HNw HAl A2 U2 HF
      go_wp2_with (first
        | (go_at_call 21
           have y4 : Below wr.heap.size wr (wr.alloc (.cells #[.int .i64 0, .int .i64 0] 3)) := (Below.refl _ _).alloc (Nat.le_refl _) _
           have x4 := HS.out.more y4
           refine (HAll.out _ _ _ _ _ x4.s ⟨fun j u hu => ⟨_, rfl, by simp, World.news_of_block (heap_alloc_last _ _) j u hu⟩, fun x e => by obtain rfl := Option.some.inj e; exact .inr (.inr ⟨Nat.le_refl _, by simp⟩), by decide⟩ (fun q => by cases q)).mono ?_
           rintro e w5 ⟨r5, rfl, h5, b5, k5, o5⟩
           obtain ⟨g5, c5, rfl, _, _, _⟩ := own_blk o5 (by decide)
           have x5 := x4.set h5 b5 k5
           have H5 : Hid (NtS W B s H L V2 g5 w5) := Lib.hid ⟨⟨(owns_cell o5 (k := 0) rfl).1, (owns_cell o5 (k := 1) rfl).1, x5.g.c0⟩, ⟨_, x5⟩, (o5.lt _ rfl).2⟩
           clear h5 b5 k5 o5 y4 x4 x5))
      have HU1 : Hid (∀ u, NtS W B s H L V2 g5 u → Calls Tryz.prog 39 #[.pointer (some ⟨s, 0, none⟩)] u fun e w' => e = .returned (.int .i64 0) ∧ Below u.heap.size u w') := Lib.hid (fun u x => x.st.elim fun G y => (HUse.out _ _ _ _ y).1)
      have HU2 : Hid (∀ u, NtS W B s H L V2 g5 u → Calls Tryz.prog 44 #[.pointer (some ⟨s, 0, none⟩)] u fun e w' => e = .returned (.int .i64 (H : Int)) ∧ Below u.heap.size u w') := Lib.hid (fun u x => x.st.elim fun G y => (HUse.out _ _ _ _ y).2.1)
      have HU3 : Hid (∀ u, NtS W B s H L V2 g5 u → Calls Tryz.prog 31 #[.pointer (some ⟨s, 0, none⟩)] u fun e w' => e = .returned (.bool false) ∧ Below u.heap.size u w') := Lib.hid (fun u x => x.st.elim fun G y => (HUse.out _ _ _ _ y).2.2)
      clear HUse HAll HS
      obtain ⟨c0, c1, c2⟩ := H5.out.1
      go_region_held3 (fun u => (u.cell? ⟨g5, 0, none⟩ = some (.int .i64 0) ∧ u.cell? ⟨g5, 1, none⟩ = some (.int .i64 0) ∧ u.cell? ⟨W.heap.size, 0, none⟩ = some (.int .i64 (H : Int))) ∧ (∃ G, LwS W (H : Int) (L : Int) B G s H L V2 u) ∧ g5 < u.heap.size) (first
          | assumption
          | exact H5.out
          | exact NtS.keep H5.out (Below.refl _ _).drew
          | exact NtS.keep (by assumption) b6
          | exact NtS.keep (by assumption) b7
          | exact NtS.keep (by assumption) b8) (first
        | (go_at_call 39; refine (HU1.out _ (by first | assumption | exact H5.out | exact NtS.keep H5.out (Below.refl _ _).drew)).mono ?_; rintro e w6 ⟨rfl, b6⟩)
        | (go_at_call 44; refine (HU2.out _ (by first | assumption | exact H5.out | exact NtS.keep H5.out (Below.refl _ _).drew)).mono ?_; rintro e w7 ⟨rfl, b7⟩)
        | (go_at_call 31; refine (HU3.out _ (by first | assumption | exact H5.out | exact NtS.keep H5.out (Below.refl _ _).drew)).mono ?_; rintro e w8 ⟨rfl, b8⟩))
      rename_i hH
      have HE := Lib.hid (NtS.b (W := W) hH)
      clear hH
      go_wp2_with fail
      go_ret
      exact ⟨rfl, HE.out⟩
theorem Noth_walk (ht : TyOk W.heap.size W) (h l : Int) (q : Option Addr) (x : List Two) (m : Nat) (hq : LiesAt W q (flat Two.cells x)) (hx : x.length ≤ maxLen) : Calls Tryz.prog 10 #[.agg #[.int .i64 h, .int .i64 l], .slice q x.length m] W fun e w' => e = .returned (.bool true) ∧ Below W.heap.size W w' := by
  by_cases k : geOk h l = true ∧ h ≤ 200 ∧ x.length ≤ 40
  · obtain ⟨k0, k1, k2⟩ := k
    have hq2 := geOk_yes k0
    obtain ⟨H, rfl⟩ := Int.eq_ofNat_of_zero_le (show 0 ≤ h by omega)
    obtain ⟨L, rfl⟩ := Int.eq_ofNat_of_zero_le (show 0 ≤ l by omega)
    exact Noth_yes ht H L k0 (by omega) q x m hq k2
  · exact Noth_no ht h l q x.length m (by unfold maxLen at hx; omega) k
end
end Go.Proofs.YteijhbnnhadkhaaGreatDoor
