import Derived.Test.YtbghglkplbnnkaaGreatDoorYMadeA
import Derived.Test.YtbghglkplbnnkaaGreatDoorYMade
import Derived.Test.YtbghglkplbnnkaaGreatDoorYEightA
import Derived.Test.YtbghglkplbnnkaaGreatDoorYFollowA
set_option linter.unusedVariables false
set_option linter.unusedSimpArgs false
namespace Go.Proofs.YtbghglkplbnnkaaGreatDoor
open Go.RowKit Sec
open Go.Proofs.YtbghglkplbnnkaaGreatDoor.Bk

section
variable {W : World}
set_option maxRecDepth 100000 in
set_option maxHeartbeats 4000000 in
theorem Twice_no (ht : TyOk W.heap.size W) (h l : Int) (G : GArg) (hG : G.At W)  (no : ¬ (geOk h l = true ∧ h ≤ 200 ∧ liB G = true)) :
    Calls Tryz.prog 5 #[.agg #[.int .i64 h, .int .i64 l], G.val] W fun e w' => e = .returned (.bool true) ∧ Below W.heap.size W w' := by
  have HR := Lib.hid (fun u => rgeo_is h l u)
  have HLt : Hid (∀ u, Below W.heap.size W u → Calls Tryz.prog 21 #[.agg #[G.r.val, .slice G.a G.n.length G.c]] u fun e w' => e = .returned (.bool (liB G)) ∧ Below u.heap.size u w') := Lib.hid (fun u y => light_is G u (hG.of_below y))
  have HAl : Hid (∀ u, Below W.heap.size W u → Calls Tryz.prog 9 #[] u fun e w' => e = .returned (.bool true) ∧ Below u.heap.size u w') := Lib.hid (fun u y => gcalive_is ((ht.below y).more y.size))
  have HB := Lib.hid (fun u => two_boxes W h l G.r.val (.slice G.a G.n.length G.c) u)
  have cases : geOk h l = false ∨ (geOk h l = true ∧ ((200 : Int) < h ∨ (h ≤ 200 ∧ liB G = false))) := by
    cases q1 : geOk h l
    · exact .inl rfl
    · refine .inr ⟨rfl, ?_⟩
      by_cases c1 : h ≤ 200
      · cases q2 : liB G
        · exact .inr ⟨c1, rfl⟩
        · exact absurd ⟨q1, c1, q2⟩ no
      · exact .inl (by omega)
  clear no ht hG
  unfold GArg.val
  generalize liB G = rt at *
  generalize geOk h l = ok at *
  generalize G.r.val = rv at *
  rcases cases with rfl | ⟨rfl, c | ⟨c1, rfl⟩⟩
  all_goals
    go_enter Tryz.func5, Tryz.ntmps5
    go_wp2_with (first
      | (go_at_call 7; refine (HR.out _).mono ?_; rintro e' w1 ⟨rfl, b1⟩; have H1 := Lib.hid b1; obtain ⟨⟨c0, cc, g0, g1⟩, _⟩ := HB.out _ b1; clear b1)
      | (go_at_call 21; refine (HLt.out _ (HB.out _ H1.out).2).mono ?_; rintro e' w2 ⟨rfl, b2⟩; replace H1 := Lib.hid (geo_next H1.out b2); clear b2 c0 cc g0 g1; obtain ⟨⟨c0, cc, g0, g1⟩, _⟩ := HB.out _ H1.out)
      | (go_at_call 9; refine (HAl.out _ (HB.out _ H1.out).2).mono ?_; rintro e' w3 ⟨rfl, b3⟩; replace H1 := Lib.hid (geo_next H1.out b3); clear b3))
    go_ret
    exact ⟨rfl, (HB.out _ H1.out).2⟩
set_option maxRecDepth 100000 in
set_option maxHeartbeats 8000000 in
theorem Twice_yes (ht : TyOk W.heap.size W) (H L : Nat) (hg : geOk H L = true) (G : GArg) (hG : G.At W) (hl : liB G = true)  (h200 : (H : Int) ≤ 200) :
    Calls Tryz.prog 5 #[.agg #[.int .i64 (H : Int), .int .i64 (L : Int)], G.val] W fun e w' => e = .returned (.bool true) ∧ Below W.heap.size W w' := by
  have HR := Lib.hid (fun u => rgeo_is H L u)
  rw [hg] at HR
  have HLt : Hid (∀ u, Below W.heap.size W u → Calls Tryz.prog 21 #[.agg #[G.r.val, .slice G.a G.n.length G.c]] u fun e w' => e = .returned (.bool true) ∧ Below u.heap.size u w') := Lib.hid (fun u y => by
    have := light_is G u (hG.of_below y)
    rwa [hl] at this)
  have HAl : Hid (∀ u, Below W.heap.size W u → Calls Tryz.prog 9 #[] u fun e w' => e = .returned (.bool true) ∧ Below u.heap.size u w') := Lib.hid (fun u y => gcalive_is ((ht.below y).more y.size))
  have HB := Lib.hid (fun u => two_boxes W H L G.r.val (.slice G.a G.n.length G.c) u)
  have HEi : Hid (∀ u, Below W.heap.size W u → Calls Tryz.prog 22 #[.agg #[G.r.val, .slice G.a G.n.length G.c]] u fun e w' => ∃ G2 : GArg, e = .returned (.agg #[G2.r.val, .slice G2.a G2.n.length G2.c]) ∧ G2.At w' ∧ Below u.heap.size u w') := Lib.hid (fun u y => eight_is G (hG.of_below y) (liB_yes hl))
  have HMd : Hid (∀ u (G2 : GArg), Below W.heap.size W u → G2.At u → Calls Tryz.prog 10 #[.agg #[.int .i64 (H : Int), .int .i64 (L : Int)], .agg #[G2.r.val, .slice G2.a G2.n.length G2.c]] u fun e w' => ∃ s B V T Gw, e = .returned (.tuple #[.pointer (some ⟨s, 0, none⟩), .agg #[.slice Gw.r.a Gw.r.l.length Gw.r.c, .slice Gw.a Gw.n.length Gw.c]]) ∧ LgS u B s H L V Gw w' ∧ Fin H L V T Z0 ∧ gr H L V = some (Gw.r.l, Gw.n.map NArg.data) ∧ T.length ≤ 60) := Lib.hid (fun u G2 y hA => made_is60 ((ht.below y).more y.size) H L hg G2 hA)
  have HTy := Lib.hid ht
  clear ht hG hg hl
  unfold GArg.val
  generalize G.r.val = rv at *
  go_enter Tryz.func5, Tryz.ntmps5
  go_upto_region 3 with (first
      | (go_at_call 7; refine (HR.out _).mono ?_; rintro e' w1 ⟨rfl, b1⟩; have H1 := Lib.hid b1; obtain ⟨⟨c0, cc, g0, g1⟩, _⟩ := HB.out _ b1; clear b1)
      | (go_at_call 21; refine (HLt.out _ (HB.out _ H1.out).2).mono ?_; rintro e' w2 ⟨rfl, b2⟩; replace H1 := Lib.hid (geo_next H1.out b2); clear b2 c0 cc g0 g1; obtain ⟨⟨c0, cc, g0, g1⟩, _⟩ := HB.out _ H1.out)
      | (go_at_call 9; refine (HAl.out _ (HB.out _ H1.out).2).mono ?_; rintro e' w3 ⟨rfl, b3⟩; replace H1 := Lib.hid (geo_next H1.out b3); clear b3; obtain ⟨⟨c0, cc, g0, g1⟩, _⟩ := HB.out _ H1.out))
  have ha0 := fun o : Obj => (HB.out _ (geo_next H1.out ((Below.refl _ _).alloc (Nat.le_refl _) o))).1.1
  have ha1 := fun o : Obj => (HB.out _ (geo_next H1.out ((Below.refl _ _).alloc (Nat.le_refl _) o))).1.2.1
  have ha2 := fun o : Obj => (HB.out _ (geo_next H1.out ((Below.refl _ _).alloc (Nat.le_refl _) o))).1.2.2.1
  have ha3 := fun o : Obj => (HB.out _ (geo_next H1.out ((Below.refl _ _).alloc (Nat.le_refl _) o))).1.2.2.2
  go_cut [5, 6] (fun s7 s8 wx => ∃ (s B kb : Nat) (V0 T0 : List Int) (Gw : GArg), s7 = .pointer (some ⟨s, 0, none⟩) ∧ s8 = .pointer (some ⟨kb, 0, none⟩) ∧ Hid (LkS W B s H L V0 Gw kb wx) ∧ Hid (Fin H L V0 T0 Z0 ∧ gr H L V0 = some (Gw.r.l, Gw.n.map NArg.data) ∧ T0.length ≤ 60))
  case first =>
    go_region_with (first
      | (go_at_call 22
         refine (HEi.out _ (HB.out _ H1.out).2).mono ?_
         rintro e' w4 ⟨G2, rfl, h4, b4⟩
         have H3 := Lib.hid (geo_next H1.out b4)
         have H2 := Lib.hid (And.intro h4 (HB.out _ H3.out).2)
         clear ha0 ha1 ha2 ha3 b4 c0 cc g0 g1
         obtain ⟨⟨c0, cc, g0, g1⟩, _⟩ := HB.out _ H3.out
         have ha0 := fun o : Obj => (HB.out _ (geo_next H3.out ((Below.refl _ _).alloc (Nat.le_refl _) o))).1.1
         have ha1 := fun o : Obj => (HB.out _ (geo_next H3.out ((Below.refl _ _).alloc (Nat.le_refl _) o))).1.2.1)
      | (go_at_call 22
         refine (HEi.out _ (HB.out _ H1.out).2.drew).mono ?_
         rintro e' w4 ⟨G2, rfl, h4, b4⟩
         have H3 := Lib.hid (geo_next H1.out (dr_next b4))
         have H2 := Lib.hid (And.intro h4 (HB.out _ H3.out).2)
         clear ha0 ha1 ha2 ha3 b4 c0 cc g0 g1
         obtain ⟨⟨c0, cc, g0, g1⟩, _⟩ := HB.out _ H3.out
         have ha0 := fun o : Obj => (HB.out _ (geo_next H3.out ((Below.refl _ _).alloc (Nat.le_refl _) o))).1.1
         have ha1 := fun o : Obj => (HB.out _ (geo_next H3.out ((Below.refl _ _).alloc (Nat.le_refl _) o))).1.2.1)
      | (go_at_call 22
         have y3 : Below w3.heap.size w3 (w3.alloc (.cells #[.slice none 0 0, .slice none 0 0] 27)) := (Below.refl _ _).alloc (Nat.le_refl _) _
         have hkb := Two2.made w3 (.slice none 0 0) (.slice none 0 0) 27
         refine (HEi.out _ (geo_next (HB.out _ H1.out).2 y3)).mono ?_
         rintro e' w4 ⟨G2, rfl, h4, b4⟩
         have H3 := Lib.hid (geo_next (geo_next H1.out y3) b4)
         have HTB := Lib.hid (And.intro (hkb.below b4) (HB.out _ H1.out).2.size)
         have H2 := Lib.hid (And.intro h4 (HB.out _ H3.out).2)
         clear ha0 ha1 ha2 ha3 b4 c0 cc g0 g1 y3 hkb
         obtain ⟨⟨c0, cc, g0, g1⟩, _⟩ := HB.out _ H3.out
         have ha0 := fun o : Obj => (HB.out _ (geo_next H3.out ((Below.refl _ _).alloc (Nat.le_refl _) o))).1.1
         have ha1 := fun o : Obj => (HB.out _ (geo_next H3.out ((Below.refl _ _).alloc (Nat.le_refl _) o))).1.2.1)
      | (go_at_call 22
         have y3 : Below w3.heap.size w3 (w3.alloc (.cells #[.slice none 0 0, .slice none 0 0] 27)) := (Below.refl _ _).alloc (Nat.le_refl _) _
         have hkb := Two2.made w3 (.slice none 0 0) (.slice none 0 0) 27
         refine (HEi.out _ (geo_next (HB.out _ H1.out).2 y3).drew).mono ?_
         rintro e' w4 ⟨G2, rfl, h4, b4⟩
         have H3 := Lib.hid (geo_next (geo_next H1.out y3) (dr_next b4))
         have HTB := Lib.hid (And.intro (hkb.below (dr_next b4)) (HB.out _ H1.out).2.size)
         have H2 := Lib.hid (And.intro h4 (HB.out _ H3.out).2)
         clear ha0 ha1 ha2 ha3 b4 c0 cc g0 g1 y3 hkb
         obtain ⟨⟨c0, cc, g0, g1⟩, _⟩ := HB.out _ H3.out
         have ha0 := fun o : Obj => (HB.out _ (geo_next H3.out ((Below.refl _ _).alloc (Nat.le_refl _) o))).1.1
         have ha1 := fun o : Obj => (HB.out _ (geo_next H3.out ((Below.refl _ _).alloc (Nat.le_refl _) o))).1.2.1)
      | (go_at_call 10
         have ht4 := HTB.out.1
         refine (HMd.out _ _ H2.out.2 H2.out.1).mono ?_
         rintro e' w5 ⟨s, B, V0, T0, Gw, rfl, h5, f0, r0, t0⟩
         obtain ⟨⟨_, k0, k1, l0, l1⟩, hk⟩ := LkS.start2 h5 H2.out.2 HTy.out HTB.out.2 ht4
         have HK := Lib.hid (show LkS W W.heap.size s H L V0 Gw w3.heap.size ((w5.setCell ⟨w3.heap.size, 0, none⟩ (.slice Gw.r.a Gw.r.l.length Gw.r.c)).setCell ⟨w3.heap.size, 1, none⟩ (.slice Gw.a Gw.n.length Gw.c)) from hk)
         have HF := Lib.hid (And.intro f0 (And.intro r0 t0))
         clear h5 f0 r0 t0 hk ht4)
      | (go_at_call 10
         have ht4 := HTB.out.1
         refine (HMd.out _ _ H2.out.2.drew H2.out.1.below (Below.refl _ _).drew).mono ?_
         rintro e' w5 ⟨s, B, V0, T0, Gw, rfl, h5, f0, r0, t0⟩
         obtain ⟨⟨_, k0, k1, l0, l1⟩, hk⟩ := LkS.start2 h5 H2.out.2.drew HTy.out HTB.out.2 (ht4.below (Below.refl _ _).drew)
         have HK := Lib.hid (show LkS W W.heap.size s H L V0 Gw w3.heap.size ((w5.setCell ⟨w3.heap.size, 0, none⟩ (.slice Gw.r.a Gw.r.l.length Gw.r.c)).setCell ⟨w3.heap.size, 1, none⟩ (.slice Gw.a Gw.n.length Gw.c)) from hk)
         have HF := Lib.hid (And.intro f0 (And.intro r0 t0))
         clear h5 f0 r0 t0 hk ht4)
      | (go_at_call 10
         refine (HMd.out _ _ H2.out.2 H2.out.1).mono ?_
         rintro e' w5 ⟨s, B, V0, T0, Gw, rfl, h5, f0, r0, t0⟩
         have HK := Lib.hid (show LkS W B s H L V0 Gw w5.heap.size (w5.alloc (.cells #[.slice Gw.r.a Gw.r.l.length Gw.r.c, .slice Gw.a Gw.n.length Gw.c] 27)) from LkS.start h5 H2.out.2 27)
         have HF := Lib.hid (And.intro f0 (And.intro r0 t0))
         clear h5 f0 r0 t0)
      | (go_at_call 10
         refine (HMd.out _ _ H2.out.2.drew H2.out.1.below (Below.refl _ _).drew).mono ?_
         rintro e' w5 ⟨s, B, V0, T0, Gw, rfl, h5, f0, r0, t0⟩
         have HK := Lib.hid (show LkS W B s H L V0 Gw w5.heap.size (w5.alloc (.cells #[.slice Gw.r.a Gw.r.l.length Gw.r.c, .slice Gw.a Gw.n.length Gw.c] 27)) from LkS.start h5 H2.out.2.drew 27)
         have HF := Lib.hid (And.intro f0 (And.intro r0 t0))
         clear h5 f0 r0 t0)
      | (go_at_call 10
         have y4 : Below w4.heap.size w4 (w4.alloc (.cells #[.slice none 0 0, .slice none 0 0] 27)) := (Below.refl _ _).alloc (Nat.le_refl _) _
         refine (HMd.out _ _ (geo_next H2.out.2 y4) (H2.out.1.below y4)).mono ?_
         rintro e' w5 ⟨s, B, V0, T0, Gw, rfl, h5, f0, r0, t0⟩
         obtain ⟨⟨_, k0, k1, l0, l1⟩, hk⟩ := LkS.start2 h5 (geo_next H2.out.2 y4) HTy.out H2.out.2.size (Two2.made w4 (.slice none 0 0) (.slice none 0 0) 27)
         have HK := Lib.hid (show LkS W W.heap.size s H L V0 Gw w4.heap.size ((w5.setCell ⟨w4.heap.size, 0, none⟩ (.slice Gw.r.a Gw.r.l.length Gw.r.c)).setCell ⟨w4.heap.size, 1, none⟩ (.slice Gw.a Gw.n.length Gw.c)) from hk)
         have HF := Lib.hid (And.intro f0 (And.intro r0 t0))
         clear h5 f0 r0 t0 hk y4)
      | (go_at_call 10
         have y4 : Below w4.heap.size w4 (w4.alloc (.cells #[.slice none 0 0, .slice none 0 0] 27)) := (Below.refl _ _).alloc (Nat.le_refl _) _
         refine (HMd.out _ _ (geo_next H2.out.2 y4).drew (H2.out.1.below y4).below (Below.refl _ _).drew).mono ?_
         rintro e' w5 ⟨s, B, V0, T0, Gw, rfl, h5, f0, r0, t0⟩
         obtain ⟨⟨_, k0, k1, l0, l1⟩, hk⟩ := LkS.start2 h5 (geo_next H2.out.2 y4).drew HTy.out H2.out.2.size ((Two2.made w4 (.slice none 0 0) (.slice none 0 0) 27).below (Below.refl _ _).drew)
         have HK := Lib.hid (show LkS W W.heap.size s H L V0 Gw w4.heap.size ((w5.setCell ⟨w4.heap.size, 0, none⟩ (.slice Gw.r.a Gw.r.l.length Gw.r.c)).setCell ⟨w4.heap.size, 1, none⟩ (.slice Gw.a Gw.n.length Gw.c)) from hk)
         have HF := Lib.hid (And.intro f0 (And.intro r0 t0))
         clear h5 f0 r0 t0 hk y4))
    all_goals
      go_wp2_with fail
      go_meet
      first
        | exact ⟨s, _, _, V0, T0, Gw, rfl, rfl, HK, HF⟩
        | exact ⟨s, _, _, V0, T0, Gw, rfl, rfl, Lib.hid (HK.out.below (Below.refl _ _).drew), HF⟩
  case rest =>
    obtain ⟨s, B, kb, V0, T0, Gw, rfl, rfl, HK, HF⟩ := hcut
    clear H1 HR HLt HAl HEi HMd HB ha0 ha1 ha2 ha3
    have HGt : Hid (∀ V u, LkS W B s H L V Gw kb u → Calls Tryz.prog 28 #[.pointer (some ⟨s, 0, none⟩)] u fun e w' => e = .returned (.agg #[.int .i64 (hSp V), .int .i64 (hFr V), .int .i64 (hGc V), .int .i64 (hSc V)]) ∧ Below u.heap.size u w') := Lib.hid (fun V u x => by
      obtain ⟨K, h⟩ := x.st
      exact spget_st h)
    have hfd := run_ctl0
    have hp0 : hSp V0 = 0 ∨ hSp V0 = 1 := by
      have := HF.out.1.gi.geo
      omega
    have HI : Hid (∃ T Z, Fin H L V0 T Z ∧ gr H L V0 = some (Gw.r.l, Gw.n.map NArg.data) ∧ hSp V0 = (hSp V0 + (1 : Nat) - 1) % 2) := Lib.hid ⟨T0, Z0, HF.out.1, HF.out.2.1, by omega⟩
    clear HF
    generalize hp : hSp V0 = p0 at *
    go_upto_block 0 with (go_at_call 28; refine (HGt.out _ _ HK.out).mono ?_; rintro e' w6 ⟨rfl, b6⟩; replace HK := Lib.hid (HK.out.below b6); clear b6)
    go_wp2_with fail
    clear hfd
    go_loopw [8] (fun i wr => ∃ (k : Nat) (V : List Int), 1 ≤ k ∧ k ≤ 5 ∧ i = .int .i64 (k : Int) ∧ Hid (∃ T Z, Fin H L V T Z ∧ gr H L V = some (Gw.r.l, Gw.n.map NArg.data) ∧ hSp V = (p0 + (k : Int) - 1) % 2) ∧ Hid (LkS W B s H L V Gw kb wr)) (fun i _ => 5 - (intOf i).toNat)
    case atStart => exact ⟨1, V0, by omega, by omega, rfl, by rw [← hp]; rw [← hp] at HI; exact HI, HK⟩
    case round =>
      clear HK HI hp
      obtain ⟨k, V, hk1, hk5, rfl, HI, HK⟩ := hrel
      have hki : (k : Int) ≤ 5 := by omega
      by_cases hk4 : k ≤ 4
      · have hk4i : (k : Int) ≤ 4 := by omega
        obtain ⟨T, Z, f, e, hs⟩ := HI.out
        obtain ⟨V2, T2, Z2, e2, f2, r2, s2, d2, d4, ok2⟩ := all_once f e
        have hsp : hSp V2 = (p0 + (k : Int)) % 2 := by rw [s2, hs]; omega
        have HAl := Lib.hid (HK.out.call (V' := V2) (fn := 29) (args := #[.pointer (some ⟨s, 0, none⟩), .slice none 0 0]) (Q := fun e => ∃ v, e = .returned (.tuple #[v, .int .i64 0])) (fun K h => by
          have := gAll_off h none [] 0 (Lent.nil _ _ _) (fun _ => rfl) (by rw [f.off]; decide)
          rw [e2] at this
          exact this.mono fun r w' ⟨v, h1, h2, h3, h4, h5⟩ => ⟨⟨v, h1⟩, h2.mono (fun k q => .inl q), h3, h4⟩))
        have HRd := Lib.hid (fun u (x : LkS W B s H L V2 Gw kb u) => lk_reads x f2.gi r2)
        have HSz := Lib.hid (fun u (x : LkS W B s H L V2 Gw kb u) => lk_size x d4)
        have HUs : Hid (∀ u, LkS W B s H L V2 Gw kb u → Calls Tryz.prog 18 #[.pointer (some ⟨s, 0, none⟩)] u fun e w' => e = .returned (.int .i64 (nSize Gw.n)) ∧ Below u.heap.size u w') := Lib.hid (fun u x => by
          obtain ⟨K, h⟩ := x.st
          have := spused_st h
          rw [if_pos ok2, d2] at this
          rwa [nSize_data])
        have HAk : Hid (∀ (G2 : GArg) u, G2.At u → Gw.At u → gAlike G2 Gw = true → Calls Tryz.prog 17 #[.agg #[.slice G2.r.a G2.r.l.length G2.r.c, .slice G2.a G2.n.length G2.c], .agg #[.slice Gw.r.a Gw.r.l.length Gw.r.c, .slice Gw.a Gw.n.length Gw.c]] u fun e w' => e = .returned (.bool true) ∧ Below u.heap.size u w') := Lib.hid (fun G2 u h1 h2 h3 => by
          have := ralike_is G2 Gw u h1 h2
          rwa [h3] at this)
        have HI2 : Hid (∃ T Z, Fin H L V2 T Z ∧ gr H L V2 = some (Gw.r.l, Gw.n.map NArg.data) ∧ hSp V2 = (p0 + ((k + 1 : Nat) : Int) - 1) % 2) := Lib.hid ⟨T2, Z2, f2, r2, by rw [hsp]; omega⟩
        have hmod : (p0 + (k : Int)).tmod 2 = hSp V2 := by rw [hsp, Int.tmod_eq_emod_of_nonneg (by omega)]
        have hfd := run_ctl0
        clear e2 f2 r2 s2 d2 d4 ok2 f e hs hsp HI
        obtain ⟨sp, hspE⟩ : ∃ z, hSp V2 = z := ⟨_, rfl⟩
        rw [hspE] at hmod HI2
        have HSp2 := Lib.hid hspE
        clear hspE
        go_upto_region 13 with (first
          | (go_at_call 29; refine HAl.out.mono ?_; rintro e' w7 ⟨⟨v, rfl⟩, h7⟩; have HK2 := Lib.hid h7; clear h7)
          | (go_at_call 14; refine (HRd.out _ HK2.out).mono ?_; rintro e' w8 ⟨b, x, c, rfl, b8, hR, hF⟩; have HK3 := Lib.hid (HK2.out.below b8); have HRo := Lib.hid hR; have HFr := Lib.hid hF; clear b8 hR hF)
          | (go_at_call 16; refine (HRo.out _ (Below.refl _ _)).mono ?_; rintro e' w9 ⟨rfl, hw⟩; obtain rfl : w8 = w9 := hw.symm)
          | (go_at_call 15
             refine (HFr.out _ (Below.refl _ _)).mono ?_
             rintro e' wa ⟨G2, rfl, h9, a9, b9⟩
             have HN := Lib.hid (LnS.start (HK3.out.below b9) h9 27)
             have HA9 := Lib.hid a9
             clear h9 a9 b9))
        generalize wa.alloc (.cells #[.slice G2.r.a G2.r.l.length G2.r.c, .slice G2.a G2.n.length G2.c] 27) = wn at *
        generalize wa.heap.size = nb at *
        have HAk2 : Hid (∀ u, LnS W B s H L V2 Gw kb G2 nb u → Calls Tryz.prog 17 #[.agg #[.slice G2.r.a G2.r.l.length G2.r.c, .slice G2.a G2.n.length G2.c], .agg #[.slice Gw.r.a Gw.r.l.length Gw.r.c, .slice Gw.a Gw.n.length Gw.c]] u fun e w' => e = .returned (.bool true) ∧ LnS W B s H L V2 Gw kb G2 nb w') := Lib.hid (fun u x => (HAk.out G2 u x.a x.k.a HA9.out).mono fun e w' ⟨h1, h2⟩ => ⟨h1, x.below h2⟩)
        have HUs2 : Hid (∀ u, LnS W B s H L V2 Gw kb G2 nb u → Calls Tryz.prog 18 #[.pointer (some ⟨s, 0, none⟩)] u fun e w' => e = .returned (.int .i64 (nSize Gw.n)) ∧ LnS W B s H L V2 Gw kb G2 nb w') := Lib.hid (fun u x => (HUs.out u x.k).mono fun e w' ⟨h1, h2⟩ => ⟨h1, x.below h2⟩)
        have HSz2 : Hid (∀ u, LnS W B s H L V2 Gw kb G2 nb u → Calls Tryz.prog 19 #[.agg #[.slice Gw.r.a Gw.r.l.length Gw.r.c, .slice Gw.a Gw.n.length Gw.c]] u fun e w' => e = .returned (.int .i64 (nSize Gw.n)) ∧ LnS W B s H L V2 Gw kb G2 nb w') := Lib.hid (fun u x => (HSz.out u x.k).mono fun e w' ⟨h1, h2⟩ => ⟨h1, x.below h2⟩)
        have HGt2 : Hid (∀ u, LnS W B s H L V2 Gw kb G2 nb u → Calls Tryz.prog 28 #[.pointer (some ⟨s, 0, none⟩)] u fun e w' => e = .returned (.agg #[.int .i64 sp, .int .i64 (hFr V2), .int .i64 (hGc V2), .int .i64 (hSc V2)]) ∧ LnS W B s H L V2 Gw kb G2 nb w') := Lib.hid (fun u x => by
          have := (HGt.out V2 u x.k).mono fun e w' h => And.intro h.1 (x.below h.2)
          rwa [HSp2.out] at this)
        clear HAk HUs HSz HGt HRd HRo HFr HAl HK HK2 HK3 HA9
        obtain ⟨⟨kc0, kc1⟩, nc0, nc1⟩ := HN.out.c
        have hwr : IntKind.i64.wrap (p0 + (k : Int)) = p0 + (k : Int) := w64_nd (by omega) (by omega)
        generalize nSize Gw.n = ns at *
        have HI3 : Hid (∃ T Z, Fin H L V2 T Z ∧ gr H L V2 = some (Gw.r.l, Gw.n.map NArg.data) ∧ hSp V2 = (p0 + ((k + 1 : Nat) : Int) - 1) % 2) := Lib.hid (by
          have := HI2.out
          rwa [← HSp2.out] at this)
        go_region_held3 (fun u => (u.cell? ⟨kb, 0, none⟩ = some (.slice Gw.r.a Gw.r.l.length Gw.r.c) ∧ u.cell? ⟨kb, 1, none⟩ = some (.slice Gw.a Gw.n.length Gw.c)) ∧ u.cell? ⟨nb, 0, none⟩ = some (.slice G2.r.a G2.r.l.length G2.r.c) ∧ u.cell? ⟨nb, 1, none⟩ = some (.slice G2.a G2.n.length G2.c)) (first
          | exact HN.out.c
          | exact (HN.out.below (Below.refl _ _).drew).c
          | exact HA.out.c) (first
          | (go_at_call 17; refine (HAk2.out _ (by first | exact HN.out | exact HN.out.below (Below.refl _ _).drew)).mono ?_; rintro e' w5 ⟨rfl, h5⟩; have HA := Lib.hid h5; clear h5)
          | (go_at_call 18; refine (HUs2.out _ (by first | exact HA.out | exact HA.out.below (Below.refl _ _).drew)).mono ?_; rintro e' w6 ⟨rfl, h6⟩; replace HA := Lib.hid h6; clear h6)
          | (go_at_call 19; refine (HSz2.out _ (by first | exact HA.out | exact HA.out.below (Below.refl _ _).drew)).mono ?_; rintro e' w7 ⟨rfl, h7⟩; replace HA := Lib.hid h7; clear h7)
          | (go_at_call 28; refine (HGt2.out _ (by first | exact HA.out | exact HA.out.below (Below.refl _ _).drew)).mono ?_; rintro e' w8 ⟨rfl, h8⟩; replace HA := Lib.hid h8; clear h8))
        all_goals
          go_wp2_with fail
          exact ⟨⟨k + 1, V2, by omega, by omega, by go_num, HI3, Lib.hid HA.out.k⟩, by simp [intOf]; omega⟩
      · obtain rfl : k = 5 := by omega
        go_wp2_with fail
        go_ret
        exact ⟨rfl, HK.out.b⟩
theorem Twice_walk (ht : TyOk W.heap.size W) (h l : Int) (G : GArg) (hG : G.At W)  :
    Calls Tryz.prog 5 #[.agg #[.int .i64 h, .int .i64 l], G.val] W fun e w' => e = .returned (.bool true) ∧ Below W.heap.size W w' := by
  by_cases c : geOk h l = true ∧ h ≤ 200 ∧ liB G = true
  · obtain ⟨c0, c1, c2⟩ := c
    have hq := geOk_yes c0
    obtain ⟨H, rfl⟩ := Int.eq_ofNat_of_zero_le (show 0 ≤ h by omega)
    obtain ⟨L, rfl⟩ := Int.eq_ofNat_of_zero_le (show 0 ≤ l by omega)
    exact Twice_yes ht H L c0 G hG c2 c1
  · exact Twice_no ht h l G hG  c
end
end Go.Proofs.YtbghglkplbnnkaaGreatDoor
