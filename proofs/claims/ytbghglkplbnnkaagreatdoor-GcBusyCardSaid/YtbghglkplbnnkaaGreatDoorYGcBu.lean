import Derived.Test.YtbghglkplbnnkaaGreatDoorYGcC
import Derived.Test.YtbghglkplbnnkaaGreatDoorYHeapStart
import Derived.Test.YtbghglkplbnnkaaGreatDoorYMadeA
import Derived.Test.YtbghglkplbnnkaaGreatDoorYMade
import Derived.Test.YtbghglkplbnnkaaGreatDoorYEightA
import Derived.Test.YtbghglkplbnnkaaGreatDoorYFollowA
set_option linter.unusedVariables false
set_option linter.unusedSimpArgs false
-- GcBusyM
namespace Go.Proofs.YtbghglkplbnnkaaGreatDoor
open Go.RowKit

section
variable {H L : Nat} {V T O : List Int} {Z : Int → Int} {g : List Int × List (List Int × List Int)}
theorem busy_scan (f : Fin H L V T Z) : hSc (slotsGo H L (turned H V) 7 8).2 = 16 + (1 - hSp V) * (H : Int) := by
  obtain ⟨x1, _, _, _, x5, _, x7⟩ := f.gi.turn
  have k : Keeps H L (turned H V) (turned H V) := ⟨rfl, x1.ok, x1.num, rfl, rfl, Int.le_refl _⟩
  obtain ⟨_, k2, _⟩ := slotsGo_keeps k (by rw [x1.len]; omega) (a := 7) (by decide) 8
  rw [k2, x7]
theorem busy_start (f : Fin H L V T Z) (e : gr H L V = some g) : ∃ V1 T2, str H L V [] = (0, [], V1) ∧ Pro H L V1 T2 T (osz V) [] ∧ gr H L V1 = some g ∧ cnt V1 T2 = 0 ∧ str H L V1 [] = (9, [], V1) := by
  obtain ⟨e0, T2, p, r, s⟩ := f.gi.begin
  refine ⟨_, T2, ?_, p, r.trans e, ?_, ?_⟩
  · rw [str, if_neg (by rw [f.gi.ok]; decide), if_neg (by rw [f.off]; decide), if_pos e0]
    rfl
  · exact p.p.count_start (by rw [busy_scan f, s])
  · rw [str, if_neg (by rw [p.p.gi.ok]; decide), if_pos p.p.on]
theorem busy_left : ∀ (m : Nat) {V T : List Int} (_ : Pro H L V T O Z []) (_ : hSc V ≠ hFr V) (_ : 401 ≤ m + cnt V T) (_ : gr H L V = some g), cnt V T + 1 ≤ g.2.length := by
  intro m
  induction m with
  | zero =>
    intro V T p _ hm _
    have h1 : cnt V T ≤ T.length := List.length_filter_le _ _
    have := (gi_len p.p.gi).1
    omega
  | succ m ih =>
    intro V T p n1 hm e
    obtain ⟨o, V2, T2, _, r, _, re, x⟩ := pro_one p n1
    rcases x with ⟨_, p2, n2, c2⟩ | ⟨_, f2, c2⟩
    · have := ih p2 n2 (by omega) (r.trans e)
      omega
    · obtain ⟨rs, ot, at1, e1, _, l1⟩ := f2.size re
      have eg : some (rs, ot) = some g := by rw [← r.trans e, gr, e1]; rfl
      obtain rfl := Option.some.inj eg
      show cnt V T + 1 ≤ ot.length
      omega
theorem nodes_le (f : Fin H L V T Z) (e : gr H L V = some g) : g.2.length ≤ T.length := by
  obtain ⟨rs, o, at1, e1, _, a1, n1, _, _, lo, _⟩ := gi_frm f.gi
  have eg : some (rs, o) = some g := by rw [← e, gr, e1]; rfl
  obtain rfl := Option.some.inj eg
  have := live_len f.gi a1 n1
  show o.length ≤ T.length
  rw [List.length_nil] at this
  omega
def BuI (H L : Nat) (g : List Int × List (List Int × List Int)) (V : List Int) (k : Nat) (o : Bool) : Prop :=
  gr H L V = some g ∧ ((o = false ∧ k + 1 ≤ g.2.length ∧ ∃ T O Z, Pro H L V T O Z [] ∧ hSc V ≠ hFr V ∧ cnt V T = k) ∨ (o = true ∧ k = g.2.length ∧ ∃ T Z, Fin H L V T Z))
theorem busy_zero {T2 : List Int} (p : Pro H L V T2 O Z []) (e : gr H L V = some g) (c : cnt V T2 = 0) : ∃ V2, stp H L V 0 = (decide (g.2.length = 0), 0, V2) ∧ BuI H L g V2 0 (decide (g.2.length = 0)) ∧ (g.2.length ≠ 0 → V2 = V) := by
  have hz := pro_zero p
  by_cases q : hSc V = hFr V
  · rw [if_pos q] at hz
    obtain ⟨f, re, r, _⟩ := p.p.over q
    have r2 := r.trans e
    obtain ⟨rs, o, at1, e1, _, l1⟩ := f.size (re _ p.reach)
    have eg : some (rs, o) = some g := by rw [← r2, gr, e1]; rfl
    obtain rfl := Option.some.inj eg
    have h0 := p.p.count_end q
    have l0 : (rs, o).2.length = 0 := by show o.length = 0; omega
    rw [decide_eq_true l0]
    exact ⟨_, hz, ⟨r2, .inr ⟨rfl, l0.symm, T2, Z, f⟩⟩, fun h => absurd l0 h⟩
  · rw [if_neg q] at hz
    have h1 := busy_left 401 p q (by omega) e
    have l0 : ¬ g.2.length = 0 := by omega
    rw [decide_eq_false l0]
    exact ⟨_, hz, ⟨e, .inl ⟨rfl, by omega, T2, O, Z, p, q, c⟩⟩, fun _ => rfl⟩
theorem BuI.step {k : Nat} (x : BuI H L g V k false) : ∃ o V2, stp H L V 1 = (o, 0, V2) ∧ BuI H L g V2 (k + 1) o := by
  obtain ⟨e, ⟨_, hk, T, O, Z, p, n1, c⟩ | ⟨q, _⟩⟩ := x
  · obtain ⟨o, V2, T2, e1, r, _, re, x⟩ := pro_one p n1
    refine ⟨o, V2, e1, r.trans e, ?_⟩
    rcases x with ⟨ho, p2, n2, c2⟩ | ⟨ho, f2, c2⟩
    · have := busy_left 401 p2 n2 (by omega) (r.trans e)
      exact .inl ⟨ho, by omega, T2, O, Z, p2, n2, by omega⟩
    · obtain ⟨rs, ot, at1, e3, _, l1⟩ := f2.size re
      have eg : some (rs, ot) = some g := by rw [← r.trans e, gr, e3]; rfl
      obtain rfl := Option.some.inj eg
      exact .inr ⟨ho, show k + 1 = ot.length by omega, T2, Z, f2⟩
  · cases q
theorem BuI.off {k : Nat} (x : BuI H L g V k true) {n : Int} (hn : 0 ≤ n) : k = g.2.length ∧ stp H L V n = (true, 0, V) ∧ hGc V = 0 := by
  obtain ⟨_, ⟨q, _⟩ | ⟨_, h, T, Z, f⟩⟩ := x
  · cases q
  · exact ⟨h, f.stp hn, f.off⟩
theorem BuI.lt {k : Nat} (x : BuI H L g V k false) : k + 1 ≤ g.2.length := by
  obtain ⟨_, ⟨_, h, _⟩ | ⟨q, _⟩⟩ := x
  · exact h
  · cases q
end
end Go.Proofs.YtbghglkplbnnkaaGreatDoor
-- GcBusy
namespace Go.Proofs.YtbghglkplbnnkaaGreatDoor
open Go.RowKit Sec
open Go.Proofs.YtbghglkplbnnkaaGreatDoor.Bk

section
variable {W : World}
set_option maxRecDepth 100000 in
set_option maxHeartbeats 4000000 in
theorem Busy_no (ht : TyOk W.heap.size W) (h l : Int) (G : GArg) (hG : G.At W) (n : Int) (no : ¬ (geOk h l = true ∧ h ≤ 200 ∧ liB G = true ∧ 0 ≤ n ∧ n ≤ 30)) :
    Calls Tryz.prog 6 #[.agg #[.int .i64 h, .int .i64 l], G.val, .int .i64 n] W fun e w' => e = .returned (.bool true) ∧ Below W.heap.size W w' := by
  have HR := Lib.hid (fun u => rgeo_is h l u)
  have HLt : Hid (∀ u, Below W.heap.size W u → Calls Tryz.prog 21 #[.agg #[G.r.val, .slice G.a G.n.length G.c]] u fun e w' => e = .returned (.bool (liB G)) ∧ Below u.heap.size u w') := Lib.hid (fun u y => light_is G u (hG.of_below y))
  have HAl : Hid (∀ u, Below W.heap.size W u → Calls Tryz.prog 9 #[] u fun e w' => e = .returned (.bool true) ∧ Below u.heap.size u w') := Lib.hid (fun u y => gcalive_is ((ht.below y).more y.size))
  have HB := Lib.hid (fun u => two_boxes W h l G.r.val (.slice G.a G.n.length G.c) u)
  have cases : geOk h l = false ∨ (geOk h l = true ∧ ((200 : Int) < h ∨ (h ≤ 200 ∧ (liB G = false ∨ (liB G = true ∧ (n < 0 ∨ (0 ≤ n ∧ 30 < n))))))) := by
    cases q1 : geOk h l
    · exact .inl rfl
    · refine .inr ⟨rfl, ?_⟩
      by_cases c1 : h ≤ 200
      · cases q2 : liB G
        · exact .inr ⟨c1, .inl rfl⟩
        · refine .inr ⟨c1, .inr ⟨rfl, ?_⟩⟩
          by_cases c2 : 0 ≤ n
          · by_cases c3 : n ≤ 30
            · exact absurd ⟨q1, c1, q2, c2, c3⟩ no
            · exact .inr ⟨c2, by omega⟩
          · exact .inl (by omega)
      · exact .inl (by omega)
  clear no ht hG
  unfold GArg.val
  generalize liB G = rt at *
  generalize geOk h l = ok at *
  generalize G.r.val = rv at *
  rcases cases with rfl | ⟨rfl, c | ⟨c1, rfl | ⟨rfl, c | ⟨c2, c3⟩⟩⟩⟩
  all_goals
    go_enter Tryz.func6, Tryz.ntmps6
    go_wp2_with (first
      | (go_at_call 7; refine (HR.out _).mono ?_; rintro e' w1 ⟨rfl, b1⟩; have H1 := Lib.hid b1; obtain ⟨⟨c0, cc, g0, g1⟩, _⟩ := HB.out _ b1; clear b1)
      | (go_at_call 21; refine (HLt.out _ (HB.out _ H1.out).2).mono ?_; rintro e' w2 ⟨rfl, b2⟩; replace H1 := Lib.hid (geo_next H1.out b2); clear b2 c0 cc g0 g1; obtain ⟨⟨c0, cc, g0, g1⟩, _⟩ := HB.out _ H1.out)
      | (go_at_call 9; refine (HAl.out _ (HB.out _ H1.out).2).mono ?_; rintro e' w3 ⟨rfl, b3⟩; replace H1 := Lib.hid (geo_next H1.out b3); clear b3))
    go_ret
    exact ⟨rfl, (HB.out _ H1.out).2⟩
set_option maxRecDepth 100000 in
set_option maxHeartbeats 8000000 in
theorem Busy_yes (ht : TyOk W.heap.size W) (H L : Nat) (hg : geOk H L = true) (G : GArg) (hG : G.At W) (hl : liB G = true) (n : Int) (h200 : (H : Int) ≤ 200) (n0 : 0 ≤ n) (n30 : n ≤ 30) :
    Calls Tryz.prog 6 #[.agg #[.int .i64 (H : Int), .int .i64 (L : Int)], G.val, .int .i64 n] W fun e w' => e = .returned (.bool true) ∧ Below W.heap.size W w' := by
  have HR := Lib.hid (fun u => rgeo_is H L u)
  rw [hg] at HR
  have HLt : Hid (∀ u, Below W.heap.size W u → Calls Tryz.prog 21 #[.agg #[G.r.val, .slice G.a G.n.length G.c]] u fun e w' => e = .returned (.bool true) ∧ Below u.heap.size u w') := Lib.hid (fun u y => by
    have := light_is G u (hG.of_below y)
    rwa [hl] at this)
  have HAl : Hid (∀ u, Below W.heap.size W u → Calls Tryz.prog 9 #[] u fun e w' => e = .returned (.bool true) ∧ Below u.heap.size u w') := Lib.hid (fun u y => gcalive_is ((ht.below y).more y.size))
  have HB := Lib.hid (fun u => two_boxes W H L G.r.val (.slice G.a G.n.length G.c) u)
  have HEi : Hid (∀ u, Below W.heap.size W u → Calls Tryz.prog 22 #[.agg #[G.r.val, .slice G.a G.n.length G.c]] u fun e w' => ∃ G2 : GArg, e = .returned (.agg #[G2.r.val, .slice G2.a G2.n.length G2.c]) ∧ G2.At w' ∧ Below u.heap.size u w') := Lib.hid (fun u y => eight_is G (hG.of_below y) (liB_yes hl))
  have HMd : Hid (∀ u (G2 : GArg), Below W.heap.size W u → G2.At u → Calls Tryz.prog 10 #[.agg #[.int .i64 (H : Int), .int .i64 (L : Int)], .agg #[G2.r.val, .slice G2.a G2.n.length G2.c]] u fun e w' => ∃ s B V T Gw, e = .returned (.tuple #[.pointer (some ⟨s, 0, none⟩), .agg #[.slice Gw.r.a Gw.r.l.length Gw.r.c, .slice Gw.a Gw.n.length Gw.c]]) ∧ LgS u B s H L V Gw w' ∧ Fin H L V T Z0 ∧ gr H L V = some (Gw.r.l, Gw.n.map NArg.data) ∧ T.length ≤ 60) := Lib.hid (fun u G2 y hA => made_is60 ((ht.below y).more y.size) H L hg G2 hA)
  have HTy := Lib.hid ht
  clear ht hG hg hl
  unfold GArg.val
  generalize G.r.val = rv at *
  go_enter Tryz.func6, Tryz.ntmps6
  go_upto_region 3 with (first
      | (go_at_call 7; refine (HR.out _).mono ?_; rintro e' w1 ⟨rfl, b1⟩; have H1 := Lib.hid b1; obtain ⟨⟨c0, cc, g0, g1⟩, _⟩ := HB.out _ b1; clear b1)
      | (go_at_call 21; refine (HLt.out _ (HB.out _ H1.out).2).mono ?_; rintro e' w2 ⟨rfl, b2⟩; replace H1 := Lib.hid (geo_next H1.out b2); clear b2 c0 cc g0 g1; obtain ⟨⟨c0, cc, g0, g1⟩, _⟩ := HB.out _ H1.out)
      | (go_at_call 9; refine (HAl.out _ (HB.out _ H1.out).2).mono ?_; rintro e' w3 ⟨rfl, b3⟩; replace H1 := Lib.hid (geo_next H1.out b3); clear b3; obtain ⟨⟨c0, cc, g0, g1⟩, _⟩ := HB.out _ H1.out))
  have ha0 := fun o : Obj => (HB.out _ (geo_next H1.out ((Below.refl _ _).alloc (Nat.le_refl _) o))).1.1
  have ha1 := fun o : Obj => (HB.out _ (geo_next H1.out ((Below.refl _ _).alloc (Nat.le_refl _) o))).1.2.1
  have ha2 := fun o : Obj => (HB.out _ (geo_next H1.out ((Below.refl _ _).alloc (Nat.le_refl _) o))).1.2.2.1
  have ha3 := fun o : Obj => (HB.out _ (geo_next H1.out ((Below.refl _ _).alloc (Nat.le_refl _) o))).1.2.2.2
  go_cut [7, 8] (fun s7 s8 wx => ∃ (s B kb : Nat) (V0 T0 : List Int) (Gw : GArg), s7 = .pointer (some ⟨s, 0, none⟩) ∧ s8 = .pointer (some ⟨kb, 0, none⟩) ∧ Hid (LkS W B s H L V0 Gw kb wx) ∧ Hid (Fin H L V0 T0 Z0 ∧ gr H L V0 = some (Gw.r.l, Gw.n.map NArg.data) ∧ T0.length ≤ 60))
  case first =>
    go_region_with (first
      | (go_at_call 22
         refine (HEi.out _ (HB.out _ H1.out).2).mono ?_
         rintro e' w4 ⟨G2, rfl, h4, b4⟩
         have H3 := Lib.hid (geo_next H1.out b4)
         have H2 := Lib.hid (And.intro h4 (HB.out _ H3.out).2)
         clear ha0 ha1 ha2 ha3 b4 c0 cc g0 g1
         obtain ⟨⟨c0, cc, g0, g1⟩, _⟩ := HB.out _ H3.out
         have ha0 := fun o : Obj => (HB.out _ (geo_next H3.out ((Below.refl _ _).alloc (Nat.le_refl _) o))).1.1
         have ha1 := fun o : Obj => (HB.out _ (geo_next H3.out ((Below.refl _ _).alloc (Nat.le_refl _) o))).1.2.1)
      | (go_at_call 22
         refine (HEi.out _ (HB.out _ H1.out).2.drew).mono ?_
         rintro e' w4 ⟨G2, rfl, h4, b4⟩
         have H3 := Lib.hid (geo_next H1.out (dr_next b4))
         have H2 := Lib.hid (And.intro h4 (HB.out _ H3.out).2)
         clear ha0 ha1 ha2 ha3 b4 c0 cc g0 g1
         obtain ⟨⟨c0, cc, g0, g1⟩, _⟩ := HB.out _ H3.out
         have ha0 := fun o : Obj => (HB.out _ (geo_next H3.out ((Below.refl _ _).alloc (Nat.le_refl _) o))).1.1
         have ha1 := fun o : Obj => (HB.out _ (geo_next H3.out ((Below.refl _ _).alloc (Nat.le_refl _) o))).1.2.1)
      | (go_at_call 22
         have y3 : Below w3.heap.size w3 (w3.alloc (.cells #[.slice none 0 0, .slice none 0 0] 27)) := (Below.refl _ _).alloc (Nat.le_refl _) _
         have hkb := Two2.made w3 (.slice none 0 0) (.slice none 0 0) 27
         refine (HEi.out _ (geo_next (HB.out _ H1.out).2 y3)).mono ?_
         rintro e' w4 ⟨G2, rfl, h4, b4⟩
         have H3 := Lib.hid (geo_next (geo_next H1.out y3) b4)
         have HTB := Lib.hid (And.intro (hkb.below b4) (HB.out _ H1.out).2.size)
         have H2 := Lib.hid (And.intro h4 (HB.out _ H3.out).2)
         clear ha0 ha1 ha2 ha3 b4 c0 cc g0 g1 y3 hkb
         obtain ⟨⟨c0, cc, g0, g1⟩, _⟩ := HB.out _ H3.out
         have ha0 := fun o : Obj => (HB.out _ (geo_next H3.out ((Below.refl _ _).alloc (Nat.le_refl _) o))).1.1
         have ha1 := fun o : Obj => (HB.out _ (geo_next H3.out ((Below.refl _ _).alloc (Nat.le_refl _) o))).1.2.1)
      | (go_at_call 22
         have y3 : Below w3.heap.size w3 (w3.alloc (.cells #[.slice none 0 0, .slice none 0 0] 27)) := (Below.refl _ _).alloc (Nat.le_refl _) _
         have hkb := Two2.made w3 (.slice none 0 0) (.slice none 0 0) 27
         refine (HEi.out _ (geo_next (HB.out _ H1.out).2 y3).drew).mono ?_
         rintro e' w4 ⟨G2, rfl, h4, b4⟩
         have H3 := Lib.hid (geo_next (geo_next H1.out y3) (dr_next b4))
         have HTB := Lib.hid (And.intro (hkb.below (dr_next b4)) (HB.out _ H1.out).2.size)
         have H2 := Lib.hid (And.intro h4 (HB.out _ H3.out).2)
         clear ha0 ha1 ha2 ha3 b4 c0 cc g0 g1 y3 hkb
         obtain ⟨⟨c0, cc, g0, g1⟩, _⟩ := HB.out _ H3.out
         have ha0 := fun o : Obj => (HB.out _ (geo_next H3.out ((Below.refl _ _).alloc (Nat.le_refl _) o))).1.1
         have ha1 := fun o : Obj => (HB.out _ (geo_next H3.out ((Below.refl _ _).alloc (Nat.le_refl _) o))).1.2.1)
      | (go_at_call 10
         have ht4 := HTB.out.1
         refine (HMd.out _ _ H2.out.2 H2.out.1).mono ?_
         rintro e' w5 ⟨s, B, V0, T0, Gw, rfl, h5, f0, r0, t0⟩
         obtain ⟨⟨_, k0, k1, l0, l1⟩, hk⟩ := LkS.start2 h5 H2.out.2 HTy.out HTB.out.2 ht4
         have HK := Lib.hid (show LkS W W.heap.size s H L V0 Gw w3.heap.size ((w5.setCell ⟨w3.heap.size, 0, none⟩ (.slice Gw.r.a Gw.r.l.length Gw.r.c)).setCell ⟨w3.heap.size, 1, none⟩ (.slice Gw.a Gw.n.length Gw.c)) from hk)
         have HF := Lib.hid (And.intro f0 (And.intro r0 t0))
         clear h5 f0 r0 t0 hk ht4)
      | (go_at_call 10
         have ht4 := HTB.out.1
         refine (HMd.out _ _ H2.out.2.drew H2.out.1.below (Below.refl _ _).drew).mono ?_
         rintro e' w5 ⟨s, B, V0, T0, Gw, rfl, h5, f0, r0, t0⟩
         obtain ⟨⟨_, k0, k1, l0, l1⟩, hk⟩ := LkS.start2 h5 H2.out.2.drew HTy.out HTB.out.2 (ht4.below (Below.refl _ _).drew)
         have HK := Lib.hid (show LkS W W.heap.size s H L V0 Gw w3.heap.size ((w5.setCell ⟨w3.heap.size, 0, none⟩ (.slice Gw.r.a Gw.r.l.length Gw.r.c)).setCell ⟨w3.heap.size, 1, none⟩ (.slice Gw.a Gw.n.length Gw.c)) from hk)
         have HF := Lib.hid (And.intro f0 (And.intro r0 t0))
         clear h5 f0 r0 t0 hk ht4)
      | (go_at_call 10
         refine (HMd.out _ _ H2.out.2 H2.out.1).mono ?_
         rintro e' w5 ⟨s, B, V0, T0, Gw, rfl, h5, f0, r0, t0⟩
         have HK := Lib.hid (show LkS W B s H L V0 Gw w5.heap.size (w5.alloc (.cells #[.slice Gw.r.a Gw.r.l.length Gw.r.c, .slice Gw.a Gw.n.length Gw.c] 27)) from LkS.start h5 H2.out.2 27)
         have HF := Lib.hid (And.intro f0 (And.intro r0 t0))
         clear h5 f0 r0 t0)
      | (go_at_call 10
         refine (HMd.out _ _ H2.out.2.drew H2.out.1.below (Below.refl _ _).drew).mono ?_
         rintro e' w5 ⟨s, B, V0, T0, Gw, rfl, h5, f0, r0, t0⟩
         have HK := Lib.hid (show LkS W B s H L V0 Gw w5.heap.size (w5.alloc (.cells #[.slice Gw.r.a Gw.r.l.length Gw.r.c, .slice Gw.a Gw.n.length Gw.c] 27)) from LkS.start h5 H2.out.2.drew 27)
         have HF := Lib.hid (And.intro f0 (And.intro r0 t0))
         clear h5 f0 r0 t0)
      | (go_at_call 10
         have y4 : Below w4.heap.size w4 (w4.alloc (.cells #[.slice none 0 0, .slice none 0 0] 27)) := (Below.refl _ _).alloc (Nat.le_refl _) _
         refine (HMd.out _ _ (geo_next H2.out.2 y4) (H2.out.1.below y4)).mono ?_
         rintro e' w5 ⟨s, B, V0, T0, Gw, rfl, h5, f0, r0, t0⟩
         obtain ⟨⟨_, k0, k1, l0, l1⟩, hk⟩ := LkS.start2 h5 (geo_next H2.out.2 y4) HTy.out H2.out.2.size (Two2.made w4 (.slice none 0 0) (.slice none 0 0) 27)
         have HK := Lib.hid (show LkS W W.heap.size s H L V0 Gw w4.heap.size ((w5.setCell ⟨w4.heap.size, 0, none⟩ (.slice Gw.r.a Gw.r.l.length Gw.r.c)).setCell ⟨w4.heap.size, 1, none⟩ (.slice Gw.a Gw.n.length Gw.c)) from hk)
         have HF := Lib.hid (And.intro f0 (And.intro r0 t0))
         clear h5 f0 r0 t0 hk y4)
      | (go_at_call 10
         have y4 : Below w4.heap.size w4 (w4.alloc (.cells #[.slice none 0 0, .slice none 0 0] 27)) := (Below.refl _ _).alloc (Nat.le_refl _) _
         refine (HMd.out _ _ (geo_next H2.out.2 y4).drew (H2.out.1.below y4).below (Below.refl _ _).drew).mono ?_
         rintro e' w5 ⟨s, B, V0, T0, Gw, rfl, h5, f0, r0, t0⟩
         obtain ⟨⟨_, k0, k1, l0, l1⟩, hk⟩ := LkS.start2 h5 (geo_next H2.out.2 y4).drew HTy.out H2.out.2.size ((Two2.made w4 (.slice none 0 0) (.slice none 0 0) 27).below (Below.refl _ _).drew)
         have HK := Lib.hid (show LkS W W.heap.size s H L V0 Gw w4.heap.size ((w5.setCell ⟨w4.heap.size, 0, none⟩ (.slice Gw.r.a Gw.r.l.length Gw.r.c)).setCell ⟨w4.heap.size, 1, none⟩ (.slice Gw.a Gw.n.length Gw.c)) from hk)
         have HF := Lib.hid (And.intro f0 (And.intro r0 t0))
         clear h5 f0 r0 t0 hk y4))
    all_goals
      go_wp2_with fail
      go_meet
      first
        | exact ⟨s, _, _, V0, T0, Gw, rfl, rfl, HK, HF⟩
        | exact ⟨s, _, _, V0, T0, Gw, rfl, rfl, Lib.hid (HK.out.below (Below.refl _ _).drew), HF⟩
  case rest =>
    obtain ⟨s, B, kb, V0, T0, Gw, rfl, rfl, HK, HF⟩ := hcut
    clear H1 HR HLt HAl HEi HMd HB ha0 ha1 ha2 ha3
    obtain ⟨V1, T1, e1, p1, r1, k1, e9⟩ := busy_start HF.out.1 HF.out.2.1
    obtain ⟨V2, e2, I2, same⟩ := busy_zero p1 r1 k1
    have hN0 := nodes_le HF.out.1 HF.out.2.1
    have hN6 := HF.out.2.2
    have hNe : (Gw.r.l, Gw.n.map NArg.data).2.length = Gw.n.length := List.length_map ..
    rw [hNe] at e2 I2 same hN0
    obtain ⟨N, hN⟩ : ∃ N, Gw.n.length = N := ⟨_, rfl⟩
    have HC : Hid (∀ V u, LkS W B s H L V Gw kb u → u.cell? ⟨kb, 1, none⟩ = some (.slice Gw.a N Gw.c)) := Lib.hid (fun V u x => by
      rw [← hN]
      exact x.c.2)
    rw [hN] at e2 I2 same hN0 hNe
    have hN60 : N ≤ 60 := by omega
    have HNe := Lib.hid hNe
    have HSt1 : Hid (∀ u, LkS W B s H L V0 Gw kb u → Calls Tryz.prog 11 #[.pointer (some ⟨s, 0, none⟩), .slice none 0 0] u fun e w' => (∃ r, e = .returned (.tuple #[r, .int .i64 0])) ∧ LkS W B s H L V1 Gw kb w') := Lib.hid (fun u x => x.call (fun K h => by
      have := gStart_is h none [] 0 (Lent.nil _ _ _)
      rw [e1] at this
      exact this.mono fun r w' ⟨v, h1, h2, h3, h4, _⟩ => ⟨⟨v, h1⟩, h2.mono (fun k q => .inl q), h3, h4⟩))
    have HSt2 : Hid (∀ u, LkS W B s H L V1 Gw kb u → Calls Tryz.prog 11 #[.pointer (some ⟨s, 0, none⟩), .slice none 0 0] u fun e w' => (∃ r, e = .returned (.tuple #[r, .int .i64 9])) ∧ LkS W B s H L V1 Gw kb w') := Lib.hid (fun u x => x.call (fun K h => by
      have := gStart_is h none [] 0 (Lent.nil _ _ _)
      rw [e9] at this
      exact this.mono fun r w' ⟨v, h1, h2, h3, h4, _⟩ => ⟨⟨v, h1⟩, h2.mono (fun k q => .inl q), h3, h4⟩))
    have HGt : Hid (∀ V u, LkS W B s H L V Gw kb u → Calls Tryz.prog 28 #[.pointer (some ⟨s, 0, none⟩)] u fun e w' => e = .returned (.agg #[.int .i64 (hSp V), .int .i64 (hFr V), .int .i64 (hGc V), .int .i64 (hSc V)]) ∧ Below u.heap.size u w') := Lib.hid (fun V u x => by
      obtain ⟨K, h⟩ := x.st
      exact spget_st h)
    have HS0 : Hid (∀ u, LkS W B s H L V1 Gw kb u → Calls Tryz.prog 13 #[.pointer (some ⟨s, 0, none⟩), .int .i64 0] u fun e w' => e = .returned (.tuple #[.bool (decide (N = 0)), .int .i64 0]) ∧ LkS W B s H L V2 Gw kb w') := Lib.hid (fun u x => x.call (Q := fun e => e = .returned (.tuple #[.bool (decide (N = 0)), .int .i64 0])) (fun K h => by
      have := gStep_is h 0 (by decide)
      rw [e2] at this
      exact this))
    have hfd := run_ctl3
    have HI := Lib.hid I2
    clear hN0 hN6 hNe hN HF e1 p1 r1 k1 e9 e2 I2
    go_upto_region 10 with (first
      | (go_at_call 11; with_reducible refine (HSt1.out _ HK.out).mono ?_; rintro e' w6 ⟨⟨r, rfl⟩, h6⟩; clear HK HSt1; have HKa := Lib.hid h6; clear h6)
      | (go_at_call 28; with_reducible refine (HGt.out _ _ HKa.out).mono ?_; rintro e' w7 ⟨rfl, b7⟩; replace HKa := Lib.hid (HKa.out.below b7); clear b7)
      | (go_at_call 11; with_reducible refine (HSt2.out _ HKa.out).mono ?_; rintro e' w8 ⟨⟨r2, rfl⟩, h8⟩; clear HSt2; have HKb := Lib.hid h8; clear h8 HKa)
      | (go_at_call 13; with_reducible refine (HS0.out _ HKb.out).mono ?_; rintro e' w9 ⟨rfl, h9⟩; clear HS0; have HK := Lib.hid h9; clear h9 HKb))
    have kc1 := HC.out _ _ HK.out
    by_cases hz : N = 0
    all_goals
      first
        | (have hzi : (N : Int) = 0 := by omega
           rw [decide_eq_true hz] at HI
           simp only [decide_eq_true hz])
        | (have hzi : ¬ (N : Int) = 0 := by omega
           have hV := same hz
           subst hV
           rw [decide_eq_false hz] at HI
           simp only [decide_eq_false hz])
      clear same
      go_upto_region 14 with (first
        | (go_at_call 28; with_reducible refine (HGt.out _ _ HK.out).mono ?_; rintro e' wa ⟨rfl, ba⟩; replace HK := Lib.hid (HK.out.below ba); clear ba))
      clear kc1 hfd
      go_wp2_with fail
      go_loopw [14, 16] (fun o i wr => ∃ (k : Nat) (ov : Bool) (V : List Int), k ≤ 60 ∧ o = .bool ov ∧ i = .int .i64 (k : Int) ∧ Hid (BuI H L (Gw.r.l, Gw.n.map NArg.data) V k ov) ∧ Hid (LkS W B s H L V Gw kb wr)) (fun _ i _ => 61 - (intOf i).toNat)
      case atStart => exact ⟨0, _, _, by omega, rfl, rfl, HI, HK⟩
      case round =>
        clear HK HI
        obtain ⟨k, ov, V, hk60, rfl, rfl, HI, HK⟩ := hrel
        have hk100 : (k : Int) ≤ 100 := by omega
        cases ov
        · have hlt := HI.out.lt
          rw [HNe.out] at hlt
          obtain ⟨o2, V3, e3, I3⟩ := HI.out.step
          have HI3 := Lib.hid I3
          have HSp := Lib.hid (HK.out.call (V' := V3) (fn := 13) (args := #[.pointer (some ⟨s, 0, none⟩), .int .i64 1]) (Q := fun e => e = .returned (.tuple #[.bool o2, .int .i64 0])) (fun K h => by
            have := gStep_is h 1 (by decide)
            rw [e3] at this
            exact this))
          clear e3 I3
          go_wp2_with (go_at_call 13; refine HSp.out.mono ?_; rintro e' wb ⟨rfl, hb⟩; have HK3 := Lib.hid hb; clear hb)
          exact ⟨⟨k + 1, o2, V3, by omega, rfl, by go_num, HI3, HK3⟩, by simp [intOf]; omega⟩
        · obtain ⟨hkN, e4, off⟩ := HI.out.off n0
          rw [HNe.out] at hkN
          subst hkN
          have HSp := Lib.hid (HK.out.call (V' := V) (fn := 13) (args := #[.pointer (some ⟨s, 0, none⟩), .int .i64 n]) (Q := fun e => e = .returned (.tuple #[.bool true, .int .i64 0])) (fun K h => by
            have := gStep_is h n (by omega)
            rw [e4] at this
            exact this))
          have HOn : Hid (∀ u, LkS W B s H L V Gw kb u → Calls Tryz.prog 12 #[.pointer (some ⟨s, 0, none⟩)] u fun e w' => e = .returned (.bool false) ∧ LkS W B s H L V Gw kb w') := Lib.hid (fun u x => by
            obtain ⟨K, h⟩ := x.st
            have := gOn_is h
            rw [off, decide_eq_false (by decide)] at this
            exact this.mono fun e w' ⟨h1, h2⟩ => ⟨h1, x.below h2⟩)
          clear e4 off
          go_wp2_with (first
            | (go_at_call 13; refine HSp.out.mono ?_; rintro e' wb ⟨rfl, hb⟩; have HK3 := Lib.hid hb; have kc1 := HC.out _ _ hb; clear hb)
            | (go_at_call 12; refine (HOn.out _ HK3.out).mono ?_; rintro e' wc ⟨rfl, hc⟩; have HK4 := Lib.hid hc; clear hc))
          go_ret
          exact ⟨rfl, HK4.out.b⟩
theorem Busy_walk (ht : TyOk W.heap.size W) (h l : Int) (G : GArg) (hG : G.At W) (n : Int) :
    Calls Tryz.prog 6 #[.agg #[.int .i64 h, .int .i64 l], G.val, .int .i64 n] W fun e w' => e = .returned (.bool true) ∧ Below W.heap.size W w' := by
  by_cases c : geOk h l = true ∧ h ≤ 200 ∧ liB G = true ∧ 0 ≤ n ∧ n ≤ 30
  · obtain ⟨c0, c1, c2, c3, c4⟩ := c
    have hq := geOk_yes c0
    obtain ⟨H, rfl⟩ := Int.eq_ofNat_of_zero_le (show 0 ≤ h by omega)
    obtain ⟨L, rfl⟩ := Int.eq_ofNat_of_zero_le (show 0 ≤ l by omega)
    exact Busy_yes ht H L c0 G hG c2 n c1 c3 c4
  · exact Busy_no ht h l G hG n c
end
end Go.Proofs.YtbghglkplbnnkaaGreatDoor
