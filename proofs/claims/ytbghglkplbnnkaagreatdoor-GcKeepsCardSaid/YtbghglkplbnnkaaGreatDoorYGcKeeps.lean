import Derived.Test.YtbghglkplbnnkaaGreatDoorYMadeA
import Derived.Test.YtbghglkplbnnkaaGreatDoorYHeapCheck
import Derived.Test.YtbghglkplbnnkaaGreatDoorYMade
import Derived.Test.YtbghglkplbnnkaaGreatDoorYGraphRight
set_option linter.unusedVariables false
set_option linter.unusedSimpArgs false
namespace Go.Proofs.YtbghglkplbnnkaaGreatDoor
open Go.RowKit Sec
open Go.Proofs.YtbghglkplbnnkaaGreatDoor.Bk

theorem and3_range (x : Int) : ∃ r : Nat, r < 4 ∧ bits BinOp.and IntKind.i64 x 3 = (r : Int) := by
  show ∃ r : Nat, r < 4 ∧ IntKind.i64.wrap ((BitVec.ofInt 64 x &&& BitVec.ofInt 64 3).toNat : Int) = (r : Int)
  have h3 : (BitVec.ofInt 64 x &&& BitVec.ofInt 64 3).toNat ≤ 3 := by
    rw [BitVec.toNat_and]
    exact Nat.and_le_right
  refine ⟨(BitVec.ofInt 64 x &&& BitVec.ofInt 64 3).toNat, by omega, ?_⟩
  generalize (BitVec.ofInt 64 x &&& BitVec.ofInt 64 3).toNat = r at *
  rw [IntKind.wrap_i64]
  omega
section
variable {W : World}
set_option maxRecDepth 100000 in
set_option maxHeartbeats 4000000 in
theorem Keeps_no (ht : TyOk W.heap.size W) (h l : Int) (G : GArg) (hG : G.At W) (q : Option Addr) (sl : List Int) (sc : Nat) (hs : sl.length ≤ maxLen) (no : ¬ (geOk h l = true ∧ h ≤ 200 ∧ G.n.length ≤ 60 ∧ gRight G = true ∧ sl.length ≤ 60)) :
    Calls Tryz.prog 3 #[.agg #[.int .i64 h, .int .i64 l], G.val, .slice q sl.length sc] W fun e w' => e = .returned (.bool true) ∧ Below W.heap.size W w' := by
  have hnl : G.n.length ≤ maxLen := hG.2.2.2
  unfold maxLen at hnl hs
  have HR := Lib.hid (fun u => rgeo_is h l u)
  have HRt : Hid (∀ u, Below W.heap.size W u → Calls Tryz.prog 8 #[.agg #[G.r.val, .slice G.a G.n.length G.c]] u fun e w' => e = .returned (.bool (gRight G)) ∧ Below u.heap.size u w') := Lib.hid (fun u y => rgright_is G u (hG.of_below y))
  have HAl : Hid (∀ u, Below W.heap.size W u → Calls Tryz.prog 9 #[] u fun e w' => e = .returned (.bool true) ∧ Below u.heap.size u w') := Lib.hid (fun u y => gcalive_is ((ht.below y).more y.size))
  have HB := Lib.hid (fun u => two_boxes W h l G.r.val (.slice G.a G.n.length G.c) u)
  have cases : geOk h l = false ∨ (geOk h l = true ∧ ((200 : Int) < h ∨ (h ≤ 200 ∧ ((60 : Int) < (G.n.length : Int) ∨ ((G.n.length : Int) ≤ 60 ∧ (gRight G = false ∨ (gRight G = true ∧ (60 : Int) < (sl.length : Int)))))))) := by
    cases q1 : geOk h l
    · exact .inl rfl
    · refine .inr ⟨rfl, ?_⟩
      cases q2 : gRight G
      · by_cases c1 : h ≤ 200
        · by_cases c2 : G.n.length ≤ 60
          · exact .inr ⟨c1, .inr ⟨by omega, .inl rfl⟩⟩
          · exact .inr ⟨c1, .inl (by omega)⟩
        · exact .inl (by omega)
      · have no2 : ¬ (h ≤ 200 ∧ G.n.length ≤ 60 ∧ sl.length ≤ 60) := fun x => no ⟨q1, x.1, x.2.1, q2, x.2.2⟩
        by_cases c1 : h ≤ 200
        · by_cases c2 : G.n.length ≤ 60
          · exact .inr ⟨c1, .inr ⟨by omega, .inr ⟨rfl, by omega⟩⟩⟩
          · exact .inr ⟨c1, .inl (by omega)⟩
        · exact .inl (by omega)
  clear no ht hG
  unfold GArg.val
  generalize gRight G = rt at *
  generalize geOk h l = ok at *
  generalize G.r.val = rv at *
  rcases cases with rfl | ⟨rfl, c⟩
  rotate_left
  rcases c with c | ⟨c1, c⟩
  rotate_left
  rcases c with c | ⟨c2, c⟩
  rotate_left
  rcases c with rfl | ⟨rfl, c⟩
  all_goals
    go_enter Tryz.func3, Tryz.ntmps3
    go_wp2_with (first
      | (go_at_call 7; refine (HR.out _).mono ?_; rintro e' w1 ⟨rfl, b1⟩; have H1 := Lib.hid b1; obtain ⟨⟨c0, cc, g0, g1⟩, _⟩ := HB.out _ b1; clear b1)
      | (go_at_call 8; refine (HRt.out _ (HB.out _ H1.out).2).mono ?_; rintro e' w2 ⟨rfl, b2⟩; replace H1 := Lib.hid (geo_next H1.out b2); clear b2 c0 cc g0 g1; obtain ⟨⟨c0, cc, g0, g1⟩, _⟩ := HB.out _ H1.out)
      | (go_at_call 9; refine (HAl.out _ (HB.out _ H1.out).2).mono ?_; rintro e' w3 ⟨rfl, b3⟩; replace H1 := Lib.hid (geo_next H1.out b3); clear b3))
    go_ret
    exact ⟨rfl, (HB.out _ H1.out).2⟩
set_option maxRecDepth 100000 in
set_option maxHeartbeats 8000000 in
theorem Keeps_yes (ht : TyOk W.heap.size W) (H L : Nat) (hg : geOk H L = true) (h200 : (H : Int) ≤ 200) (G : GArg) (hG : G.At W) (h60 : G.n.length ≤ 60) (hRt : gRight G = true) (q : Option Addr) (sl : List Int) (sc : Nat) (hS : LiesAt W q (vals sl)) (hs : sl.length ≤ 60) :
    Calls Tryz.prog 3 #[.agg #[.int .i64 (H : Int), .int .i64 (L : Int)], G.val, .slice q sl.length sc] W fun e w' => e = .returned (.bool true) ∧ Below W.heap.size W w' := by
  have HR := Lib.hid (fun u => rgeo_is H L u)
  have HRt : Hid (∀ u, Below W.heap.size W u → Calls Tryz.prog 8 #[.agg #[G.r.val, .slice G.a G.n.length G.c]] u fun e w' => e = .returned (.bool true) ∧ Below u.heap.size u w') := Lib.hid (fun u y => by
    have := rgright_is G u (hG.of_below y)
    rwa [hRt] at this)
  rw [hg] at HR
  have HAl : Hid (∀ u, Below W.heap.size W u → Calls Tryz.prog 9 #[] u fun e w' => e = .returned (.bool true) ∧ Below u.heap.size u w') := Lib.hid (fun u y => gcalive_is ((ht.below y).more y.size))
  have HB := Lib.hid (fun u => two_boxes W H L G.r.val (.slice G.a G.n.length G.c) u)
  have HMd : Hid (∀ u, Below W.heap.size W u → Calls Tryz.prog 10 #[.agg #[.int .i64 (H : Int), .int .i64 (L : Int)], .agg #[G.r.val, .slice G.a G.n.length G.c]] u fun e w' => ∃ s B V T Gw, e = .returned (.tuple #[.pointer (some ⟨s, 0, none⟩), .agg #[.slice Gw.r.a Gw.r.l.length Gw.r.c, .slice Gw.a Gw.n.length Gw.c]]) ∧ LgS u B s H L V Gw w' ∧ Fin H L V T Z0 ∧ gr H L V = some (Gw.r.l, Gw.n.map NArg.data)) := Lib.hid (fun u y => made_is ((ht.below y).more y.size) H L hg G (hG.of_below y))
  have HS := Lib.hid hS
  clear ht hG hRt hg hS
  unfold GArg.val
  have h60i : (G.n.length : Int) ≤ 60 := by omega
  have hsi : (sl.length : Int) ≤ 60 := by omega
  generalize G.r.val = rv at *
  go_enter Tryz.func3, Tryz.ntmps3
  go_upto_region 6 with (first
    | (go_at_call 7; refine (HR.out _).mono ?_; rintro e' w1 ⟨rfl, b1⟩; have H1 := Lib.hid b1; obtain ⟨⟨c0, cc, g0, g1⟩, _⟩ := HB.out _ b1; clear b1)
    | (go_at_call 8; refine (HRt.out _ (HB.out _ H1.out).2).mono ?_; rintro e' w2 ⟨rfl, b2⟩; replace H1 := Lib.hid (geo_next H1.out b2); clear b2 c0 cc g0 g1; obtain ⟨⟨c0, cc, g0, g1⟩, _⟩ := HB.out _ H1.out)
    | (go_at_call 9; refine (HAl.out _ (HB.out _ H1.out).2).mono ?_; rintro e' w3 ⟨rfl, b3⟩; replace H1 := Lib.hid (geo_next H1.out b3); clear b3 c0 cc g0 g1; obtain ⟨⟨c0, cc, g0, g1⟩, _⟩ := HB.out _ H1.out)
    | (go_at_call 10; refine (HMd.out _ (HB.out _ H1.out).2).mono ?_; rintro e' w4 ⟨s, B, V0, T0, Gw, rfl, h4, f0, r0⟩; have HK := Lib.hid (show LkS W B s H L V0 Gw w4.heap.size (w4.alloc (.cells #[.slice Gw.r.a Gw.r.l.length Gw.r.c, .slice Gw.a Gw.n.length Gw.c] 27)) from LkS.start h4 (HB.out _ H1.out).2 27); have HF := Lib.hid (And.intro f0 r0); clear h4 f0 r0 c0 cc g0 g1))
  obtain ⟨V1, e1, k1, on1⟩ := KpI.begin HF.out.1 HF.out.2
  have HSt : Hid (∀ B kb u, LkS W B s H L V0 Gw kb u → Calls Tryz.prog 11 #[.pointer (some ⟨s, 0, none⟩), .slice none 0 0] u fun e w' => (∃ r, e = .returned (.tuple #[r, .int .i64 0])) ∧ LkS W B s H L V1 Gw kb w') := Lib.hid (fun B kb u x => x.call (fun K h => by
    have := gStart_is h none [] 0 (Lent.nil _ _ _)
    rw [e1] at this
    exact this.mono fun r w' ⟨v, h1, h2, h3, h4, _⟩ => ⟨⟨v, h1⟩, h2.mono (fun k q => .inl q), h3, h4⟩))
  have HOn : Hid (∀ B kb u, LkS W B s H L V1 Gw kb u → Calls Tryz.prog 12 #[.pointer (some ⟨s, 0, none⟩)] u fun e w' => e = .returned (.bool true) ∧ Below u.heap.size u w') := Lib.hid (fun B kb u x => by
    obtain ⟨K, h⟩ := x.st
    have := gOn_is h
    rwa [decide_eq_true on1] at this)
  have HI := Lib.hid k1
  clear e1 k1 on1 HF HR HRt HAl HMd HB H1
  generalize w4.alloc (.cells #[.slice Gw.r.a Gw.r.l.length Gw.r.c, .slice Gw.a Gw.n.length Gw.c] 27) = w5 at *
  generalize w4.heap.size = kb at *
  go_upto_region 11 with (first
    | (go_at_call 11; refine (HSt.out _ _ _ HK.out).mono ?_; rintro e' w6 ⟨⟨r, rfl⟩, h6⟩; replace HK := Lib.hid h6; clear h6)
    | (go_at_call 12; refine (HOn.out _ _ _ HK.out).mono ?_; rintro e' w7 ⟨rfl, b7⟩; replace HK := Lib.hid (HK.out.below b7); clear b7))
  clear HSt HOn
  go_loopw [11, 12] (fun o i wr => ∃ (k : Nat) (ov : Bool) (V : List Int), (ov = false → k ≤ sl.length) ∧ k ≤ sl.length + 1 ∧ o = .bool ov ∧ i = .int .i64 (k : Int) ∧ Hid (KpI H L (Gw.r.l, Gw.n.map NArg.data) V ov) ∧ Hid (LkS W B s H L V Gw kb wr)) (fun _ i _ => sl.length + 1 - (intOf i).toNat)
  case atStart => exact ⟨0, false, V1, fun _ => Nat.zero_le _, by omega, rfl, rfl, HI, HK⟩
  case round =>
    clear HK HI
    obtain ⟨k, ov, V, hko, hk1, rfl, rfl, HI, HK⟩ := hrel
    cases ov
    · have hk := hko rfl
      clear hko
      have hki : (k : Int) ≤ (sl.length : Int) := by omega
      have HSe : ∀ n : Int, 0 ≤ n → n ≤ 10000 → ∃ (o2 : Bool) (V2 : List Int), (1000 ≤ n → o2 = true) ∧ Hid (KpI H L (Gw.r.l, Gw.n.map NArg.data) V2 o2) ∧ Hid (Calls Tryz.prog 13 #[.pointer (some ⟨s, 0, none⟩), .int .i64 n] wr fun e w' => e = .returned (.tuple #[.bool o2, .int .i64 0]) ∧ LkS W B s H L V2 Gw kb w') := fun n h0 h1 => by
        obtain ⟨o2, V2, e2, I2, ov2⟩ := HI.out.step h0
        refine ⟨o2, V2, ov2, Lib.hid I2, Lib.hid (HK.out.call (Q := fun e => e = .returned (.tuple #[.bool o2, .int .i64 0])) (fun K h => ?_))⟩
        have := gStep_is h n (by omega)
        rw [e2] at this
        exact this
      have HRd : Hid (∀ V2 o2 u, KpI H L (Gw.r.l, Gw.n.map NArg.data) V2 o2 → LkS W B s H L V2 Gw kb u → Calls Tryz.prog 14 #[.pointer (some ⟨s, 0, none⟩)] u fun r w' => ∃ b x c, r = .returned (.pointer (some ⟨b, 0, none⟩)) ∧ Below u.heap.size u w' ∧
          (∀ u, Below w'.heap.size w' u → Calls Tryz.prog 16 #[.pointer (some ⟨b, 0, none⟩)] u fun e w2 => e = .returned (.slice (some ⟨x, 8, none⟩) 8 (c - 8)) ∧ w2 = u) ∧
          (∀ u, Below w'.heap.size w' u → Calls Tryz.prog 15 #[.pointer (some ⟨b, 0, none⟩), .slice (some ⟨x, 8, none⟩) 8 (c - 8)] u fun e w2 => ∃ G2 : GArg, e = .returned (.tuple #[.agg #[.slice G2.r.a G2.r.l.length G2.r.c, .slice G2.a G2.n.length G2.c], .bool true]) ∧ G2.At w2 ∧ gAlike G2 Gw = true ∧ Below u.heap.size u w2)) := Lib.hid (fun V2 o2 u i x => by
        obtain ⟨K, h⟩ := x.st
        obtain ⟨T, O, Z, g⟩ := i.gi
        refine (heap_reads h g).mono ?_
        rintro r w' ⟨b, x, c, rfl, y, _, hR, hF⟩
        refine ⟨b, x, c, rfl, y, hR, fun u1 z => (hF u1 z).mono ?_⟩
        rintro e w2 ⟨G2, rfl, ⟨hA, _⟩, e2, b2⟩
        have e3 : some (G2.r.l, G2.n.map NArg.data) = some (Gw.r.l, Gw.n.map NArg.data) := e2.symm.trans i.1
        have e4 := Option.some.inj e3
        exact ⟨G2, rfl, hA, decide_eq_true (Prod.mk.inj e4), b2⟩)
      have HAk : Hid (∀ (G2 : GArg) u, G2.At u → Gw.At u → gAlike G2 Gw = true → Calls Tryz.prog 17 #[.agg #[.slice G2.r.a G2.r.l.length G2.r.c, .slice G2.a G2.n.length G2.c], .agg #[.slice Gw.r.a Gw.r.l.length Gw.r.c, .slice Gw.a Gw.n.length Gw.c]] u fun e w' => e = .returned (.bool true) ∧ Below u.heap.size u w') := Lib.hid (fun G2 u h1 h2 h3 => by
        have := ralike_is G2 Gw u h1 h2
        rwa [h3] at this)
      rcases Nat.lt_or_ge k sl.length with hlt | hge
      · obtain ⟨g2, og, rfl, hg2, e2⟩ := num_lies HS.out hlt
        have hlti : (k : Int) < (sl.length : Int) := by omega
        have c2 := (HK.out.b.cell (p := ⟨g2, og + k, none⟩) hg2).trans e2
        obtain ⟨r4, hr4, er⟩ := and3_range (sl.getD k 0)
        obtain ⟨o2, V2, _, HI2, HStp⟩ := HSe (r4 : Int) (by omega) (by omega)
        rw [← er] at HStp
        have HRd2 := Lib.hid (fun u => HRd.out V2 o2 u HI2.out)
        clear e2 er HSe HRd hki
        generalize sl.getD k 0 = y at *
        go_wp2_with (first
          | (go_at_call 13; refine HStp.out.mono ?_; rintro e' w6 ⟨rfl, h6⟩; have HK2 := Lib.hid h6; clear h6)
          | (go_at_call 14; refine (HRd2.out _ HK2.out).mono ?_; rintro e' w7 ⟨b, x, c, rfl, b7, hR, hF⟩; have HK3 := Lib.hid (HK2.out.below b7); have HRo := Lib.hid hR; have HFr := Lib.hid hF; clear b7 hR hF)
          | (go_at_call 16; refine (HRo.out _ (Below.refl _ _)).mono ?_; rintro e' w8 ⟨rfl, hw⟩; obtain rfl : w7 = w8 := hw.symm)
          | (go_at_call 15
             refine (HFr.out _ (Below.refl _ _)).mono ?_
             rintro e' w9 ⟨G2, rfl, h9, a9, b9⟩
             have y9 : Below w9.heap.size w9 (w9.alloc (.cells #[.slice G2.r.a G2.r.l.length G2.r.c, .slice G2.a G2.n.length G2.c] 27)) := (Below.refl _ _).alloc (Nat.le_refl _) _
             have HK5 := Lib.hid ((HK3.out.below b9).below y9)
             have H9 := Lib.hid (And.intro (h9.below y9) a9)
             have kc := HK5.out.c
             unfold IArg.val at kc
             obtain ⟨kc0, kc1⟩ := kc
             clear h9 a9 b9 y9)
          | (go_at_call 17; refine (HAk.out _ _ H9.out.1 HK5.out.a H9.out.2).mono ?_; rintro e' w10 ⟨rfl, b10⟩; have HK4 := Lib.hid (HK5.out.below b10); clear b10))
        exact ⟨⟨k + 1, o2, V2, fun _ => hlt, by omega, rfl, by go_num, HI2, HK4⟩, by simp [intOf]; omega⟩
      · obtain rfl : k = sl.length := by omega
        have hnlt : ¬ (sl.length : Int) < (sl.length : Int) := by omega
        obtain ⟨o2, V2, ho, HI2, HStp⟩ := HSe 10000 (by decide) (by decide)
        obtain rfl : o2 = true := ho (by decide)
        have HRd2 := Lib.hid (fun u => HRd.out V2 true u HI2.out)
        clear HSe HRd hki ho
        go_wp2_with (first
          | (go_at_call 13; refine HStp.out.mono ?_; rintro e' w6 ⟨rfl, h6⟩; have HK2 := Lib.hid h6; clear h6)
          | (go_at_call 14; refine (HRd2.out _ HK2.out).mono ?_; rintro e' w7 ⟨b, x, c, rfl, b7, hR, hF⟩; have HK3 := Lib.hid (HK2.out.below b7); have HRo := Lib.hid hR; have HFr := Lib.hid hF; clear b7 hR hF)
          | (go_at_call 16; refine (HRo.out _ (Below.refl _ _)).mono ?_; rintro e' w8 ⟨rfl, hw⟩; obtain rfl : w7 = w8 := hw.symm)
          | (go_at_call 15
             refine (HFr.out _ (Below.refl _ _)).mono ?_
             rintro e' w9 ⟨G2, rfl, h9, a9, b9⟩
             have y9 : Below w9.heap.size w9 (w9.alloc (.cells #[.slice G2.r.a G2.r.l.length G2.r.c, .slice G2.a G2.n.length G2.c] 27)) := (Below.refl _ _).alloc (Nat.le_refl _) _
             have HK5 := Lib.hid ((HK3.out.below b9).below y9)
             have H9 := Lib.hid (And.intro (h9.below y9) a9)
             have kc := HK5.out.c
             unfold IArg.val at kc
             obtain ⟨kc0, kc1⟩ := kc
             clear h9 a9 b9 y9)
          | (go_at_call 17; refine (HAk.out _ _ H9.out.1 HK5.out.a H9.out.2).mono ?_; rintro e' w10 ⟨rfl, b10⟩; have HK4 := Lib.hid (HK5.out.below b10); clear b10))
        exact ⟨⟨sl.length + 1, true, V2, fun q => (by cases q), by omega, rfl, by go_num, HI2, HK4⟩, by simp [intOf] <;> omega⟩
    · obtain ⟨z0, z1, z2, z3, z4⟩ := HI.out.size
      have HOn : Hid (∀ u, LkS W B s H L V Gw kb u → Calls Tryz.prog 12 #[.pointer (some ⟨s, 0, none⟩)] u fun e w' => e = .returned (.bool false) ∧ LkS W B s H L V Gw kb w') := Lib.hid (fun u x => by
        obtain ⟨K, h⟩ := x.st
        have := gOn_is h
        rw [z0, decide_eq_false (by decide)] at this
        exact this.mono fun e w' ⟨h1, h2⟩ => ⟨h1, x.below h2⟩)
      have HUs : Hid (∀ u, LkS W B s H L V Gw kb u → Calls Tryz.prog 18 #[.pointer (some ⟨s, 0, none⟩)] u fun e w' => e = .returned (.int .i64 (nSize Gw.n)) ∧ LkS W B s H L V Gw kb w') := Lib.hid (fun u x => by
        obtain ⟨K, h⟩ := x.st
        have := spused_st h
        rw [if_pos z1, z2] at this
        rw [nSize_data]
        exact this.mono fun e w' ⟨h1, h2⟩ => ⟨h1, x.below h2⟩)
      have hge := dSize_ge (Gw.n.map NArg.data)
      have HSz : Hid (∀ u, LkS W B s H L V Gw kb u → Calls Tryz.prog 19 #[.agg #[.slice Gw.r.a Gw.r.l.length Gw.r.c, .slice Gw.a Gw.n.length Gw.c]] u fun e w' => e = .returned (.int .i64 (nSize Gw.n)) ∧ LkS W B s H L V Gw kb w') := Lib.hid (fun u x => by
        have h4 : dSize (Gw.n.map NArg.data) ≤ 400 := z4
        obtain ⟨g1, g2⟩ := hge
        rw [List.length_map] at g1
        have := rsize_is Gw u x.a.2.1 (by omega) (fun z hz => by
          have h5 := g2 z.data (List.mem_map.2 ⟨z, hz, rfl⟩)
          have e1 : z.data.1.length = z.s.l.length := rfl
          have e2 : z.data.2.length = z.w.l.length := rfl
          omega)
        exact this.mono fun e w' ⟨h1, h2⟩ => ⟨h1, x.below h2⟩)
      have HHp : Hid (∀ u, LkS W B s H L V Gw kb u → Calls Tryz.prog 14 #[.pointer (some ⟨s, 0, none⟩)] u fun r w' => ∃ b, r = .returned (.pointer (some ⟨b, 0, none⟩)) ∧ LkS W B s H L V Gw kb w' ∧
          ∀ u1, Below w'.heap.size w' u1 → Calls Tryz.prog 20 #[.pointer (some ⟨b, 0, none⟩)] u1 fun e w2 => e = .returned (.bool true) ∧ Below u1.heap.size u1 w2) := Lib.hid (fun u x => by
        obtain ⟨K, h⟩ := x.st
        obtain ⟨T, O, Z, g⟩ := HI.out.gi
        refine (heap_reads h g).mono ?_
        rintro r w' ⟨b, y, c, rfl, z, k, _⟩
        refine ⟨b, rfl, x.below z, fun u1 y1 => ?_⟩
        have hl := h.len
        have := rcheck_is (k.below y1) (by omega) (fun i => by have := h.num i; omega)
        rwa [z3] at this)
      have HC : Hid (∀ u, LkS W B s H L V Gw kb u → u.cell? ⟨kb, 0, none⟩ = some (.slice Gw.r.a Gw.r.l.length Gw.r.c) ∧ u.cell? ⟨kb, 1, none⟩ = some (.slice Gw.a Gw.n.length Gw.c)) := Lib.hid (fun u x => x.c)
      clear z0 z1 z2 z3 z4 hge HI hko HS
      have hge : k ≤ sl.length ∨ (sl.length : Int) < (k : Int) := by omega
      rcases hge with hkl | hkl
      all_goals
        first
          | (have hkl2 : (k : Int) ≤ (sl.length : Int) := by omega)
          | (have hkl2 : ¬ (k : Int) ≤ (sl.length : Int) := by omega)
        go_upto_region 22 with fail
        obtain ⟨kc0, kc1⟩ := HC.out _ HK.out
        go_region_held3 (fun u => u.cell? ⟨kb, 0, none⟩ = some (.slice Gw.r.a Gw.r.l.length Gw.r.c) ∧ u.cell? ⟨kb, 1, none⟩ = some (.slice Gw.a Gw.n.length Gw.c)) (first
          | exact HC.out _ HK.out
          | exact HC.out _ (HK.out.below (Below.refl _ _).drew)
          | exact HC.out _ HA.out) (first
          | (go_at_call 12; refine (HOn.out _ (by first | exact HK.out | exact HK.out.below (Below.refl _ _).drew)).mono ?_; rintro e' w5 ⟨rfl, h5⟩; have HA := Lib.hid h5; clear h5)
          | (go_at_call 18; refine (HUs.out _ (by first | exact HA.out | exact HA.out.below (Below.refl _ _).drew)).mono ?_; rintro e' w6 ⟨rfl, h6⟩; replace HA := Lib.hid h6; clear h6)
          | (go_at_call 19; refine (HSz.out _ (by first | exact HA.out | exact HA.out.below (Below.refl _ _).drew)).mono ?_; rintro e' w7 ⟨rfl, h7⟩; replace HA := Lib.hid h7; clear h7)
          | (go_at_call 14; refine (HHp.out _ (by first | exact HA.out | exact HA.out.below (Below.refl _ _).drew)).mono ?_; rintro e' w8 ⟨b, rfl, h8, k8⟩; replace HA := Lib.hid h8; have HCk := Lib.hid k8; clear h8 k8)
          | (go_at_call 20; refine (HCk.out _ (by first | exact Below.refl _ _ | exact (Below.refl _ _).drew)).mono ?_; rintro e' w9 ⟨rfl, b9⟩; replace HA := Lib.hid (HA.out.below b9); clear b9))
        all_goals
          go_wp2_with fail
          go_ret
          exact ⟨rfl, HA.out.b⟩
theorem Keeps_walk (ht : TyOk W.heap.size W) (h l : Int) (G : GArg) (hG : G.At W) (q : Option Addr) (sl : List Int) (sc : Nat) (hS : LiesAt W q (vals sl)) (hs : sl.length ≤ maxLen) :
    Calls Tryz.prog 3 #[.agg #[.int .i64 h, .int .i64 l], G.val, .slice q sl.length sc] W fun e w' => e = .returned (.bool true) ∧ Below W.heap.size W w' := by
  by_cases c : geOk h l = true ∧ h ≤ 200 ∧ G.n.length ≤ 60 ∧ gRight G = true ∧ sl.length ≤ 60
  · obtain ⟨c0, c1, c2, c3, c4⟩ := c
    have hq := geOk_yes c0
    obtain ⟨H, rfl⟩ := Int.eq_ofNat_of_zero_le (show 0 ≤ h by omega)
    obtain ⟨L, rfl⟩ := Int.eq_ofNat_of_zero_le (show 0 ≤ l by omega)
    exact Keeps_yes ht H L c0 c1 G hG c2 c3 q sl sc hS c4
  · exact Keeps_no ht h l G hG q sl sc hs c
end
end Go.Proofs.YtbghglkplbnnkaaGreatDoor
