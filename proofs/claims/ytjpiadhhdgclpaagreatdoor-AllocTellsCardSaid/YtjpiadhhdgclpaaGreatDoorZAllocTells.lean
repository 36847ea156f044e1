/- AllocTells: the walk. -/
import Derived.Test.YtjpiadhhdgclpaaGreatDoorZAllocTellsA
import Derived.Test.YtjpiadhhdgclpaaGreatDoorZGeo
import Derived.Test.YtjpiadhhdgclpaaGreatDoorZPairOpen
set_option linter.unusedVariables false
set_option linter.unusedSimpArgs false
namespace Go.Proofs.YtjpiadhhdgclpaaGreatDoor
open Go.RowKit Sec
open Go.Proofs.YtjpiadhhdgclpaaGreatDoor.Bk

section
variable {W : World}
set_option maxRecDepth 100000 in
set_option maxHeartbeats 4000000 in
theorem ATells_no (ht : TyOk W.heap.size W) (h l a : Int) (q q2 : Option Addr) (n m n2 m2 : Nat) (hn : (n : Int) ≤ 9223372036854775807) (hn2 : (n2 : Int) ≤ 9223372036854775807) (no : ¬ (geOk h l = true ∧ h ≤ 80 ∧ n ≤ 30 ∧ n2 ≤ 40)) : Calls Tryz.prog 3 #[.agg #[.int .i64 h, .int .i64 l], .slice q n m, .slice q2 n2 m2, .int .i64 a] W fun e w' => e = .returned (.bool true) ∧ Below W.heap.size W w' := by
  have HT := Lib.hid ht
  have HR := Lib.hid (fun u => rgeo_is h l u)
  have cases : geOk h l = false ∨ (geOk h l = true ∧ (80 < h ∨ (h ≤ 80 ∧ ((30 : Int) < (n : Int) ∨ ((n : Int) ≤ 30 ∧ (40 : Int) < (n2 : Int)))))) := by
    cases q : geOk h l
    · exact .inl rfl
    · have no2 : ¬ (h ≤ 80 ∧ n ≤ 30 ∧ n2 ≤ 40) := fun x => no ⟨q, x⟩
      exact .inr ⟨rfl, by omega⟩
  clear no ht
  generalize geOk h l = ok at *
  rcases cases with rfl | ⟨rfl, c1 | ⟨c1, c2 | ⟨c2, c3⟩⟩⟩
  all_goals
    go_enter Tryz.func3, Tryz.ntmps3
    go_wp2_with (first
      | (go_at_call 7; refine (HR.out _).mono ?_; rintro e' w1 ⟨rfl, b1⟩; have H1 := Lib.hid (GBox.laid b1); obtain ⟨_, c0, _⟩ := H1.out.1; clear b1)
      | (go_at_call 8; refine (alalive_is ((HT.out.below H1.out.2).more H1.out.2.size)).mono ?_; rintro e' w2 ⟨rfl, b2⟩; have H2 := Lib.hid (geo_next H1.out.2 b2); clear b2))
    go_ret
    exact ⟨rfl, H2.out⟩
set_option maxRecDepth 100000 in
set_option maxHeartbeats 8000000 in
theorem ATells_yes (ht : TyOk W.heap.size W) (H L : Nat) (a : Int) (hg : geOk H L = true) (hH : H ≤ 80) (q : Option Addr) (l : List Chg) (m : Nat) (hq : LiesAt W q (flat Chg.cells l)) (hl : l.length ≤ 30) (q2 : Option Addr) (t : List Two) (m2 : Nat) (hq2 : LiesAt W q2 (flat Two.cells t)) (htl : t.length ≤ 40) : Calls Tryz.prog 3 #[.agg #[.int .i64 (H : Int), .int .i64 (L : Int)], .slice q l.length m, .slice q2 t.length m2, .int .i64 a] W fun e w' => e = .returned (.bool true) ∧ Below W.heap.size W w' := by
  have hge := geOk_yes hg
  have HT := Lib.hid ht
  have HR := Lib.hid (fun u => rgeo_is H L u)
  rw [hg] at HR
  have HQ := Lib.hid (And.intro hq (fun u (y : Below W.heap.size W u) (x : LiesAt W q (flat Chg.cells l)) => x.below y))
  have HRaw : Hid (∀ u, TyOk u.heap.size u → LiesAt u q (flat Chg.cells l) → Calls Tryz.prog 9 #[.agg #[.int .i64 (H : Int), .int .i64 (L : Int)], .slice q l.length m] u fun r w' => ∃ s, r = .returned (.pointer (some ⟨s, 0, none⟩)) ∧ St u.heap.size (fun b => b < u.heap.size) w' s H L (rawW H l) ∧ Below u.heap.size u w') := Lib.hid (fun u x y => Raw_st x H L (by omega) q l m y (by omega))
  have HHeap : Hid (∀ B G u s V, St B G u s H L V → Calls Tryz.prog 10 #[.pointer (some ⟨s, 0, none⟩)] u fun r w' => ∃ b g c, r = .returned (.pointer (some ⟨b, 0, none⟩)) ∧ HIs u.heap.size w' b H L V g c ∧ Below u.heap.size u w') := Lib.hid (fun B G u s V x => Heap_st x)
  have HTw := Lib.hid hq2
  have HM := Lib.hid (GBox.made W (H : Int) (L : Int) 23)
  have HN1 := Lib.hid (fun u => anew_nil u)
  have HN2 := Lib.hid (fun u => ais_nil 16 u)
  have HN3 := Lib.hid (fun u => aobjs_nil u)
  have hi0 : ¬ (80 : Int) < (H : Int) := by omega
  have hl1 : ¬ (30 : Int) < (l.length : Int) := by omega
  have ht1 : ¬ (40 : Int) < (t.length : Int) := by omega
  have ht2 : (t.length : Int) ≤ 40 := by omega
  have hlen : (rawW H l).length = 16 + 2 * H := rawW_len H l
  have HH := Lib.hid hH
  generalize rawW H l = V0 at *
  clear ht hg hge hq hq2 hH
  go_enter Tryz.func3, Tryz.ntmps3
  go_wp2_with (first
    | (go_at_call 7; refine (HR.out _).mono ?_; rintro e' w1 ⟨rfl, b1⟩; have H1 := Lib.hid (GBox.laid b1); obtain ⟨_, c0, c1⟩ := H1.out.1; clear b1)
    | (go_at_call 8; refine (alalive_is ((HT.out.below H1.out.2).more H1.out.2.size)).mono ?_; rintro e' w2 ⟨rfl, b2⟩; replace H1 := Lib.hid (And.intro (H1.out.1.below b2) (geo_next H1.out.2 b2)); clear b2 c0 c1; obtain ⟨_, c0, c1⟩ := H1.out.1)
    | (go_at_call 9; refine (HRaw.out _ ((HT.out.below H1.out.2).more H1.out.2.size) (HQ.out.2 _ H1.out.2 HQ.out.1)).mono ?_; rintro e' w3 ⟨s, rfl, h3, b3⟩; have H3 := Lib.hid (And.intro h3 b3); clear h3 b3 c0 c1)
    | (go_at_call 10; refine (HHeap.out _ _ _ _ _ H3.out.1).mono ?_; rintro e' w4 ⟨p, g, cc, rfl, h4, b4⟩; have HS := Lib.hid (AtS.start H1.out.1 H1.out.2 H3.out.2 H3.out.1 b4 h4); clear h4 b4))
  clear H1 H3 HR HRaw HHeap HQ HT HM
  generalize w4.heap.size = C at *
  generalize w3.heap.size = B' at *
  generalize w2.heap.size = B at *
  go_loopw [12] (fun i wr => ∃ (k : Nat) (V : List Int), k ≤ t.length ∧ i = .int .i64 (k : Int) ∧ Hid (V.length = 16 + 2 * H) ∧ Hid (AtS W H L B B' C s H L V V p g cc C [] [] (fun _ => False) wr)) (fun i _ => t.length - (intOf i).toNat)
  case atStart => exact ⟨0, V0, Nat.zero_le _, rfl, Lib.hid hlen, HS⟩
  case round =>
    clear HS hlen
    obtain ⟨k, V, hk, rfl, HLn, HS⟩ := hrel
    have hk40 : (k : Int) ≤ 40 := by omega
    by_cases hlt : k < t.length
    · clear HN1 HN2 HN3
      obtain ⟨g1, og, rfl, hg1, e1⟩ := HTw.out.elem Two.len (by omega) (List.getElem?_eq_getElem hlt)
      have e1_0 := e1 0 _ rfl
      have e1_1 := e1 1 _ rfl
      rw [Nat.add_zero] at e1_0
      clear e1
      have HD : Hid (∀ u, Below W.heap.size W u → u.cell? ⟨g1, og + k * 2, none⟩ = some (.int .i64 t[k].a) ∧ u.cell? ⟨g1, og + k * 2 + 1, none⟩ = some (.int .i64 t[k].b)) := Lib.hid (fun u y => ⟨(y.cell (p := ⟨g1, og + k * 2, none⟩) hg1).trans e1_0, (y.cell (p := ⟨g1, og + k * 2 + 1, none⟩) hg1).trans e1_1⟩)
      generalize t[k].a = xa at *
      generalize t[k].b = xb at *
      have hi1 : (k : Int) < (t.length : Int) := by omega
      clear e1_0 e1_1
      have hW2 : ((V.length : Nat) : Int) = 16 + 2 * (H : Int) := by have := HLn.out; omega
      have HL2 : Hid ((newW H L V xa xb).length = 16 + 2 * H) := Lib.hid (by rw [new_len]; exact HLn.out)
      have HNy : Hid (∀ u, AtS W H L B B' C s H L V V p g cc C [] [] (fun _ => False) u → Calls Tryz.prog 11 #[.pointer (some ⟨s, 0, none⟩), .int .i64 xa, .int .i64 xb] u fun e w' => e = .returned (.tuple #[.int .i64 (newA H L V xa xb), .int .i64 (newE H L V xa xb)]) ∧ AtS W H L B B' C s H L (newW H L V xa xb) V p g cc C [] [] (fun _ => False) w') := Lib.hid (fun u x => x.call (fun G y => anew_st y xa xb))
      have HNz : Hid (∀ V2 u, AtS W H L B B' C s H L V2 V p g cc C [] [] (fun _ => False) u → Calls Tryz.prog 12 #[.pointer (some ⟨p, 0, none⟩), .int .i64 xa, .int .i64 xb] u fun e w' => e = .returned (.tuple #[.int .i64 (newA H L V xa xb), .int .i64 (newE H L V xa xb)]) ∧ AtS W H L B B' C s H L V2 (newW H L V xa xb) p g cc C [] [] (fun _ => False) w') := Lib.hid (fun V2 u x => (rnew_is x.d hW2 xa xb).mono fun e w' ⟨z1, z2, z3⟩ => ⟨z1, x.go z3 z2⟩)
      have HIq : Hid (∀ V2 u, AtS W H L B B' C s H L V2 V2 p g cc C [] [] (fun _ => False) u → Calls Tryz.prog 13 #[.pointer (some ⟨s, 0, none⟩), .pointer (some ⟨p, 0, none⟩)] u fun e w' => e = .returned (.bool true) ∧ AtS W H L B B' C s H L V2 V2 p g cc C [] [] (fun _ => False) w') := Lib.hid (fun V2 u x => by
        obtain ⟨G, y⟩ := x.st
        have := Is_st y x.d
        rw [decide_eq_true rfl] at this
        exact this.mono fun e w' ⟨z1, z2⟩ => ⟨z1, x.below z2⟩)
      clear hW2
      generalize newW H L V xa xb = V2 at *
      generalize newA H L V xa xb = na at *
      generalize newE H L V xa xb = ne at *
      obtain ⟨e1_0, e1_1⟩ := HD.out _ HS.out.b
      go_wp2_with fail
      go_region_held3 (fun u => u.cell? ⟨g1, og + k * 2, none⟩ = some (.int .i64 xa) ∧ u.cell? ⟨g1, og + k * 2 + 1, none⟩ = some (.int .i64 xb)) (first
          | assumption
          | exact HD.out _ HS.out.b
          | exact HD.out _ HS.out.b.drew
          | exact HD.out _ H2.out.b) (first
        | (go_at_call 11
           refine (HNy.out _ (by first | exact HS.out | exact HS.out.below (Below.refl _ _).drew)).mono ?_
           rintro e' w5 ⟨rfl, h5⟩
           have H2 := Lib.hid h5
           clear h5))
      all_goals
        clear HS HNy e1_0 e1_1
        obtain ⟨e1_0, e1_1⟩ := HD.out _ H2.out.b
        go_upto_region 12 with fail
        go_region_held3 (fun u => u.cell? ⟨g1, og + k * 2, none⟩ = some (.int .i64 xa) ∧ u.cell? ⟨g1, og + k * 2 + 1, none⟩ = some (.int .i64 xb)) (first
            | assumption
            | exact HD.out _ H2.out.b
            | exact HD.out _ H2.out.b.drew
            | exact HD.out _ H2.out.b.drew.drew
            | exact HD.out _ (bel_drewN H2.out.b _)
            | exact HD.out _ H3.out.b) (first
          | (go_at_call 12
             refine (HNz.out _ _ (by first | exact H2.out | exact H2.out.below (Below.refl _ _).drew | exact H2.out.below (Below.refl _ _).drew.drew | exact H2.out.below (bel_drewN (Below.refl _ _) _))).mono ?_
             rintro e' w6 ⟨rfl, h6⟩
             have H3 := Lib.hid h6
             clear h6))
        all_goals
          go_wp2_with (go_at_call 13; refine (HIq.out _ _ (by first | exact H3.out | exact H3.out.below (Below.refl _ _).drew)).mono ?_; rintro e' w7 ⟨rfl, h7⟩; have H4 := Lib.hid h7; clear h7)
          exact ⟨⟨k + 1, V2, by omega, by go_num, HL2, H4⟩, by simp [intOf]; omega⟩
    · have hnl : ¬ (k : Int) < (t.length : Int) := by omega
      have hW2 : ((V.length : Nat) : Int) = 16 + 2 * (H : Int) := by have := HLn.out; omega
      have hTl := objs_len H L V
      have HOb : Hid (∀ LI MI u, AtE W H L B B' C s H L V V p g cc C LI MI u → Calls Tryz.prog 14 #[.pointer (some ⟨s, 0, none⟩)] u fun e w' => ∃ ad c, e = .returned (.slice ad (objs H L V).1.length c) ∧ AtO W H L B B' C s H L V V p g cc C LI MI ⟨ad, (objs H L V).1, c⟩ w') := Lib.hid (fun LI MI u x => x.objects)
      have HKp : Hid (∀ LI MI ad c u, AtO W H L B B' C s H L V V p g cc C LI MI ⟨ad, (objs H L V).1, c⟩ u → LI.length ≤ 200 → Calls Tryz.prog 15 #[.pointer (some ⟨C, 0, none⟩), .slice ad (objs H L V).1.length c] u fun e w' => e = .returned (.tuple #[]) ∧ ∃ y, AtE W H L B B' C s H L V V p g cc C (LI ++ [⟨ad, (objs H L V).1, c⟩]) (MI ++ [y]) w') := Lib.hid (fun LI MI ad c u x hL => x.keep (by show (objs H L V).1.length ≤ 1000; omega) hL)
      have HRO : Hid (∀ LI MI u, AtE W H L B B' C s H L V V p g cc C LI MI u → Calls Tryz.prog 16 #[.pointer (some ⟨p, 0, none⟩)] u fun e w' => ∃ ad c, e = .returned (.tuple #[.slice ad (objs H L V).1.length c, .bool (objs H L V).2]) ∧ AtE W H L B B' C s H L V V p g cc C LI MI w' ∧ LiesAt w' ad (vals (objs H L V).1)) := Lib.hid (fun LI MI u x => (robjects_is x.d hW2).mono fun e w' ⟨v, h1, h2, h3⟩ => by
        obtain ⟨ad, c, rfl, hl, _⟩ := own_form h3
        exact ⟨ad, c, h1, x.below h2, hl⟩)
      have HSh : Hid (∀ LI MI u, AtE W H L B B' C s H L V V p g cc C LI MI u → Calls Tryz.prog 17 #[.pointer (some ⟨s, 0, none⟩), .int .i64 a] u fun e w' => e = .returned (.tuple #[.int .i64 (shAS H L V a), .int .i64 (shAW H L V a), .bool (decide (a ∈ (objs H L V).1))]) ∧ Below u.heap.size u w') := Lib.hid (fun LI MI u x => x.st.elim fun G y => ashape_st y a)
      have HIs : Hid (∀ LI MI u, AtE W H L B B' C s H L V V p g cc C LI MI u → Calls Tryz.prog 19 #[.pointer (some ⟨s, 0, none⟩), .int .i64 a] u fun e w' => e = .returned (.bool (decide (a ∈ (objs H L V).1))) ∧ Below u.heap.size u w') := Lib.hid (fun LI MI u x => x.st.elim fun G y => ais_st y a)
      have HRI : Hid (∀ LI MI u, AtE W H L B B' C s H L V V p g cc C LI MI u → Calls Tryz.prog 20 #[.pointer (some ⟨p, 0, none⟩), .int .i64 a] u fun e w' => e = .returned (.bool (decide (a ∈ (objs H L V).1))) ∧ Below u.heap.size u w') := Lib.hid (fun LI MI u x => ris_is x.d hW2 a)
      have HSm : Hid (∀ u ad c ad2 c2, LiesAt u ad (vals (objs H L V).1) → LiesAt u ad2 (vals (objs H L V).1) → Calls Tryz.prog 18 #[.slice ad (objs H L V).1.length c, .slice ad2 (objs H L V).1.length c2] u fun e w' => e = .returned (.bool true) ∧ Below u.heap.size u w') := Lib.hid (fun u ad c ad2 c2 h1 h2 =>
        (SameInts_is (objs H L V).1 (objs H L V).1 ad ad2 c c2 u h1 h2 (by unfold maxLen; omega) (by unfold maxLen; omega) true (by simp)).mono fun e w' ⟨h3, m, h4⟩ => ⟨h3, by rw [h4]; exact bel_drewN (Below.refl _ _) m⟩)
      have HAp : Hid (∀ LI MI u, AtE W H L B B' C s H L V V p g cc C LI MI u → LI.length ≤ 200 → Calls Tryz.prog 22 #[.pointer (some ⟨C, 0, none⟩)] u fun e w' => e = .returned (.bool true) ∧ Below W.heap.size W w') := Lib.hid (fun LI MI u x hL => x.apart hL)
      have HE0 : Hid (AtE W H L B B' C s H L V V p g cc C [] [] wr) := Lib.hid ⟨_, HS.out⟩
      clear HS HTw
      by_cases hm : a ∈ (objs H L V).1
      · obtain ⟨h0, h1⟩ := objs_hd hm
        have hlt2 := objs_lt (by omega) hm
        rw [decide_eq_true hm] at HSh HIs HRI
        rw [shAS, shAW, if_pos hm, if_pos hm] at HSh
        obtain ⟨an, rfl⟩ := Int.eq_ofNat_of_zero_le h0
        rw [Int.toNat_natCast] at HSh h1
        have HPa := Lib.hid (fun u => rparse_is (V.getD an 0) u)
        rw [h1] at HPa
        have HVa : Hid (∀ LI MI u, AtE W H L B B' C s H L V V p g cc C LI MI u → u.cell? ⟨p, 1, none⟩ = u.cell? ⟨p, 1, none⟩ ∧ u.cell? ⟨p, 2, none⟩ = some (.slice (some ⟨g, 0, none⟩) V.length cc) ∧ u.cell? ⟨g, an, none⟩ = some (.int .i64 (V.getD an 0))) := Lib.hid (fun LI MI u x => ⟨rfl, x.d.cs.2.2, (x.d.at (i := an) (by omega)).1⟩)
        have hi5 : (an : Int) < (V.length : Int) := by omega
        clear hm h1 hlt2 hW2
        generalize prS (V.getD an 0) = ps at *
        generalize prW (V.getD an 0) = pw at *
        generalize V.getD an 0 = va at *
        generalize (objs H L V).2 = tf at *
        generalize (objs H L V).1 = T at *
        go_wp2_with (first
          | (go_at_call 14; refine (HOb.out _ _ _ HE0.out).mono ?_; rintro e w5 ⟨a5, c5, rfl, h5⟩; have HO1 := Lib.hid h5; clear h5; replace HE0 := True.intro)
          | (go_at_call 15; refine (HKp.out _ _ _ _ _ HO1.out (by decide)).mono ?_; rintro e w6 ⟨rfl, y1, h6⟩; have HE1 := Lib.hid h6; clear h6; replace HO1 := True.intro)
          | (go_at_call 14; refine (HOb.out _ _ _ HE1.out).mono ?_; rintro e w7 ⟨a7, c7, rfl, h7⟩; have HO2 := Lib.hid h7; clear h7; replace HE1 := True.intro)
          | (go_at_call 15; refine (HKp.out _ _ _ _ _ HO2.out (by simp)).mono ?_; rintro e w8 ⟨rfl, y2, h8⟩; have HE2 := Lib.hid h8; clear h8; replace HO2 := True.intro)
          | (go_at_call 16; refine (HRO.out _ _ _ HE2.out).mono ?_; rintro e w9 ⟨a9, c9, rfl, h9, l9⟩; have HE := Lib.hid (And.intro h9 l9); clear h9 l9; replace HE2 := True.intro; obtain ⟨_, d2, dg⟩ := HVa.out _ _ _ HE.out.1)
          | (go_at_call 17; refine (HSh.out _ _ _ HE.out.1).mono ?_; rintro e wa ⟨rfl, ba⟩; replace HE := Lib.hid (And.intro (HE.out.1.below ba) (HE.out.2.below ba)); clear ba; clear d2 dg; obtain ⟨_, d2, dg⟩ := HVa.out _ _ _ HE.out.1)
          | (go_at_call 18; refine (HSm.out _ _ _ _ _ (HE.out.1.lies (x := ⟨a5, T, c5⟩) (by simp)) HE.out.2).mono ?_; rintro e wa ⟨rfl, ba⟩; replace HE := Lib.hid (And.intro (HE.out.1.below ba) (HE.out.2.below ba)); clear ba; clear d2 dg; obtain ⟨_, d2, dg⟩ := HVa.out _ _ _ HE.out.1)
          | (go_at_call 20; refine (HRI.out _ _ _ HE.out.1).mono ?_; rintro e wa ⟨rfl, ba⟩; replace HE := Lib.hid (And.intro (HE.out.1.below ba) (HE.out.2.below ba)); clear ba; clear d2 dg; obtain ⟨_, d2, dg⟩ := HVa.out _ _ _ HE.out.1)
          | (go_at_call 19; with_reducible refine (HIs.out _ _ _ HE.out.1).mono ?_; rintro e wa ⟨rfl, ba⟩; replace HE := Lib.hid (And.intro (HE.out.1.below ba) (HE.out.2.below ba)); clear ba; clear d2 dg; obtain ⟨_, d2, dg⟩ := HVa.out _ _ _ HE.out.1)
          | (go_at_call 21; refine (HPa.out _).mono ?_; rintro e wb ⟨rfl, hw⟩; obtain rfl := hw.symm)
          | (go_at_call 11; refine (HN1.out _).mono ?_; rintro e wa ⟨rfl, ba⟩; replace HE := Lib.hid (And.intro (HE.out.1.below ba) (HE.out.2.below ba)); clear ba; clear d2 dg; obtain ⟨_, d2, dg⟩ := HVa.out _ _ _ HE.out.1)
          | (go_at_call 19; with_reducible refine (HN2.out _).mono ?_; rintro e wa ⟨rfl, ba⟩; replace HE := Lib.hid (And.intro (HE.out.1.below ba) (HE.out.2.below ba)); clear ba; clear d2 dg; obtain ⟨_, d2, dg⟩ := HVa.out _ _ _ HE.out.1)
          | (go_at_call 14; with_reducible refine (HN3.out _).mono ?_; rintro e wa ⟨rfl, ba⟩; replace HE := Lib.hid (And.intro (HE.out.1.below ba) (HE.out.2.below ba)); clear ba; clear d2 dg; obtain ⟨_, d2, dg⟩ := HVa.out _ _ _ HE.out.1)
          | (go_at_call 22; refine (HAp.out _ _ _ HE.out.1 (by simp)).mono ?_; rintro e wz ⟨rfl, bz⟩; have HZ := Lib.hid bz; clear bz))
        go_ret
        exact ⟨rfl, HZ.out⟩
      · rw [decide_eq_false hm] at HSh HIs HRI
        rw [shAS, shAW, if_neg hm, if_neg hm] at HSh
        clear hm hW2
        generalize (objs H L V).2 = tf at *
        generalize (objs H L V).1 = T at *
        go_wp2_with (first
          | (go_at_call 14; refine (HOb.out _ _ _ HE0.out).mono ?_; rintro e w5 ⟨a5, c5, rfl, h5⟩; have HO1 := Lib.hid h5; clear h5; replace HE0 := True.intro)
          | (go_at_call 15; refine (HKp.out _ _ _ _ _ HO1.out (by decide)).mono ?_; rintro e w6 ⟨rfl, y1, h6⟩; have HE1 := Lib.hid h6; clear h6; replace HO1 := True.intro)
          | (go_at_call 14; refine (HOb.out _ _ _ HE1.out).mono ?_; rintro e w7 ⟨a7, c7, rfl, h7⟩; have HO2 := Lib.hid h7; clear h7; replace HE1 := True.intro)
          | (go_at_call 15; refine (HKp.out _ _ _ _ _ HO2.out (by simp)).mono ?_; rintro e w8 ⟨rfl, y2, h8⟩; have HE2 := Lib.hid h8; clear h8; replace HO2 := True.intro)
          | (go_at_call 16; refine (HRO.out _ _ _ HE2.out).mono ?_; rintro e w9 ⟨a9, c9, rfl, h9, l9⟩; have HE := Lib.hid (And.intro h9 l9); clear h9 l9; replace HE2 := True.intro)
          | (go_at_call 17; refine (HSh.out _ _ _ HE.out.1).mono ?_; rintro e wa ⟨rfl, ba⟩; replace HE := Lib.hid (And.intro (HE.out.1.below ba) (HE.out.2.below ba)); clear ba)
          | (go_at_call 18; refine (HSm.out _ _ _ _ _ (HE.out.1.lies (x := ⟨a5, T, c5⟩) (by simp)) HE.out.2).mono ?_; rintro e wa ⟨rfl, ba⟩; replace HE := Lib.hid (And.intro (HE.out.1.below ba) (HE.out.2.below ba)); clear ba)
          | (go_at_call 20; refine (HRI.out _ _ _ HE.out.1).mono ?_; rintro e wa ⟨rfl, ba⟩; replace HE := Lib.hid (And.intro (HE.out.1.below ba) (HE.out.2.below ba)); clear ba)
          | (go_at_call 19; with_reducible refine (HIs.out _ _ _ HE.out.1).mono ?_; rintro e wa ⟨rfl, ba⟩; replace HE := Lib.hid (And.intro (HE.out.1.below ba) (HE.out.2.below ba)); clear ba)
          | (go_at_call 11; refine (HN1.out _).mono ?_; rintro e wa ⟨rfl, ba⟩; replace HE := Lib.hid (And.intro (HE.out.1.below ba) (HE.out.2.below ba)); clear ba)
          | (go_at_call 19; with_reducible refine (HN2.out _).mono ?_; rintro e wa ⟨rfl, ba⟩; replace HE := Lib.hid (And.intro (HE.out.1.below ba) (HE.out.2.below ba)); clear ba)
          | (go_at_call 14; with_reducible refine (HN3.out _).mono ?_; rintro e wa ⟨rfl, ba⟩; replace HE := Lib.hid (And.intro (HE.out.1.below ba) (HE.out.2.below ba)); clear ba)
          | (go_at_call 22; refine (HAp.out _ _ _ HE.out.1 (by simp)).mono ?_; rintro e wz ⟨rfl, bz⟩; have HZ := Lib.hid bz; clear bz))
        go_ret
        exact ⟨rfl, HZ.out⟩
theorem ATells_walk (ht : TyOk W.heap.size W) (h l a : Int) (q : Option Addr) (x : List Chg) (m : Nat) (hq : LiesAt W q (flat Chg.cells x)) (hx : x.length ≤ maxLen) (q2 : Option Addr) (y : List Two) (m2 : Nat) (hq2 : LiesAt W q2 (flat Two.cells y)) (hy : y.length ≤ maxLen) : Calls Tryz.prog 3 #[.agg #[.int .i64 h, .int .i64 l], .slice q x.length m, .slice q2 y.length m2, .int .i64 a] W fun e w' => e = .returned (.bool true) ∧ Below W.heap.size W w' := by
  by_cases k : geOk h l = true ∧ h ≤ 80 ∧ x.length ≤ 30 ∧ y.length ≤ 40
  · obtain ⟨k0, k1, k2, k3⟩ := k
    have hq3 := geOk_yes k0
    obtain ⟨H, rfl⟩ := Int.eq_ofNat_of_zero_le (show 0 ≤ h by omega)
    obtain ⟨L, rfl⟩ := Int.eq_ofNat_of_zero_le (show 0 ≤ l by omega)
    exact ATells_yes ht H L a k0 (by omega) q x m hq k2 q2 y m2 hq2 k3
  · exact ATells_no ht h l a q q2 x.length m y.length m2 (by unfold maxLen at hx; omega) (by unfold maxLen at hy; omega) k
end
end Go.Proofs.YtjpiadhhdgclpaaGreatDoor
