/- AllocOrder: the walk. -/
import Derived.Test.YtjpiadhhdgclpaaGreatDoorZAllocB
import Derived.Test.YtjpiadhhdgclpaaGreatDoorZGeo
import Derived.Test.YtjpiadhhdgclpaaGreatDoorZPairOpen
set_option linter.unusedVariables false
set_option linter.unusedSimpArgs false
namespace Go.Proofs.YtjpiadhhdgclpaaGreatDoor
open Go.RowKit Sec
open Go.Proofs.YtjpiadhhdgclpaaGreatDoor.Bk

section
variable {W : World}
set_option maxRecDepth 100000 in
set_option maxHeartbeats 4000000 in
theorem Ordr_no (ht : TyOk W.heap.size W) (h l : Int) (q : Option Addr) (n m : Nat) (hn : (n : Int) ≤ 9223372036854775807) (no : ¬ (geOk h l = true ∧ h ≤ 200 ∧ n ≤ 60)) : Calls Tryz.prog 6 #[.agg #[.int .i64 h, .int .i64 l], .slice q n m] W fun e w' => e = .returned (.bool true) ∧ Below W.heap.size W w' := by
  have HT := Lib.hid ht
  have HR := Lib.hid (fun u => rgeo_is h l u)
  have cases : geOk h l = false ∨ (geOk h l = true ∧ (200 < h ∨ (h ≤ 200 ∧ (60 : Int) < (n : Int)))) := by
    cases q : geOk h l
    · exact .inl rfl
    · have no2 : ¬ (h ≤ 200 ∧ n ≤ 60) := fun x => no ⟨q, x⟩
      exact .inr ⟨rfl, by omega⟩
  clear no ht
  generalize geOk h l = ok at *
  rcases cases with rfl | ⟨rfl, c1 | ⟨c1, c2⟩⟩
  all_goals
    go_enter Tryz.func6, Tryz.ntmps6
    go_wp2_with (first
      | (go_at_call 7; refine (HR.out _).mono ?_; rintro e' w1 ⟨rfl, b1⟩; have H1 := Lib.hid (GBox.laid b1); obtain ⟨_, c0, _⟩ := H1.out.1; clear b1)
      | (go_at_call 8; refine (alalive_is ((HT.out.below H1.out.2).more H1.out.2.size)).mono ?_; rintro e' w2 ⟨rfl, b2⟩; have H2 := Lib.hid (geo_next H1.out.2 b2); clear b2))
    go_ret
    exact ⟨rfl, H2.out⟩
set_option maxRecDepth 100000 in
set_option maxHeartbeats 8000000 in
theorem Ordr_yes (ht : TyOk W.heap.size W) (H L : Nat) (hg : geOk H L = true) (hH : H ≤ 200) (q : Option Addr) (l : List Two) (m : Nat) (hq : LiesAt W q (flat Two.cells l)) (hl : l.length ≤ 60) : Calls Tryz.prog 6 #[.agg #[.int .i64 (H : Int), .int .i64 (L : Int)], .slice q l.length m] W fun e w' => e = .returned (.bool true) ∧ Below W.heap.size W w' := by
  obtain ⟨i0, hi, hz0, hz1, hz2⟩ := info_parts (show (Tryz.prog.info? 3).map (fun i => (i.zero, i.size, i.bytes)) = some (some (.int .i64 0), 1, 8) by kernel_rfl)
  have HI := Lib.hid (And.intro hi (And.intro hz0 (And.intro hz1 hz2)))
  clear hi hz0 hz1 hz2
  have hge := geOk_yes hg
  have HT := Lib.hid ht
  have HR := Lib.hid (fun u => rgeo_is H L u)
  rw [hg] at HR
  have HBg : Hid (∀ u, TyOk u.heap.size u → Calls Tryz.prog 23 #[.agg #[.int .i64 (H : Int), .int .i64 (L : Int)]] u fun r w' => ∃ s p, r = .returned (.tuple #[.pointer (some ⟨p, 0, none⟩), .pointer (some ⟨s, 0, none⟩)]) ∧ St u.heap.size (fun b => b < u.heap.size) w' s H L (freshC H) ∧ Below u.heap.size u w') := Lib.hid (fun u x => Begin_st x H L (by omega))
  have HL := Lib.hid hq
  have HO0 := Lib.hid (Ordered.zero hg (L := L))
  have HFr : Hid (hFr (freshC H) = 16) := Lib.hid (fresh_ctl H).2.1
  have HNew := Lib.hid (fun B G u s V (x : St B G u s H L V) (sl wo : Int) => anew_st x sl wo)
  have HM := Lib.hid (GBox.made W (H : Int) (L : Int) 23)
  have hi0 : ¬ (200 : Int) < (H : Int) := by omega
  have hl1 : ¬ (60 : Int) < (l.length : Int) := by omega
  have hl2 : (l.length : Int) ≤ 60 := by omega
  clear ht hg hge hq
  go_enter Tryz.func6, Tryz.ntmps6
  go_wp2_with (first
    | (go_at_call 7; refine (HR.out _).mono ?_; rintro e' w1 ⟨rfl, b1⟩; have H1 := Lib.hid (GBox.laid b1); obtain ⟨_, c0, c1⟩ := H1.out.1; clear b1)
    | (go_at_call 8; refine (alalive_is ((HT.out.below H1.out.2).more H1.out.2.size)).mono ?_; rintro e' w2 ⟨rfl, b2⟩; replace H1 := Lib.hid (And.intro (H1.out.1.below b2) (geo_next H1.out.2 b2)); clear b2 c0 c1; obtain ⟨_, c0, c1⟩ := H1.out.1)
    | (go_at_call 23; refine (HBg.out _ ((HT.out.below H1.out.2).more H1.out.2.size)).mono ?_; rintro e' w3 ⟨s, p, rfl, h3, b3⟩; have HS := Lib.hid (LwA.start (LwS.start H1.out.1 H1.out.2 h3 b3)); clear h3 b3 c0 c1))
  clear H1 HR HBg HT HM
  generalize w2.heap.size = B at *
  go_loopw [7, 8, 9] (fun v f i wr => ∃ (k : Nat) (V T : List Int), k ≤ l.length ∧ i = .int .i64 (k : Int) ∧ f = .int .i64 (hFr V) ∧ T.length ≤ k ∧ Hid (Ordered H L V T) ∧ Hid (LwA W H L B s H L V v T wr)) (fun _ _ i _ => l.length - (intOf i).toNat)
  case atStart => exact ⟨0, freshC H, [], Nat.zero_le _, rfl, by rw [HFr.out], Nat.le_refl _, HO0, HS⟩
  case round =>
    clear HS HO0 HFr
    obtain ⟨k, V, T, hk, rfl, rfl, hT, HO, HS⟩ := hrel
    have hk60 : (k : Int) ≤ 60 := by omega
    have hT60 : T.length ≤ 60 := by omega
    have hTi : (T.length : Int) ≤ 60 := by omega
    by_cases hlt : k < l.length
    · obtain ⟨g1, og, rfl, hg1, e1⟩ := HL.out.elem Two.len (by omega) (List.getElem?_eq_getElem hlt)
      have e1_0 := e1 0 _ rfl
      have e1_1 := e1 1 _ rfl
      rw [Nat.add_zero] at e1_0
      clear e1
      have HD : Hid (∀ u, Below W.heap.size W u → u.cell? ⟨g1, og + k * 2, none⟩ = some (.int .i64 l[k].a) ∧ u.cell? ⟨g1, og + k * 2 + 1, none⟩ = some (.int .i64 l[k].b)) := Lib.hid (fun u y => ⟨(y.cell (p := ⟨g1, og + k * 2, none⟩) hg1).trans e1_0, (y.cell (p := ⟨g1, og + k * 2 + 1, none⟩) hg1).trans e1_1⟩)
      generalize l[k].a = xa at *
      generalize l[k].b = xb at *
      have hi1 : (k : Int) < (l.length : Int) := by omega
      clear e1_0 e1_1
      obtain ⟨e1_0, e1_1⟩ := HD.out _ HS.out.b
      have HNy : Hid (∀ u, LwA W H L B s H L V u7 T u → Calls Tryz.prog 11 #[.pointer (some ⟨s, 0, none⟩), .int .i64 xa, .int .i64 xb] u fun e w' => e = .returned (.tuple #[.int .i64 (newA H L V xa xb), .int .i64 (newE H L V xa xb)]) ∧ LwA W H L B s H L (newW H L V xa xb) u7 T w') := Lib.hid (fun u x => x.new (fun G y => HNew.out _ _ _ _ _ y xa xb))
      by_cases e0 : newE H L V xa xb = 0
      · obtain ⟨o1, o2, o3, o4⟩ := HO.out.step e0
        have hfr := HO.out.fr
        have hsh := shOk_yes o2
        rw [o1, e0] at HNy
        have HO2 := Lib.hid o4
        have HF2 := Lib.hid o3
        clear o1 o2 o3 o4 e0 HO
        generalize newW H L V xa xb = V2 at *
        generalize hFr V = fr at *
        obtain ⟨f1, f2, f3⟩ := hfr
        have f4 : fr ≤ 416 := by omega
        obtain ⟨s1, s2, s3, s4⟩ := hsh
        clear f2 f3
        go_wp2_with fail
        go_region_held3 (fun u => u.cell? ⟨g1, og + k * 2, none⟩ = some (.int .i64 xa) ∧ u.cell? ⟨g1, og + k * 2 + 1, none⟩ = some (.int .i64 xb)) (first
            | assumption
            | exact HD.out _ HS.out.b
            | exact HD.out _ HS.out.b.drew
            | exact HD.out _ H2.out.b) (first
          | (go_at_call 11
             refine (HNy.out _ (by first | exact HS.out | exact HS.out.below (Below.refl _ _).drew)).mono ?_
             rintro e' w4 ⟨rfl, h4⟩
             have H2 := Lib.hid h4
             clear h4))
        all_goals
          have hw1 : IntKind.i64.wrap (1 + xa) = 1 + xa := by rw [IntKind.wrap_i64]; omega
          have hw2 : IntKind.i64.wrap (1 + xa + xb) = 1 + xa + xb := by rw [IntKind.wrap_i64]; omega
          have hw3 : IntKind.i64.wrap (fr + (1 + xa + xb)) = fr + (1 + xa + xb) := by rw [IntKind.wrap_i64]; omega
          obtain ⟨e1_0, e1_1⟩ := HD.out _ H2.out.b
          have hBs : B ≤ w4.heap.size := H2.out.st.elim fun G y => y.le
          have hA1 : T.length + 1 ≤ maxLen := by unfold maxLen; omega
          have hA2 : (T.length + 1) * 8 ≤ 140737488355328 := by omega
          go_upto_region 15 with fail
          go_wp2_with (first
            | (refine wpList_append_lies _ rfl (.tmp 65) (.tmp 67) 47 rfl B 3 i0 _ 1 8 Tryz.underlying47 HI.out.1 HI.out.2.1 HI.out.2.2.1 HI.out.2.2.2 rfl (by omega) u7 T.length (vals T) rfl (H2.out.o.alloc _) _ 1 1 [.int .i64 fr] rfl rfl (by exact World.news_of_block (heap_alloc_last _ _)) (by intro u hu; simp at hu; rw [hu]; rfl) (by decide) hA1 hA2 (Nat.le_trans hBs (by rw [size_alloc]; exact Nat.le_succ _)) _ rfl ?_
               intro g5 cap w5 hown5 hgr5 hat5 hlt5
               have HY := Lib.hid (And.intro hown5 (And.intro hgr5 (And.intro hat5 hlt5)))
               clear hown5 hgr5 hat5 hlt5 e1_0 e1_1))
          have HY2 := Lib.hid (H2.out.push ((Below.refl w4.heap.size w4).alloc (Nat.le_refl _) _) rfl HY.out.1 HY.out.2.1 HY.out.2.2.1 HY.out.2.2.2)
          clear HY
          obtain ⟨e1_0, e1_1⟩ := HD.out _ HY2.out.b
          go_quiet (fail)
          all_goals
            go_wp2_with fail
            exact ⟨⟨k + 1, V2, T ++ [fr], by omega, by go_num, by rw [HF2.out], by rw [List.length_append, List.length_singleton]; omega, HO2, by first | exact HY2 | exact Lib.hid (HY2.out.below (Below.refl _ _).drew) | exact Lib.hid (HY2.out.below (bel_drewN (Below.refl _ _) _))⟩, by simp [intOf]; omega⟩
      · have hE : newE H L V xa xb = 1 ∨ newE H L V xa xb = 6 := by
          rcases newE_cases H L V xa xb with q | q | q
          · exact .inl q.1
          · exact .inr q.1
          · exact absurd q.1 e0
        rw [(new_no e0).1, (new_no e0).2] at HNy
        have hne : (newE H L V xa xb == 0) = false := beq_eq_false_iff_ne.2 e0
        have HOs := HO
        clear hE
        generalize newE H L V xa xb = ev at *
        go_wp2_with fail
        go_region_held3 (fun u => u.cell? ⟨g1, og + k * 2, none⟩ = some (.int .i64 xa) ∧ u.cell? ⟨g1, og + k * 2 + 1, none⟩ = some (.int .i64 xb)) (first
            | assumption
            | exact HD.out _ HS.out.b
            | exact HD.out _ HS.out.b.drew
            | exact HD.out _ H2.out.b) (first
          | (go_at_call 11
             refine (HNy.out _ (by first | exact HS.out | exact HS.out.below (Below.refl _ _).drew)).mono ?_
             rintro e' w4 ⟨rfl, h4⟩
             have H2 := Lib.hid h4
             clear h4))
        all_goals
          go_wp2_with fail
          exact ⟨⟨k + 1, V, T, by omega, by go_num, rfl, by omega, HO, H2⟩, by simp [intOf]; omega⟩
    · have hnl : ¬ (k : Int) < (l.length : Int) := by omega
      have HOb : Hid (∀ u, LwA W H L B s H L V u7 T u → Calls Tryz.prog 14 #[.pointer (some ⟨s, 0, none⟩)] u fun e w' => ∃ a c, e = .returned (.slice a T.length c) ∧ Below u.heap.size u w' ∧ w'.ownsRow u.heap.size 3 1 (.slice a T.length c) T.length (vals T)) := Lib.hid (fun u x => x.st.elim fun G y => by
        have := aobjs_st y
        rw [HO.out.ob] at this
        refine this.mono fun e w' ⟨v, h1, h2, h3⟩ => ?_
        obtain ⟨a, c, rfl⟩ := owns_slice h3
        exact ⟨a, c, h1, h2, h3⟩)
      have HGt : Hid (∀ u, LwA W H L B s H L V u7 T u → Calls Tryz.prog 26 #[.pointer (some ⟨s, 0, none⟩), .int .i64 1] u fun e w' => e = .returned (.int .i64 (hFr V)) ∧ Below u.heap.size u w') := Lib.hid (fun u x => x.st.elim fun G y => by
        have := st_get y 1
        rwa [wk_at y.len (by decide)] at this)
      have HIs : Hid (∀ u c, LwA W H L B s H L V u7 T u → Calls Tryz.prog 19 #[.pointer (some ⟨s, 0, none⟩), .int .i64 c] u fun e w' => e = .returned (.bool (decide (c ∈ T))) ∧ Below u.heap.size u w') := Lib.hid (fun u c x => x.st.elim fun G y => by
        have := ais_st y c
        rwa [HO.out.ob] at this)
      have HSo := Lib.hid HO.out.sorted
      have HBd := Lib.hid HO.out.bound
      have hfr := HO.out.fr
      have f4 : hFr V ≤ 416 := by omega
      have HF4 := Lib.hid f4
      clear HNew HL HI HO hfr f4
      generalize hFr V = fr at *
      obtain ⟨a7, c7, rfl⟩ := owns_slice HS.out.o
      go_wp2_with (first
        | (go_at_call 14; refine (HOb.out _ HS.out).mono ?_; rintro e w6 ⟨a8, c8, rfl, b8, o8⟩; have H8 := Lib.hid (And.intro (HS.out.below b8) o8); clear b8 o8)
        | (go_at_call 26; refine (HGt.out _ H8.out.1).mono ?_; rintro e w7 ⟨rfl, b9⟩; replace H8 := Lib.hid (And.intro (H8.out.1.below b9) (own_below H8.out.2 b9)); clear b9))
      clear HOb HGt HS
      generalize hwo : wr = wo1 at *
      generalize wo1.heap.size = B8 at *
      clear hwo
      go_loopw [13] (fun i wr => ∃ i' : Nat, i' ≤ T.length ∧ i = .int .i64 (i' : Int) ∧ Hid (LwA W H L B s H L V (.slice a7 T.length c7) T wr ∧ wr.ownsRow B8 3 1 (.slice a8 T.length c8) T.length (vals T))) (fun i _ => T.length - (intOf i).toNat)
      case atStart => exact ⟨0, Nat.zero_le _, rfl, H8⟩
      case round =>
        clear H8
        obtain ⟨i, hi, rfl, HR⟩ := hrel
        by_cases hlt : i < T.length
        · have hi1 : (i : Int) < (T.length : Int) := by omega
          have hT0 : 0 < T.length := by omega
          obtain ⟨g7, q7, e7, _, _, _⟩ := own_blk HR.out.1.o hT0
          obtain ⟨rfl, rfl⟩ : a7 = some ⟨g7, 0, none⟩ ∧ c7 = q7 := by simpa using e7
          obtain ⟨g8, q8, e8, _, _, _⟩ := own_blk HR.out.2 hT0
          obtain ⟨rfl, rfl⟩ : a8 = some ⟨g8, 0, none⟩ ∧ c8 = q8 := by simpa using e8
          clear e7 e8
          have hmem : T.getD i 0 ∈ T := by
            rw [List.getD_eq_getElem?_getD, List.getElem?_eq_getElem hlt]
            exact List.getElem_mem hlt
          have hbd := HBd.out _ hmem
          have hF4 := HF4.out
          have hx0 : 16 ≤ T.getD i 0 := hbd.1
          have hx1 : T.getD i 0 ≤ 416 := by omega
          have HX : Hid (∀ u, LwA W H L B s H L V (.slice (some ⟨g7, 0, none⟩) T.length c7) T u → Calls Tryz.prog 19 #[.pointer (some ⟨s, 0, none⟩), .int .i64 (T.getD i 0)] u fun e w' => e = .returned (.bool true) ∧ Below u.heap.size u w') := Lib.hid (fun u x => by
            have := HIs.out u (T.getD i 0) x
            rwa [decide_eq_true hmem] at this)
          have HY := Lib.hid (fun u x => HIs.out u (T.getD i 0 + 1) x)
          have hy2 : (0 : Int) ≤ (i : Int) + 1 := by omega
          have hy4 : ((i : Int) + 1).toNat = i + 1 := by omega
          have hi60 : (i : Int) ≤ 60 := by omega
          have hwx : IntKind.i64.wrap (T.getD i 0 + 1) = T.getD i 0 + 1 := by rw [IntKind.wrap_i64]; omega
          have hwi : IntKind.i64.wrap ((i : Int) + 1) = (i : Int) + 1 := by rw [IntKind.wrap_i64]; omega
          by_cases hm : T.getD i 0 + 1 ∈ T
          · rw [decide_eq_true hm] at HY
            obtain ⟨hj, ej⟩ := sorted_next HSo.out hlt (by
              rw [List.getD_eq_getElem?_getD, List.getElem?_eq_getElem hlt] at hm
              exact hm)
            have ej2 : T.getD (i + 1) 0 = T.getD i 0 + 1 := by
              rw [List.getD_eq_getElem?_getD, List.getElem?_eq_getElem hj, List.getD_eq_getElem?_getD, List.getElem?_eq_getElem hlt]
              exact ej
            have HD2 : Hid (∀ u, Below wr.heap.size wr u → u.cell? ⟨g7, i, none⟩ = some (.int .i64 (T.getD i 0)) ∧ u.cell? ⟨g8, i, none⟩ = some (.int .i64 (T.getD i 0)) ∧ u.cell? ⟨g8, i + 1, none⟩ = some (.int .i64 (T.getD i 0 + 1))) := Lib.hid (fun u y => ⟨(owns_cell (own_below HR.out.1.o y) (hb_vals hlt)).1, (owns_cell (own_below HR.out.2 y) (hb_vals hlt)).1, by rw [← ej2]; exact (owns_cell (own_below HR.out.2 y) (hb_vals hj)).1⟩)
            have hne : ¬ ((i : Int) + 1 = (T.length : Int)) := by omega
            have hne2 : ((i : Int) + 1 == (T.length : Int)) = false := beq_eq_false_iff_ne.2 hne
            have hy3 : (i : Int) + 1 < (T.length : Int) := by omega
            clear hm ej ej2 hmem hbd hF4
            generalize T.getD i 0 = x at *
            obtain ⟨d0, d1, d2⟩ := HD2.out _ (Below.refl _ _)
            go_wp2_with fail
            refine wp_region_held_drew (S := (fun u => u.cell? ⟨g7, i, none⟩ = some (.int .i64 x) ∧ u.cell? ⟨g8, i, none⟩ = some (.int .i64 x) ∧ u.cell? ⟨g8, i + 1, none⟩ = some (.int .i64 (x + 1)))) (by kernel_rfl) (HD2.out _ (Below.refl _ _).drew) (fun hHeld => ?_)
            refine wpAnyH_take (i := 0) (oi := { dst := some 102, op := Op.move (Operand.tmp 12), type := 47, pos := "more.go:64", after := #[], guard := none }) (v := ?_) rfl (by kernel_rfl) (by kernel_rfl) (by kernel_rfl) (fun _ _ _ h => h) (Or.inl ⟨by rfl, ?_⟩) (by assumption) ?_
            rotate_left
            · (intro u hSu; (try dsimp only at hSu); go_simp) <;> (try with_reducible rfl)
            try simp only [Act.put, List.setIfInBounds_toArray, List.set_cons_zero, List.set_cons_succ]
            refine wpAnyH_take (i := 1) (oi := { dst := some 103, op := Op.move (Operand.tmp 13), type := 3, pos := "more.go:64", after := #[], guard := none }) (v := ?_) rfl (by kernel_rfl) (by kernel_rfl) (by kernel_rfl) (fun _ _ _ h => h) (Or.inl ⟨by rfl, ?_⟩) (by assumption) ?_
            rotate_left
            · (intro u hSu; (try dsimp only at hSu); go_simp) <;> (try with_reducible rfl)
            try simp only [Act.put, List.setIfInBounds_toArray, List.set_cons_zero, List.set_cons_succ]
            refine wpAnyH_take (i := 2) (oi := { dst := some 104, op := Op.indexAddr 47 (Operand.tmp 102) (Operand.tmp 103), type := 0, pos := "more.go:64", after := #[{ on := 0, ground := Ground.data }, { on := 1, ground := Ground.data }], guard := none }) (v := ?_) rfl (by kernel_rfl) (by kernel_rfl) (by kernel_rfl) (fun _ _ _ h => h) (Or.inl ⟨by rfl, ?_⟩) (by assumption) ?_
            rotate_left
            · (intro u hSu; (try dsimp only at hSu); go_simp) <;> (try with_reducible rfl)
            try simp only [Act.put, List.setIfInBounds_toArray, List.set_cons_zero, List.set_cons_succ]
            refine wpAnyH_take (i := 3) (oi := { dst := some 105, op := Op.load 3 (Operand.tmp 104), type := 3, pos := "more.go:64", after := #[{ on := 2, ground := Ground.data }], guard := none }) (v := ?_) rfl (by kernel_rfl) (by kernel_rfl) (by kernel_rfl) (fun _ _ _ h => h) (Or.inl ⟨by rfl, ?_⟩) (by assumption) ?_
            rotate_left
            · (intro u hSu; (try dsimp only at hSu); go_simp) <;> (try with_reducible rfl)
            try simp only [Act.put, List.setIfInBounds_toArray, List.set_cons_zero, List.set_cons_succ]
            refine wpAnyH_take (i := 4) (oi := { dst := some 106, op := Op.move (Operand.tmp 7), type := 47, pos := "more.go:64", after := #[], guard := none }) (v := ?_) rfl (by kernel_rfl) (by kernel_rfl) (by kernel_rfl) (fun _ _ _ h => h) (Or.inl ⟨by rfl, ?_⟩) (by assumption) ?_
            rotate_left
            · (intro u hSu; (try dsimp only at hSu); go_simp) <;> (try with_reducible rfl)
            try simp only [Act.put, List.setIfInBounds_toArray, List.set_cons_zero, List.set_cons_succ]
            refine wpAnyH_take (i := 5) (oi := { dst := some 107, op := Op.move (Operand.tmp 13), type := 3, pos := "more.go:64", after := #[], guard := none }) (v := ?_) rfl (by kernel_rfl) (by kernel_rfl) (by kernel_rfl) (fun _ _ _ h => h) (Or.inl ⟨by rfl, ?_⟩) (by assumption) ?_
            rotate_left
            · (intro u hSu; (try dsimp only at hSu); go_simp) <;> (try with_reducible rfl)
            try simp only [Act.put, List.setIfInBounds_toArray, List.set_cons_zero, List.set_cons_succ]
            refine wpAnyH_take (i := 6) (oi := { dst := some 108, op := Op.indexAddr 47 (Operand.tmp 106) (Operand.tmp 107), type := 0, pos := "more.go:64", after := #[{ on := 4, ground := Ground.data }, { on := 5, ground := Ground.data }], guard := none }) (v := ?_) rfl (by kernel_rfl) (by kernel_rfl) (by kernel_rfl) (fun _ _ _ h => h) (Or.inl ⟨by rfl, ?_⟩) (by assumption) ?_
            rotate_left
            · (intro u hSu; (try dsimp only at hSu); go_simp) <;> (try with_reducible rfl)
            try simp only [Act.put, List.setIfInBounds_toArray, List.set_cons_zero, List.set_cons_succ]
            refine wpAnyH_take (i := 7) (oi := { dst := some 109, op := Op.load 3 (Operand.tmp 108), type := 3, pos := "more.go:64", after := #[{ on := 6, ground := Ground.data }], guard := none }) (v := ?_) rfl (by kernel_rfl) (by kernel_rfl) (by kernel_rfl) (fun _ _ _ h => h) (Or.inl ⟨by rfl, ?_⟩) (by assumption) ?_
            rotate_left
            · (intro u hSu; (try dsimp only at hSu); go_simp) <;> (try with_reducible rfl)
            try simp only [Act.put, List.setIfInBounds_toArray, List.set_cons_zero, List.set_cons_succ]
            refine wpAnyH_take (i := 8) (oi := { dst := some 110, op := Op.binOp BinOp.neq 3 (Operand.tmp 105) (Operand.tmp 109) 3, type := 4, pos := "more.go:64", after := #[{ on := 3, ground := Ground.data }, { on := 7, ground := Ground.data }], guard := none }) (v := ?_) rfl (by kernel_rfl) (by kernel_rfl) (by kernel_rfl) (fun _ _ _ h => h) (Or.inl ⟨by rfl, ?_⟩) (by assumption) ?_
            rotate_left
            · (intro u hSu; (try dsimp only at hSu); go_simp) <;> (try with_reducible rfl)
            try simp only [Act.put, List.setIfInBounds_toArray, List.set_cons_zero, List.set_cons_succ]
            refine wpAnyH_take (i := 9) (oi := { dst := some 111, op := Op.move (Operand.tmp 110), type := 4, pos := "more.go:64", after := #[{ on := 8, ground := Ground.data }], guard := none }) (v := ?_) rfl (by kernel_rfl) (by kernel_rfl) (by kernel_rfl) (fun _ _ _ h => h) (Or.inl ⟨by rfl, ?_⟩) (by assumption) ?_
            rotate_left
            · (intro u hSu; (try dsimp only at hSu); go_simp) <;> (try with_reducible rfl)
            try simp only [Act.put, List.setIfInBounds_toArray, List.set_cons_zero, List.set_cons_succ]
            refine wpAnyH_take (i := 10) (oi := { dst := some 112, op := Op.move (Operand.tmp 6), type := 28, pos := "more.go:64", after := #[{ on := 9, ground := Ground.guard }], guard := some (9, false) }) (v := ?_) rfl (by kernel_rfl) (by kernel_rfl) (by kernel_rfl) (fun _ _ _ h => h) (Or.inl ⟨by rfl, ?_⟩) (by assumption) ?_
            rotate_left
            · (intro u hSu; (try dsimp only at hSu); go_simp) <;> (try with_reducible rfl)
            try simp only [Act.put, List.setIfInBounds_toArray, List.set_cons_zero, List.set_cons_succ]
            refine wpAnyH_take (i := 11) (oi := { dst := some 113, op := Op.move (Operand.tmp 7), type := 47, pos := "more.go:64", after := #[{ on := 9, ground := Ground.guard }], guard := some (9, false) }) (v := ?_) rfl (by kernel_rfl) (by kernel_rfl) (by kernel_rfl) (fun _ _ _ h => h) (Or.inl ⟨by rfl, ?_⟩) (by assumption) ?_
            rotate_left
            · (intro u hSu; (try dsimp only at hSu); go_simp) <;> (try with_reducible rfl)
            try simp only [Act.put, List.setIfInBounds_toArray, List.set_cons_zero, List.set_cons_succ]
            refine wpAnyH_take (i := 12) (oi := { dst := some 114, op := Op.move (Operand.tmp 13), type := 3, pos := "more.go:64", after := #[{ on := 9, ground := Ground.guard }], guard := some (9, false) }) (v := ?_) rfl (by kernel_rfl) (by kernel_rfl) (by kernel_rfl) (fun _ _ _ h => h) (Or.inl ⟨by rfl, ?_⟩) (by assumption) ?_
            rotate_left
            · (intro u hSu; (try dsimp only at hSu); go_simp) <;> (try with_reducible rfl)
            try simp only [Act.put, List.setIfInBounds_toArray, List.set_cons_zero, List.set_cons_succ]
            refine wpAnyH_take (i := 13) (oi := { dst := some 115, op := Op.indexAddr 47 (Operand.tmp 113) (Operand.tmp 114), type := 0, pos := "more.go:64", after := #[{ on := 11, ground := Ground.data }, { on := 12, ground := Ground.data }, { on := 9, ground := Ground.guard }], guard := some (9, false) }) (v := ?_) rfl (by kernel_rfl) (by kernel_rfl) (by kernel_rfl) (fun _ _ _ h => h) (Or.inl ⟨by rfl, ?_⟩) (by assumption) ?_
            rotate_left
            · (intro u hSu; (try dsimp only at hSu); go_simp) <;> (try with_reducible rfl)
            try simp only [Act.put, List.setIfInBounds_toArray, List.set_cons_zero, List.set_cons_succ]
            refine wpAnyH_take (i := 14) (oi := { dst := some 116, op := Op.load 3 (Operand.tmp 115), type := 3, pos := "more.go:64", after := #[{ on := 13, ground := Ground.data }, { on := 9, ground := Ground.guard }], guard := some (9, false) }) (v := ?_) rfl (by kernel_rfl) (by kernel_rfl) (by kernel_rfl) (fun _ _ _ h => h) (Or.inl ⟨by rfl, ?_⟩) (by assumption) ?_
            rotate_left
            · (intro u hSu; (try dsimp only at hSu); go_simp) <;> (try with_reducible rfl)
            try simp only [Act.put, List.setIfInBounds_toArray, List.set_cons_zero, List.set_cons_succ]
            refine wpAnyH_ready (rs := [15]) (by kernel_rfl) (by simp) ?_
            refine AllReadyH.cons (o := { dst := some 117, op := Op.call { callee := Callee.value (Operand.func 19), args := #[Operand.tmp 112, Operand.tmp 116], argTypes := #[28, 3] }, type := 4, pos := "more.go:64", after := #[{ on := 10, ground := Ground.data }, { on := 14, ground := Ground.data }, { on := 9, ground := Ground.chain }, { on := 9, ground := Ground.guard }], guard := some (9, false) }) rfl (fun K hK => ?_) AllReadyH.nil
            go_simp
            go_wp2_with (go_at_call 19; with_reducible refine (HX.out _ (HR.out.1.below (Below.refl _ _).drew)).mono ?_; rintro e9 w9 ⟨rfl, b2⟩; have H9 := Lib.hid ((Below.refl wr.heap.size wr).drew.trans (b2.mono (Nat.le_refl _))))
            refine hK.out _ _ ?_ (fun hNew => ?_)
            · exact HD2.out _ H9.out
            clear hK K b2 hHeld
            have hHeld := hNew
            clear hNew
            try simp only [Act.put, List.setIfInBounds_toArray, List.set_cons_zero, List.set_cons_succ]
            refine wpAnyH_take (i := 16) (oi := { dst := some 118, op := Op.unOp UnOp.not 4 (Operand.tmp 117), type := 4, pos := "more.go:64", after := #[{ on := 15, ground := Ground.data }, { on := 9, ground := Ground.guard }], guard := some (9, false) }) (v := ?_) rfl (by kernel_rfl) (by kernel_rfl) (by kernel_rfl) (fun _ _ _ h => h) (Or.inl ⟨by rfl, ?_⟩) (by assumption) ?_
            rotate_left
            · (intro u hSu; (try dsimp only at hSu); go_simp) <;> (try with_reducible rfl)
            try simp only [Act.put, List.setIfInBounds_toArray, List.set_cons_zero, List.set_cons_succ]
            refine wpAnyH_take (i := 17) (oi := { dst := some 119, op := Op.pick (Operand.tmp 111) (Operand.const (Value.bool true)) (Operand.tmp 118), type := 4, pos := "more.go:64", after := #[{ on := 9, ground := Ground.data }, { on := 16, ground := Ground.data }], guard := none }) (v := ?_) rfl (by kernel_rfl) (by kernel_rfl) (by kernel_rfl) (fun _ _ _ h => h) (Or.inl ⟨by rfl, ?_⟩) (by assumption) ?_
            rotate_left
            · (intro u hSu; (try dsimp only at hSu); go_simp) <;> (try with_reducible rfl)
            try simp only [Act.put, List.setIfInBounds_toArray, List.set_cons_zero, List.set_cons_succ]
            refine wpAnyH_take (i := 18) (oi := { dst := some 120, op := Op.move (Operand.tmp 119), type := 4, pos := "more.go:64", after := #[{ on := 17, ground := Ground.data }, { on := 15, ground := Ground.chain }], guard := none }) (v := ?_) rfl (by kernel_rfl) (by kernel_rfl) (by kernel_rfl) (fun _ _ _ h => h) (Or.inl ⟨by rfl, ?_⟩) (by assumption) ?_
            rotate_left
            · (intro u hSu; (try dsimp only at hSu); go_simp) <;> (try with_reducible rfl)
            try simp only [Act.put, List.setIfInBounds_toArray, List.set_cons_zero, List.set_cons_succ]
            refine wpAnyH_take (i := 19) (oi := { dst := some 121, op := Op.move (Operand.tmp 6), type := 28, pos := "more.go:64", after := #[{ on := 18, ground := Ground.guard }], guard := some (18, false) }) (v := ?_) rfl (by kernel_rfl) (by kernel_rfl) (by kernel_rfl) (fun _ _ _ h => h) (Or.inl ⟨by rfl, ?_⟩) (by assumption) ?_
            rotate_left
            · (intro u hSu; (try dsimp only at hSu); go_simp) <;> (try with_reducible rfl)
            try simp only [Act.put, List.setIfInBounds_toArray, List.set_cons_zero, List.set_cons_succ]
            refine wpAnyH_take (i := 20) (oi := { dst := some 122, op := Op.move (Operand.tmp 7), type := 47, pos := "more.go:64", after := #[{ on := 18, ground := Ground.guard }], guard := some (18, false) }) (v := ?_) rfl (by kernel_rfl) (by kernel_rfl) (by kernel_rfl) (fun _ _ _ h => h) (Or.inl ⟨by rfl, ?_⟩) (by assumption) ?_
            rotate_left
            · (intro u hSu; (try dsimp only at hSu); go_simp) <;> (try with_reducible rfl)
            try simp only [Act.put, List.setIfInBounds_toArray, List.set_cons_zero, List.set_cons_succ]
            refine wpAnyH_take (i := 21) (oi := { dst := some 123, op := Op.move (Operand.tmp 13), type := 3, pos := "more.go:64", after := #[{ on := 18, ground := Ground.guard }], guard := some (18, false) }) (v := ?_) rfl (by kernel_rfl) (by kernel_rfl) (by kernel_rfl) (fun _ _ _ h => h) (Or.inl ⟨by rfl, ?_⟩) (by assumption) ?_
            rotate_left
            · (intro u hSu; (try dsimp only at hSu); go_simp) <;> (try with_reducible rfl)
            try simp only [Act.put, List.setIfInBounds_toArray, List.set_cons_zero, List.set_cons_succ]
            refine wpAnyH_take (i := 22) (oi := { dst := some 124, op := Op.indexAddr 47 (Operand.tmp 122) (Operand.tmp 123), type := 0, pos := "more.go:64", after := #[{ on := 20, ground := Ground.data }, { on := 21, ground := Ground.data }, { on := 18, ground := Ground.guard }], guard := some (18, false) }) (v := ?_) rfl (by kernel_rfl) (by kernel_rfl) (by kernel_rfl) (fun _ _ _ h => h) (Or.inl ⟨by rfl, ?_⟩) (by assumption) ?_
            rotate_left
            · (intro u hSu; (try dsimp only at hSu); go_simp) <;> (try with_reducible rfl)
            try simp only [Act.put, List.setIfInBounds_toArray, List.set_cons_zero, List.set_cons_succ]
            refine wpAnyH_take (i := 23) (oi := { dst := some 125, op := Op.load 3 (Operand.tmp 124), type := 3, pos := "more.go:64", after := #[{ on := 22, ground := Ground.data }, { on := 18, ground := Ground.guard }], guard := some (18, false) }) (v := ?_) rfl (by kernel_rfl) (by kernel_rfl) (by kernel_rfl) (fun _ _ _ h => h) (Or.inl ⟨by rfl, ?_⟩) (by assumption) ?_
            rotate_left
            · (intro u hSu; (try dsimp only at hSu); go_simp) <;> (try with_reducible rfl)
            try simp only [Act.put, List.setIfInBounds_toArray, List.set_cons_zero, List.set_cons_succ]
            refine wpAnyH_take (i := 24) (oi := { dst := some 126, op := Op.binOp BinOp.add 3 (Operand.tmp 125) (Operand.const (Value.int IntKind.i64 1)) 3, type := 3, pos := "more.go:64", after := #[{ on := 23, ground := Ground.data }, { on := 18, ground := Ground.guard }], guard := some (18, false) }) (v := ?_) rfl (by kernel_rfl) (by kernel_rfl) (by kernel_rfl) (fun _ _ _ h => h) (Or.inl ⟨by rfl, ?_⟩) (by assumption) ?_
            rotate_left
            · (intro u hSu; (try dsimp only at hSu); go_simp) <;> (try with_reducible rfl)
            try simp only [Act.put, List.setIfInBounds_toArray, List.set_cons_zero, List.set_cons_succ]
            refine wpAnyH_ready (rs := [25]) (by kernel_rfl) (by simp) ?_
            refine AllReadyH.cons (o := { dst := some 127, op := Op.call { callee := Callee.value (Operand.func 19), args := #[Operand.tmp 121, Operand.tmp 126], argTypes := #[28, 3] }, type := 4, pos := "more.go:64", after := #[{ on := 19, ground := Ground.data }, { on := 24, ground := Ground.data }, { on := 18, ground := Ground.chain }, { on := 18, ground := Ground.guard }], guard := some (18, false) }) rfl (fun K hK => ?_) AllReadyH.nil
            go_simp
            go_wp2_with (go_at_call 19; with_reducible refine (HY.out _ (HR.out.1.below H9.out)).mono ?_; rintro e10 w10 ⟨rfl, b2⟩; have HA := Lib.hid (geo_next H9.out b2))
            refine hK.out _ _ ?_ (fun hNew => ?_)
            · exact HD2.out _ HA.out
            clear hK K b2 hHeld
            have hHeld := hNew
            clear hNew
            try simp only [Act.put, List.setIfInBounds_toArray, List.set_cons_zero, List.set_cons_succ]
            refine wpAnyH_take (i := 26) (oi := { dst := some 128, op := Op.move (Operand.tmp 127), type := 4, pos := "more.go:64", after := #[{ on := 25, ground := Ground.data }, { on := 25, ground := Ground.chain }, { on := 18, ground := Ground.guard }], guard := some (18, false) }) (v := ?_) rfl (by kernel_rfl) (by kernel_rfl) (by kernel_rfl) (fun _ _ _ h => h) (Or.inl ⟨by rfl, ?_⟩) (by assumption) ?_
            rotate_left
            · (intro u hSu; (try dsimp only at hSu); go_simp) <;> (try with_reducible rfl)
            try simp only [Act.put, List.setIfInBounds_toArray, List.set_cons_zero, List.set_cons_succ]
            refine wpAnyH_take (i := 27) (oi := { dst := some 129, op := Op.move (Operand.tmp 13), type := 3, pos := "more.go:64", after := #[{ on := 26, ground := Ground.guard }], guard := some (26, true) }) (v := ?_) rfl (by kernel_rfl) (by kernel_rfl) (by kernel_rfl) (fun _ _ _ h => h) (Or.inl ⟨by rfl, ?_⟩) (by assumption) ?_
            rotate_left
            · (intro u hSu; (try dsimp only at hSu); go_simp) <;> (try with_reducible rfl)
            try simp only [Act.put, List.setIfInBounds_toArray, List.set_cons_zero, List.set_cons_succ]
            refine wpAnyH_take (i := 28) (oi := { dst := some 130, op := Op.binOp BinOp.add 3 (Operand.tmp 129) (Operand.const (Value.int IntKind.i64 1)) 3, type := 3, pos := "more.go:64", after := #[{ on := 27, ground := Ground.data }, { on := 26, ground := Ground.guard }], guard := some (26, true) }) (v := ?_) rfl (by kernel_rfl) (by kernel_rfl) (by kernel_rfl) (fun _ _ _ h => h) (Or.inl ⟨by rfl, ?_⟩) (by assumption) ?_
            rotate_left
            · (intro u hSu; (try dsimp only at hSu); go_simp) <;> (try with_reducible rfl)
            try simp only [Act.put, List.setIfInBounds_toArray, List.set_cons_zero, List.set_cons_succ]
            refine wpAnyH_take (i := 29) (oi := { dst := some 131, op := Op.move (Operand.tmp 12), type := 47, pos := "more.go:64", after := #[{ on := 26, ground := Ground.guard }], guard := some (26, true) }) (v := ?_) rfl (by kernel_rfl) (by kernel_rfl) (by kernel_rfl) (fun _ _ _ h => h) (Or.inl ⟨by rfl, ?_⟩) (by assumption) ?_
            rotate_left
            · (intro u hSu; (try dsimp only at hSu); go_simp) <;> (try with_reducible rfl)
            try simp only [Act.put, List.setIfInBounds_toArray, List.set_cons_zero, List.set_cons_succ]
            refine wpAnyH_take (i := 30) (oi := { dst := some 132, op := Op.call { callee := Callee.builtin Builtin.len, args := #[Operand.tmp 131], argTypes := #[47] }, type := 3, pos := "more.go:64", after := #[{ on := 29, ground := Ground.data }, { on := 26, ground := Ground.guard }], guard := some (26, true) }) (v := ?_) rfl (by kernel_rfl) (by kernel_rfl) (by kernel_rfl) (fun _ _ _ h => h) (Or.inl ⟨by rfl, ?_⟩) (by assumption) ?_
            rotate_left
            · (intro u hSu; (try dsimp only at hSu); go_simp) <;> (try with_reducible rfl)
            try simp only [Act.put, List.setIfInBounds_toArray, List.set_cons_zero, List.set_cons_succ]
            refine wpAnyH_take (i := 31) (oi := { dst := some 133, op := Op.binOp BinOp.eql 3 (Operand.tmp 130) (Operand.tmp 132) 3, type := 4, pos := "more.go:64", after := #[{ on := 28, ground := Ground.data }, { on := 30, ground := Ground.data }, { on := 26, ground := Ground.guard }], guard := some (26, true) }) (v := ?_) rfl (by kernel_rfl) (by kernel_rfl) (by kernel_rfl) (fun _ _ _ h => h) (Or.inl ⟨by rfl, ?_⟩) (by assumption) ?_
            rotate_left
            · (intro u hSu; (try dsimp only at hSu); go_simp) <;> (try with_reducible rfl)
            try simp only [Act.put, List.setIfInBounds_toArray, List.set_cons_zero, List.set_cons_succ]
            refine wpAnyH_take (i := 32) (oi := { dst := some 134, op := Op.move (Operand.tmp 133), type := 4, pos := "more.go:64", after := #[{ on := 31, ground := Ground.data }, { on := 26, ground := Ground.chain }, { on := 26, ground := Ground.guard }], guard := some (26, true) }) (v := ?_) rfl (by kernel_rfl) (by kernel_rfl) (by kernel_rfl) (fun _ _ _ h => h) (Or.inl ⟨by rfl, ?_⟩) (by assumption) ?_
            rotate_left
            · (intro u hSu; (try dsimp only at hSu); go_simp) <;> (try with_reducible rfl)
            try simp only [Act.put, List.setIfInBounds_toArray, List.set_cons_zero, List.set_cons_succ]
            refine wpAnyH_take (i := 33) (oi := { dst := some 135, op := Op.move (Operand.tmp 12), type := 47, pos := "more.go:64", after := #[{ on := 32, ground := Ground.guard }], guard := some (32, false) }) (v := ?_) rfl (by kernel_rfl) (by kernel_rfl) (by kernel_rfl) (fun _ _ _ h => h) (Or.inl ⟨by rfl, ?_⟩) (by assumption) ?_
            rotate_left
            · (intro u hSu; (try dsimp only at hSu); go_simp) <;> (try with_reducible rfl)
            try simp only [Act.put, List.setIfInBounds_toArray, List.set_cons_zero, List.set_cons_succ]
            refine wpAnyH_take (i := 34) (oi := { dst := some 136, op := Op.move (Operand.tmp 13), type := 3, pos := "more.go:64", after := #[{ on := 32, ground := Ground.guard }], guard := some (32, false) }) (v := ?_) rfl (by kernel_rfl) (by kernel_rfl) (by kernel_rfl) (fun _ _ _ h => h) (Or.inl ⟨by rfl, ?_⟩) (by assumption) ?_
            rotate_left
            · (intro u hSu; (try dsimp only at hSu); go_simp) <;> (try with_reducible rfl)
            try simp only [Act.put, List.setIfInBounds_toArray, List.set_cons_zero, List.set_cons_succ]
            refine wpAnyH_take (i := 35) (oi := { dst := some 137, op := Op.binOp BinOp.add 3 (Operand.tmp 136) (Operand.const (Value.int IntKind.i64 1)) 3, type := 3, pos := "more.go:64", after := #[{ on := 34, ground := Ground.data }, { on := 32, ground := Ground.guard }], guard := some (32, false) }) (v := ?_) rfl (by kernel_rfl) (by kernel_rfl) (by kernel_rfl) (fun _ _ _ h => h) (Or.inl ⟨by rfl, ?_⟩) (by assumption) ?_
            rotate_left
            · (intro u hSu; (try dsimp only at hSu); go_simp) <;> (try with_reducible rfl)
            try simp only [Act.put, List.setIfInBounds_toArray, List.set_cons_zero, List.set_cons_succ]
            refine wpAnyH_take (i := 36) (oi := { dst := some 138, op := Op.indexAddr 47 (Operand.tmp 135) (Operand.tmp 137), type := 0, pos := "more.go:64", after := #[{ on := 33, ground := Ground.data }, { on := 35, ground := Ground.data }, { on := 32, ground := Ground.guard }], guard := some (32, false) }) (v := ?_) rfl (by kernel_rfl) (by kernel_rfl) (by kernel_rfl) (fun _ _ _ h => h) (Or.inl ⟨by rfl, ?_⟩) (by assumption) ?_
            rotate_left
            · (intro u hSu; (try dsimp only at hSu); go_simp) <;> (try with_reducible rfl)
            try simp only [Act.put, List.setIfInBounds_toArray, List.set_cons_zero, List.set_cons_succ]
            refine wpAnyH_take (i := 37) (oi := { dst := some 139, op := Op.load 3 (Operand.tmp 138), type := 3, pos := "more.go:64", after := #[{ on := 36, ground := Ground.data }, { on := 32, ground := Ground.guard }], guard := some (32, false) }) (v := ?_) rfl (by kernel_rfl) (by kernel_rfl) (by kernel_rfl) (fun _ _ _ h => h) (Or.inl ⟨by rfl, ?_⟩) (by assumption) ?_
            rotate_left
            · (intro u hSu; (try dsimp only at hSu); go_simp) <;> (try with_reducible rfl)
            try simp only [Act.put, List.setIfInBounds_toArray, List.set_cons_zero, List.set_cons_succ]
            refine wpAnyH_take (i := 38) (oi := { dst := some 140, op := Op.move (Operand.tmp 7), type := 47, pos := "more.go:64", after := #[{ on := 32, ground := Ground.guard }], guard := some (32, false) }) (v := ?_) rfl (by kernel_rfl) (by kernel_rfl) (by kernel_rfl) (fun _ _ _ h => h) (Or.inl ⟨by rfl, ?_⟩) (by assumption) ?_
            rotate_left
            · (intro u hSu; (try dsimp only at hSu); go_simp) <;> (try with_reducible rfl)
            try simp only [Act.put, List.setIfInBounds_toArray, List.set_cons_zero, List.set_cons_succ]
            refine wpAnyH_take (i := 39) (oi := { dst := some 141, op := Op.move (Operand.tmp 13), type := 3, pos := "more.go:64", after := #[{ on := 32, ground := Ground.guard }], guard := some (32, false) }) (v := ?_) rfl (by kernel_rfl) (by kernel_rfl) (by kernel_rfl) (fun _ _ _ h => h) (Or.inl ⟨by rfl, ?_⟩) (by assumption) ?_
            rotate_left
            · (intro u hSu; (try dsimp only at hSu); go_simp) <;> (try with_reducible rfl)
            try simp only [Act.put, List.setIfInBounds_toArray, List.set_cons_zero, List.set_cons_succ]
            refine wpAnyH_take (i := 40) (oi := { dst := some 142, op := Op.indexAddr 47 (Operand.tmp 140) (Operand.tmp 141), type := 0, pos := "more.go:64", after := #[{ on := 38, ground := Ground.data }, { on := 39, ground := Ground.data }, { on := 32, ground := Ground.guard }], guard := some (32, false) }) (v := ?_) rfl (by kernel_rfl) (by kernel_rfl) (by kernel_rfl) (fun _ _ _ h => h) (Or.inl ⟨by rfl, ?_⟩) (by assumption) ?_
            rotate_left
            · (intro u hSu; (try dsimp only at hSu); go_simp) <;> (try with_reducible rfl)
            try simp only [Act.put, List.setIfInBounds_toArray, List.set_cons_zero, List.set_cons_succ]
            refine wpAnyH_take (i := 41) (oi := { dst := some 143, op := Op.load 3 (Operand.tmp 142), type := 3, pos := "more.go:64", after := #[{ on := 40, ground := Ground.data }, { on := 32, ground := Ground.guard }], guard := some (32, false) }) (v := ?_) rfl (by kernel_rfl) (by kernel_rfl) (by kernel_rfl) (fun _ _ _ h => h) (Or.inl ⟨by rfl, ?_⟩) (by assumption) ?_
            rotate_left
            · (intro u hSu; (try dsimp only at hSu); go_simp) <;> (try with_reducible rfl)
            try simp only [Act.put, List.setIfInBounds_toArray, List.set_cons_zero, List.set_cons_succ]
            refine wpAnyH_take (i := 42) (oi := { dst := some 144, op := Op.binOp BinOp.add 3 (Operand.tmp 143) (Operand.const (Value.int IntKind.i64 1)) 3, type := 3, pos := "more.go:64", after := #[{ on := 41, ground := Ground.data }, { on := 32, ground := Ground.guard }], guard := some (32, false) }) (v := ?_) rfl (by kernel_rfl) (by kernel_rfl) (by kernel_rfl) (fun _ _ _ h => h) (Or.inl ⟨by rfl, ?_⟩) (by assumption) ?_
            rotate_left
            · (intro u hSu; (try dsimp only at hSu); go_simp) <;> (try with_reducible rfl)
            try simp only [Act.put, List.setIfInBounds_toArray, List.set_cons_zero, List.set_cons_succ]
            refine wpAnyH_take (i := 43) (oi := { dst := some 145, op := Op.binOp BinOp.neq 3 (Operand.tmp 139) (Operand.tmp 144) 3, type := 4, pos := "more.go:64", after := #[{ on := 37, ground := Ground.data }, { on := 42, ground := Ground.data }, { on := 32, ground := Ground.guard }], guard := some (32, false) }) (v := ?_) rfl (by kernel_rfl) (by kernel_rfl) (by kernel_rfl) (fun _ _ _ h => h) (Or.inl ⟨by rfl, ?_⟩) (by assumption) ?_
            rotate_left
            · (intro u hSu; (try dsimp only at hSu); go_simp) <;> (try with_reducible rfl)
            try simp only [Act.put, List.setIfInBounds_toArray, List.set_cons_zero, List.set_cons_succ]
            refine wpAnyH_take (i := 44) (oi := { dst := some 146, op := Op.pick (Operand.tmp 134) (Operand.const (Value.bool true)) (Operand.tmp 145), type := 4, pos := "more.go:64", after := #[{ on := 32, ground := Ground.data }, { on := 43, ground := Ground.data }, { on := 26, ground := Ground.guard }], guard := some (26, true) }) (v := ?_) rfl (by kernel_rfl) (by kernel_rfl) (by kernel_rfl) (fun _ _ _ h => h) (Or.inl ⟨by rfl, ?_⟩) (by assumption) ?_
            rotate_left
            · (intro u hSu; (try dsimp only at hSu); go_simp) <;> (try with_reducible rfl)
            try simp only [Act.put, List.setIfInBounds_toArray, List.set_cons_zero, List.set_cons_succ]
            refine wpAnyH_take (i := 45) (oi := { dst := some 147, op := Op.pick (Operand.tmp 128) (Operand.tmp 146) (Operand.const (Value.bool false)), type := 4, pos := "more.go:64", after := #[{ on := 26, ground := Ground.data }, { on := 44, ground := Ground.data }, { on := 18, ground := Ground.guard }], guard := some (18, false) }) (v := ?_) rfl (by kernel_rfl) (by kernel_rfl) (by kernel_rfl) (fun _ _ _ h => h) (Or.inl ⟨by rfl, ?_⟩) (by assumption) ?_
            rotate_left
            · (intro u hSu; (try dsimp only at hSu); go_simp) <;> (try with_reducible rfl)
            try simp only [Act.put, List.setIfInBounds_toArray, List.set_cons_zero, List.set_cons_succ]
            refine wpAnyH_take (i := 46) (oi := { dst := some 148, op := Op.pick (Operand.tmp 120) (Operand.const (Value.bool true)) (Operand.tmp 147), type := 4, pos := "more.go:64", after := #[{ on := 18, ground := Ground.data }, { on := 45, ground := Ground.data }], guard := none }) (v := ?_) rfl (by kernel_rfl) (by kernel_rfl) (by kernel_rfl) (fun _ _ _ h => h) (Or.inl ⟨by rfl, ?_⟩) (by assumption) ?_
            rotate_left
            · (intro u hSu; (try dsimp only at hSu); go_simp) <;> (try with_reducible rfl)
            try simp only [Act.put, List.setIfInBounds_toArray, List.set_cons_zero, List.set_cons_succ]
            refine wpAnyH_done (by kernel_rfl) ?_ _
            go_wp2_with fail
            exact ⟨⟨i + 1, by omega, by go_num, Lib.hid ⟨HR.out.1.below HA.out, own_below HR.out.2 HA.out⟩⟩, by simp [intOf]; omega⟩
          · rw [decide_eq_false hm] at HY
            have HD2 : Hid (∀ u, Below wr.heap.size wr u → u.cell? ⟨g7, i, none⟩ = some (.int .i64 (T.getD i 0)) ∧ u.cell? ⟨g8, i, none⟩ = some (.int .i64 (T.getD i 0))) := Lib.hid (fun u y => ⟨(owns_cell (own_below HR.out.1.o y) (hb_vals hlt)).1, (owns_cell (own_below HR.out.2 y) (hb_vals hlt)).1⟩)
            clear hm hmem hbd hF4
            generalize T.getD i 0 = x at *
            obtain ⟨d0, d1⟩ := HD2.out _ (Below.refl _ _)
            go_wp2_with fail
            refine wp_region_held_drew (S := (fun u => u.cell? ⟨g7, i, none⟩ = some (.int .i64 x) ∧ u.cell? ⟨g8, i, none⟩ = some (.int .i64 x))) (by kernel_rfl) (HD2.out _ (Below.refl _ _).drew) (fun hHeld => ?_)
            refine wpAnyH_take (i := 0) (oi := { dst := some 102, op := Op.move (Operand.tmp 12), type := 47, pos := "more.go:64", after := #[], guard := none }) (v := ?_) rfl (by kernel_rfl) (by kernel_rfl) (by kernel_rfl) (fun _ _ _ h => h) (Or.inl ⟨by rfl, ?_⟩) (by assumption) ?_
            rotate_left
            · (intro u hSu; (try dsimp only at hSu); go_simp) <;> (try with_reducible rfl)
            try simp only [Act.put, List.setIfInBounds_toArray, List.set_cons_zero, List.set_cons_succ]
            refine wpAnyH_take (i := 1) (oi := { dst := some 103, op := Op.move (Operand.tmp 13), type := 3, pos := "more.go:64", after := #[], guard := none }) (v := ?_) rfl (by kernel_rfl) (by kernel_rfl) (by kernel_rfl) (fun _ _ _ h => h) (Or.inl ⟨by rfl, ?_⟩) (by assumption) ?_
            rotate_left
            · (intro u hSu; (try dsimp only at hSu); go_simp) <;> (try with_reducible rfl)
            try simp only [Act.put, List.setIfInBounds_toArray, List.set_cons_zero, List.set_cons_succ]
            refine wpAnyH_take (i := 2) (oi := { dst := some 104, op := Op.indexAddr 47 (Operand.tmp 102) (Operand.tmp 103), type := 0, pos := "more.go:64", after := #[{ on := 0, ground := Ground.data }, { on := 1, ground := Ground.data }], guard := none }) (v := ?_) rfl (by kernel_rfl) (by kernel_rfl) (by kernel_rfl) (fun _ _ _ h => h) (Or.inl ⟨by rfl, ?_⟩) (by assumption) ?_
            rotate_left
            · (intro u hSu; (try dsimp only at hSu); go_simp) <;> (try with_reducible rfl)
            try simp only [Act.put, List.setIfInBounds_toArray, List.set_cons_zero, List.set_cons_succ]
            refine wpAnyH_take (i := 3) (oi := { dst := some 105, op := Op.load 3 (Operand.tmp 104), type := 3, pos := "more.go:64", after := #[{ on := 2, ground := Ground.data }], guard := none }) (v := ?_) rfl (by kernel_rfl) (by kernel_rfl) (by kernel_rfl) (fun _ _ _ h => h) (Or.inl ⟨by rfl, ?_⟩) (by assumption) ?_
            rotate_left
            · (intro u hSu; (try dsimp only at hSu); go_simp) <;> (try with_reducible rfl)
            try simp only [Act.put, List.setIfInBounds_toArray, List.set_cons_zero, List.set_cons_succ]
            refine wpAnyH_take (i := 4) (oi := { dst := some 106, op := Op.move (Operand.tmp 7), type := 47, pos := "more.go:64", after := #[], guard := none }) (v := ?_) rfl (by kernel_rfl) (by kernel_rfl) (by kernel_rfl) (fun _ _ _ h => h) (Or.inl ⟨by rfl, ?_⟩) (by assumption) ?_
            rotate_left
            · (intro u hSu; (try dsimp only at hSu); go_simp) <;> (try with_reducible rfl)
            try simp only [Act.put, List.setIfInBounds_toArray, List.set_cons_zero, List.set_cons_succ]
            refine wpAnyH_take (i := 5) (oi := { dst := some 107, op := Op.move (Operand.tmp 13), type := 3, pos := "more.go:64", after := #[], guard := none }) (v := ?_) rfl (by kernel_rfl) (by kernel_rfl) (by kernel_rfl) (fun _ _ _ h => h) (Or.inl ⟨by rfl, ?_⟩) (by assumption) ?_
            rotate_left
            · (intro u hSu; (try dsimp only at hSu); go_simp) <;> (try with_reducible rfl)
            try simp only [Act.put, List.setIfInBounds_toArray, List.set_cons_zero, List.set_cons_succ]
            refine wpAnyH_take (i := 6) (oi := { dst := some 108, op := Op.indexAddr 47 (Operand.tmp 106) (Operand.tmp 107), type := 0, pos := "more.go:64", after := #[{ on := 4, ground := Ground.data }, { on := 5, ground := Ground.data }], guard := none }) (v := ?_) rfl (by kernel_rfl) (by kernel_rfl) (by kernel_rfl) (fun _ _ _ h => h) (Or.inl ⟨by rfl, ?_⟩) (by assumption) ?_
            rotate_left
            · (intro u hSu; (try dsimp only at hSu); go_simp) <;> (try with_reducible rfl)
            try simp only [Act.put, List.setIfInBounds_toArray, List.set_cons_zero, List.set_cons_succ]
            refine wpAnyH_take (i := 7) (oi := { dst := some 109, op := Op.load 3 (Operand.tmp 108), type := 3, pos := "more.go:64", after := #[{ on := 6, ground := Ground.data }], guard := none }) (v := ?_) rfl (by kernel_rfl) (by kernel_rfl) (by kernel_rfl) (fun _ _ _ h => h) (Or.inl ⟨by rfl, ?_⟩) (by assumption) ?_
            rotate_left
            · (intro u hSu; (try dsimp only at hSu); go_simp) <;> (try with_reducible rfl)
            try simp only [Act.put, List.setIfInBounds_toArray, List.set_cons_zero, List.set_cons_succ]
            refine wpAnyH_take (i := 8) (oi := { dst := some 110, op := Op.binOp BinOp.neq 3 (Operand.tmp 105) (Operand.tmp 109) 3, type := 4, pos := "more.go:64", after := #[{ on := 3, ground := Ground.data }, { on := 7, ground := Ground.data }], guard := none }) (v := ?_) rfl (by kernel_rfl) (by kernel_rfl) (by kernel_rfl) (fun _ _ _ h => h) (Or.inl ⟨by rfl, ?_⟩) (by assumption) ?_
            rotate_left
            · (intro u hSu; (try dsimp only at hSu); go_simp) <;> (try with_reducible rfl)
            try simp only [Act.put, List.setIfInBounds_toArray, List.set_cons_zero, List.set_cons_succ]
            refine wpAnyH_take (i := 9) (oi := { dst := some 111, op := Op.move (Operand.tmp 110), type := 4, pos := "more.go:64", after := #[{ on := 8, ground := Ground.data }], guard := none }) (v := ?_) rfl (by kernel_rfl) (by kernel_rfl) (by kernel_rfl) (fun _ _ _ h => h) (Or.inl ⟨by rfl, ?_⟩) (by assumption) ?_
            rotate_left
            · (intro u hSu; (try dsimp only at hSu); go_simp) <;> (try with_reducible rfl)
            try simp only [Act.put, List.setIfInBounds_toArray, List.set_cons_zero, List.set_cons_succ]
            refine wpAnyH_take (i := 10) (oi := { dst := some 112, op := Op.move (Operand.tmp 6), type := 28, pos := "more.go:64", after := #[{ on := 9, ground := Ground.guard }], guard := some (9, false) }) (v := ?_) rfl (by kernel_rfl) (by kernel_rfl) (by kernel_rfl) (fun _ _ _ h => h) (Or.inl ⟨by rfl, ?_⟩) (by assumption) ?_
            rotate_left
            · (intro u hSu; (try dsimp only at hSu); go_simp) <;> (try with_reducible rfl)
            try simp only [Act.put, List.setIfInBounds_toArray, List.set_cons_zero, List.set_cons_succ]
            refine wpAnyH_take (i := 11) (oi := { dst := some 113, op := Op.move (Operand.tmp 7), type := 47, pos := "more.go:64", after := #[{ on := 9, ground := Ground.guard }], guard := some (9, false) }) (v := ?_) rfl (by kernel_rfl) (by kernel_rfl) (by kernel_rfl) (fun _ _ _ h => h) (Or.inl ⟨by rfl, ?_⟩) (by assumption) ?_
            rotate_left
            · (intro u hSu; (try dsimp only at hSu); go_simp) <;> (try with_reducible rfl)
            try simp only [Act.put, List.setIfInBounds_toArray, List.set_cons_zero, List.set_cons_succ]
            refine wpAnyH_take (i := 12) (oi := { dst := some 114, op := Op.move (Operand.tmp 13), type := 3, pos := "more.go:64", after := #[{ on := 9, ground := Ground.guard }], guard := some (9, false) }) (v := ?_) rfl (by kernel_rfl) (by kernel_rfl) (by kernel_rfl) (fun _ _ _ h => h) (Or.inl ⟨by rfl, ?_⟩) (by assumption) ?_
            rotate_left
            · (intro u hSu; (try dsimp only at hSu); go_simp) <;> (try with_reducible rfl)
            try simp only [Act.put, List.setIfInBounds_toArray, List.set_cons_zero, List.set_cons_succ]
            refine wpAnyH_take (i := 13) (oi := { dst := some 115, op := Op.indexAddr 47 (Operand.tmp 113) (Operand.tmp 114), type := 0, pos := "more.go:64", after := #[{ on := 11, ground := Ground.data }, { on := 12, ground := Ground.data }, { on := 9, ground := Ground.guard }], guard := some (9, false) }) (v := ?_) rfl (by kernel_rfl) (by kernel_rfl) (by kernel_rfl) (fun _ _ _ h => h) (Or.inl ⟨by rfl, ?_⟩) (by assumption) ?_
            rotate_left
            · (intro u hSu; (try dsimp only at hSu); go_simp) <;> (try with_reducible rfl)
            try simp only [Act.put, List.setIfInBounds_toArray, List.set_cons_zero, List.set_cons_succ]
            refine wpAnyH_take (i := 14) (oi := { dst := some 116, op := Op.load 3 (Operand.tmp 115), type := 3, pos := "more.go:64", after := #[{ on := 13, ground := Ground.data }, { on := 9, ground := Ground.guard }], guard := some (9, false) }) (v := ?_) rfl (by kernel_rfl) (by kernel_rfl) (by kernel_rfl) (fun _ _ _ h => h) (Or.inl ⟨by rfl, ?_⟩) (by assumption) ?_
            rotate_left
            · (intro u hSu; (try dsimp only at hSu); go_simp) <;> (try with_reducible rfl)
            try simp only [Act.put, List.setIfInBounds_toArray, List.set_cons_zero, List.set_cons_succ]
            refine wpAnyH_ready (rs := [15]) (by kernel_rfl) (by simp) ?_
            refine AllReadyH.cons (o := { dst := some 117, op := Op.call { callee := Callee.value (Operand.func 19), args := #[Operand.tmp 112, Operand.tmp 116], argTypes := #[28, 3] }, type := 4, pos := "more.go:64", after := #[{ on := 10, ground := Ground.data }, { on := 14, ground := Ground.data }, { on := 9, ground := Ground.chain }, { on := 9, ground := Ground.guard }], guard := some (9, false) }) rfl (fun K hK => ?_) AllReadyH.nil
            go_simp
            go_wp2_with (go_at_call 19; with_reducible refine (HX.out _ (HR.out.1.below (Below.refl _ _).drew)).mono ?_; rintro e9 w9 ⟨rfl, b2⟩; have H9 := Lib.hid ((Below.refl wr.heap.size wr).drew.trans (b2.mono (Nat.le_refl _))))
            refine hK.out _ _ ?_ (fun hNew => ?_)
            · exact HD2.out _ H9.out
            clear hK K b2 hHeld
            have hHeld := hNew
            clear hNew
            try simp only [Act.put, List.setIfInBounds_toArray, List.set_cons_zero, List.set_cons_succ]
            refine wpAnyH_take (i := 16) (oi := { dst := some 118, op := Op.unOp UnOp.not 4 (Operand.tmp 117), type := 4, pos := "more.go:64", after := #[{ on := 15, ground := Ground.data }, { on := 9, ground := Ground.guard }], guard := some (9, false) }) (v := ?_) rfl (by kernel_rfl) (by kernel_rfl) (by kernel_rfl) (fun _ _ _ h => h) (Or.inl ⟨by rfl, ?_⟩) (by assumption) ?_
            rotate_left
            · (intro u hSu; (try dsimp only at hSu); go_simp) <;> (try with_reducible rfl)
            try simp only [Act.put, List.setIfInBounds_toArray, List.set_cons_zero, List.set_cons_succ]
            refine wpAnyH_take (i := 17) (oi := { dst := some 119, op := Op.pick (Operand.tmp 111) (Operand.const (Value.bool true)) (Operand.tmp 118), type := 4, pos := "more.go:64", after := #[{ on := 9, ground := Ground.data }, { on := 16, ground := Ground.data }], guard := none }) (v := ?_) rfl (by kernel_rfl) (by kernel_rfl) (by kernel_rfl) (fun _ _ _ h => h) (Or.inl ⟨by rfl, ?_⟩) (by assumption) ?_
            rotate_left
            · (intro u hSu; (try dsimp only at hSu); go_simp) <;> (try with_reducible rfl)
            try simp only [Act.put, List.setIfInBounds_toArray, List.set_cons_zero, List.set_cons_succ]
            refine wpAnyH_take (i := 18) (oi := { dst := some 120, op := Op.move (Operand.tmp 119), type := 4, pos := "more.go:64", after := #[{ on := 17, ground := Ground.data }, { on := 15, ground := Ground.chain }], guard := none }) (v := ?_) rfl (by kernel_rfl) (by kernel_rfl) (by kernel_rfl) (fun _ _ _ h => h) (Or.inl ⟨by rfl, ?_⟩) (by assumption) ?_
            rotate_left
            · (intro u hSu; (try dsimp only at hSu); go_simp) <;> (try with_reducible rfl)
            try simp only [Act.put, List.setIfInBounds_toArray, List.set_cons_zero, List.set_cons_succ]
            refine wpAnyH_take (i := 19) (oi := { dst := some 121, op := Op.move (Operand.tmp 6), type := 28, pos := "more.go:64", after := #[{ on := 18, ground := Ground.guard }], guard := some (18, false) }) (v := ?_) rfl (by kernel_rfl) (by kernel_rfl) (by kernel_rfl) (fun _ _ _ h => h) (Or.inl ⟨by rfl, ?_⟩) (by assumption) ?_
            rotate_left
            · (intro u hSu; (try dsimp only at hSu); go_simp) <;> (try with_reducible rfl)
            try simp only [Act.put, List.setIfInBounds_toArray, List.set_cons_zero, List.set_cons_succ]
            refine wpAnyH_take (i := 20) (oi := { dst := some 122, op := Op.move (Operand.tmp 7), type := 47, pos := "more.go:64", after := #[{ on := 18, ground := Ground.guard }], guard := some (18, false) }) (v := ?_) rfl (by kernel_rfl) (by kernel_rfl) (by kernel_rfl) (fun _ _ _ h => h) (Or.inl ⟨by rfl, ?_⟩) (by assumption) ?_
            rotate_left
            · (intro u hSu; (try dsimp only at hSu); go_simp) <;> (try with_reducible rfl)
            try simp only [Act.put, List.setIfInBounds_toArray, List.set_cons_zero, List.set_cons_succ]
            refine wpAnyH_take (i := 21) (oi := { dst := some 123, op := Op.move (Operand.tmp 13), type := 3, pos := "more.go:64", after := #[{ on := 18, ground := Ground.guard }], guard := some (18, false) }) (v := ?_) rfl (by kernel_rfl) (by kernel_rfl) (by kernel_rfl) (fun _ _ _ h => h) (Or.inl ⟨by rfl, ?_⟩) (by assumption) ?_
            rotate_left
            · (intro u hSu; (try dsimp only at hSu); go_simp) <;> (try with_reducible rfl)
            try simp only [Act.put, List.setIfInBounds_toArray, List.set_cons_zero, List.set_cons_succ]
            refine wpAnyH_take (i := 22) (oi := { dst := some 124, op := Op.indexAddr 47 (Operand.tmp 122) (Operand.tmp 123), type := 0, pos := "more.go:64", after := #[{ on := 20, ground := Ground.data }, { on := 21, ground := Ground.data }, { on := 18, ground := Ground.guard }], guard := some (18, false) }) (v := ?_) rfl (by kernel_rfl) (by kernel_rfl) (by kernel_rfl) (fun _ _ _ h => h) (Or.inl ⟨by rfl, ?_⟩) (by assumption) ?_
            rotate_left
            · (intro u hSu; (try dsimp only at hSu); go_simp) <;> (try with_reducible rfl)
            try simp only [Act.put, List.setIfInBounds_toArray, List.set_cons_zero, List.set_cons_succ]
            refine wpAnyH_take (i := 23) (oi := { dst := some 125, op := Op.load 3 (Operand.tmp 124), type := 3, pos := "more.go:64", after := #[{ on := 22, ground := Ground.data }, { on := 18, ground := Ground.guard }], guard := some (18, false) }) (v := ?_) rfl (by kernel_rfl) (by kernel_rfl) (by kernel_rfl) (fun _ _ _ h => h) (Or.inl ⟨by rfl, ?_⟩) (by assumption) ?_
            rotate_left
            · (intro u hSu; (try dsimp only at hSu); go_simp) <;> (try with_reducible rfl)
            try simp only [Act.put, List.setIfInBounds_toArray, List.set_cons_zero, List.set_cons_succ]
            refine wpAnyH_take (i := 24) (oi := { dst := some 126, op := Op.binOp BinOp.add 3 (Operand.tmp 125) (Operand.const (Value.int IntKind.i64 1)) 3, type := 3, pos := "more.go:64", after := #[{ on := 23, ground := Ground.data }, { on := 18, ground := Ground.guard }], guard := some (18, false) }) (v := ?_) rfl (by kernel_rfl) (by kernel_rfl) (by kernel_rfl) (fun _ _ _ h => h) (Or.inl ⟨by rfl, ?_⟩) (by assumption) ?_
            rotate_left
            · (intro u hSu; (try dsimp only at hSu); go_simp) <;> (try with_reducible rfl)
            try simp only [Act.put, List.setIfInBounds_toArray, List.set_cons_zero, List.set_cons_succ]
            refine wpAnyH_ready (rs := [25]) (by kernel_rfl) (by simp) ?_
            refine AllReadyH.cons (o := { dst := some 127, op := Op.call { callee := Callee.value (Operand.func 19), args := #[Operand.tmp 121, Operand.tmp 126], argTypes := #[28, 3] }, type := 4, pos := "more.go:64", after := #[{ on := 19, ground := Ground.data }, { on := 24, ground := Ground.data }, { on := 18, ground := Ground.chain }, { on := 18, ground := Ground.guard }], guard := some (18, false) }) rfl (fun K hK => ?_) AllReadyH.nil
            go_simp
            go_wp2_with (go_at_call 19; with_reducible refine (HY.out _ (HR.out.1.below H9.out)).mono ?_; rintro e10 w10 ⟨rfl, b2⟩; have HA := Lib.hid (geo_next H9.out b2))
            refine hK.out _ _ ?_ (fun hNew => ?_)
            · exact HD2.out _ HA.out
            clear hK K b2 hHeld
            have hHeld := hNew
            clear hNew
            try simp only [Act.put, List.setIfInBounds_toArray, List.set_cons_zero, List.set_cons_succ]
            refine wpAnyH_take (i := 26) (oi := { dst := some 128, op := Op.move (Operand.tmp 127), type := 4, pos := "more.go:64", after := #[{ on := 25, ground := Ground.data }, { on := 25, ground := Ground.chain }, { on := 18, ground := Ground.guard }], guard := some (18, false) }) (v := ?_) rfl (by kernel_rfl) (by kernel_rfl) (by kernel_rfl) (fun _ _ _ h => h) (Or.inl ⟨by rfl, ?_⟩) (by assumption) ?_
            rotate_left
            · (intro u hSu; (try dsimp only at hSu); go_simp) <;> (try with_reducible rfl)
            try simp only [Act.put, List.setIfInBounds_toArray, List.set_cons_zero, List.set_cons_succ]
            refine wpAnyH_take (i := 27) (oi := { dst := some 129, op := Op.move (Operand.tmp 13), type := 3, pos := "more.go:64", after := #[{ on := 26, ground := Ground.guard }], guard := some (26, true) }) (v := undef) rfl (by kernel_rfl) (by kernel_rfl) (by kernel_rfl) (fun _ _ _ h => h) (Or.inr ⟨by rfl, rfl⟩) (by assumption) ?_
            try simp only [Act.put, List.setIfInBounds_toArray, List.set_cons_zero, List.set_cons_succ]
            refine wpAnyH_take (i := 28) (oi := { dst := some 130, op := Op.binOp BinOp.add 3 (Operand.tmp 129) (Operand.const (Value.int IntKind.i64 1)) 3, type := 3, pos := "more.go:64", after := #[{ on := 27, ground := Ground.data }, { on := 26, ground := Ground.guard }], guard := some (26, true) }) (v := undef) rfl (by kernel_rfl) (by kernel_rfl) (by kernel_rfl) (fun _ _ _ h => h) (Or.inr ⟨by rfl, rfl⟩) (by assumption) ?_
            try simp only [Act.put, List.setIfInBounds_toArray, List.set_cons_zero, List.set_cons_succ]
            refine wpAnyH_take (i := 29) (oi := { dst := some 131, op := Op.move (Operand.tmp 12), type := 47, pos := "more.go:64", after := #[{ on := 26, ground := Ground.guard }], guard := some (26, true) }) (v := undef) rfl (by kernel_rfl) (by kernel_rfl) (by kernel_rfl) (fun _ _ _ h => h) (Or.inr ⟨by rfl, rfl⟩) (by assumption) ?_
            try simp only [Act.put, List.setIfInBounds_toArray, List.set_cons_zero, List.set_cons_succ]
            refine wpAnyH_take (i := 30) (oi := { dst := some 132, op := Op.call { callee := Callee.builtin Builtin.len, args := #[Operand.tmp 131], argTypes := #[47] }, type := 3, pos := "more.go:64", after := #[{ on := 29, ground := Ground.data }, { on := 26, ground := Ground.guard }], guard := some (26, true) }) (v := undef) rfl (by kernel_rfl) (by kernel_rfl) (by kernel_rfl) (fun _ _ _ h => h) (Or.inr ⟨by rfl, rfl⟩) (by assumption) ?_
            try simp only [Act.put, List.setIfInBounds_toArray, List.set_cons_zero, List.set_cons_succ]
            refine wpAnyH_take (i := 31) (oi := { dst := some 133, op := Op.binOp BinOp.eql 3 (Operand.tmp 130) (Operand.tmp 132) 3, type := 4, pos := "more.go:64", after := #[{ on := 28, ground := Ground.data }, { on := 30, ground := Ground.data }, { on := 26, ground := Ground.guard }], guard := some (26, true) }) (v := undef) rfl (by kernel_rfl) (by kernel_rfl) (by kernel_rfl) (fun _ _ _ h => h) (Or.inr ⟨by rfl, rfl⟩) (by assumption) ?_
            try simp only [Act.put, List.setIfInBounds_toArray, List.set_cons_zero, List.set_cons_succ]
            refine wpAnyH_take (i := 32) (oi := { dst := some 134, op := Op.move (Operand.tmp 133), type := 4, pos := "more.go:64", after := #[{ on := 31, ground := Ground.data }, { on := 26, ground := Ground.chain }, { on := 26, ground := Ground.guard }], guard := some (26, true) }) (v := undef) rfl (by kernel_rfl) (by kernel_rfl) (by kernel_rfl) (fun _ _ _ h => h) (Or.inr ⟨by rfl, rfl⟩) (by assumption) ?_
            try simp only [Act.put, List.setIfInBounds_toArray, List.set_cons_zero, List.set_cons_succ]
            refine wpAnyH_take (i := 33) (oi := { dst := some 135, op := Op.move (Operand.tmp 12), type := 47, pos := "more.go:64", after := #[{ on := 32, ground := Ground.guard }], guard := some (32, false) }) (v := undef) rfl (by kernel_rfl) (by kernel_rfl) (by kernel_rfl) (fun _ _ _ h => h) (Or.inr ⟨by rfl, rfl⟩) (by assumption) ?_
            try simp only [Act.put, List.setIfInBounds_toArray, List.set_cons_zero, List.set_cons_succ]
            refine wpAnyH_take (i := 34) (oi := { dst := some 136, op := Op.move (Operand.tmp 13), type := 3, pos := "more.go:64", after := #[{ on := 32, ground := Ground.guard }], guard := some (32, false) }) (v := undef) rfl (by kernel_rfl) (by kernel_rfl) (by kernel_rfl) (fun _ _ _ h => h) (Or.inr ⟨by rfl, rfl⟩) (by assumption) ?_
            try simp only [Act.put, List.setIfInBounds_toArray, List.set_cons_zero, List.set_cons_succ]
            refine wpAnyH_take (i := 35) (oi := { dst := some 137, op := Op.binOp BinOp.add 3 (Operand.tmp 136) (Operand.const (Value.int IntKind.i64 1)) 3, type := 3, pos := "more.go:64", after := #[{ on := 34, ground := Ground.data }, { on := 32, ground := Ground.guard }], guard := some (32, false) }) (v := undef) rfl (by kernel_rfl) (by kernel_rfl) (by kernel_rfl) (fun _ _ _ h => h) (Or.inr ⟨by rfl, rfl⟩) (by assumption) ?_
            try simp only [Act.put, List.setIfInBounds_toArray, List.set_cons_zero, List.set_cons_succ]
            refine wpAnyH_take (i := 36) (oi := { dst := some 138, op := Op.indexAddr 47 (Operand.tmp 135) (Operand.tmp 137), type := 0, pos := "more.go:64", after := #[{ on := 33, ground := Ground.data }, { on := 35, ground := Ground.data }, { on := 32, ground := Ground.guard }], guard := some (32, false) }) (v := undef) rfl (by kernel_rfl) (by kernel_rfl) (by kernel_rfl) (fun _ _ _ h => h) (Or.inr ⟨by rfl, rfl⟩) (by assumption) ?_
            try simp only [Act.put, List.setIfInBounds_toArray, List.set_cons_zero, List.set_cons_succ]
            refine wpAnyH_take (i := 37) (oi := { dst := some 139, op := Op.load 3 (Operand.tmp 138), type := 3, pos := "more.go:64", after := #[{ on := 36, ground := Ground.data }, { on := 32, ground := Ground.guard }], guard := some (32, false) }) (v := undef) rfl (by kernel_rfl) (by kernel_rfl) (by kernel_rfl) (fun _ _ _ h => h) (Or.inr ⟨by rfl, rfl⟩) (by assumption) ?_
            try simp only [Act.put, List.setIfInBounds_toArray, List.set_cons_zero, List.set_cons_succ]
            refine wpAnyH_take (i := 38) (oi := { dst := some 140, op := Op.move (Operand.tmp 7), type := 47, pos := "more.go:64", after := #[{ on := 32, ground := Ground.guard }], guard := some (32, false) }) (v := undef) rfl (by kernel_rfl) (by kernel_rfl) (by kernel_rfl) (fun _ _ _ h => h) (Or.inr ⟨by rfl, rfl⟩) (by assumption) ?_
            try simp only [Act.put, List.setIfInBounds_toArray, List.set_cons_zero, List.set_cons_succ]
            refine wpAnyH_take (i := 39) (oi := { dst := some 141, op := Op.move (Operand.tmp 13), type := 3, pos := "more.go:64", after := #[{ on := 32, ground := Ground.guard }], guard := some (32, false) }) (v := undef) rfl (by kernel_rfl) (by kernel_rfl) (by kernel_rfl) (fun _ _ _ h => h) (Or.inr ⟨by rfl, rfl⟩) (by assumption) ?_
            try simp only [Act.put, List.setIfInBounds_toArray, List.set_cons_zero, List.set_cons_succ]
            refine wpAnyH_take (i := 40) (oi := { dst := some 142, op := Op.indexAddr 47 (Operand.tmp 140) (Operand.tmp 141), type := 0, pos := "more.go:64", after := #[{ on := 38, ground := Ground.data }, { on := 39, ground := Ground.data }, { on := 32, ground := Ground.guard }], guard := some (32, false) }) (v := undef) rfl (by kernel_rfl) (by kernel_rfl) (by kernel_rfl) (fun _ _ _ h => h) (Or.inr ⟨by rfl, rfl⟩) (by assumption) ?_
            try simp only [Act.put, List.setIfInBounds_toArray, List.set_cons_zero, List.set_cons_succ]
            refine wpAnyH_take (i := 41) (oi := { dst := some 143, op := Op.load 3 (Operand.tmp 142), type := 3, pos := "more.go:64", after := #[{ on := 40, ground := Ground.data }, { on := 32, ground := Ground.guard }], guard := some (32, false) }) (v := undef) rfl (by kernel_rfl) (by kernel_rfl) (by kernel_rfl) (fun _ _ _ h => h) (Or.inr ⟨by rfl, rfl⟩) (by assumption) ?_
            try simp only [Act.put, List.setIfInBounds_toArray, List.set_cons_zero, List.set_cons_succ]
            refine wpAnyH_take (i := 42) (oi := { dst := some 144, op := Op.binOp BinOp.add 3 (Operand.tmp 143) (Operand.const (Value.int IntKind.i64 1)) 3, type := 3, pos := "more.go:64", after := #[{ on := 41, ground := Ground.data }, { on := 32, ground := Ground.guard }], guard := some (32, false) }) (v := undef) rfl (by kernel_rfl) (by kernel_rfl) (by kernel_rfl) (fun _ _ _ h => h) (Or.inr ⟨by rfl, rfl⟩) (by assumption) ?_
            try simp only [Act.put, List.setIfInBounds_toArray, List.set_cons_zero, List.set_cons_succ]
            refine wpAnyH_take (i := 43) (oi := { dst := some 145, op := Op.binOp BinOp.neq 3 (Operand.tmp 139) (Operand.tmp 144) 3, type := 4, pos := "more.go:64", after := #[{ on := 37, ground := Ground.data }, { on := 42, ground := Ground.data }, { on := 32, ground := Ground.guard }], guard := some (32, false) }) (v := undef) rfl (by kernel_rfl) (by kernel_rfl) (by kernel_rfl) (fun _ _ _ h => h) (Or.inr ⟨by rfl, rfl⟩) (by assumption) ?_
            try simp only [Act.put, List.setIfInBounds_toArray, List.set_cons_zero, List.set_cons_succ]
            refine wpAnyH_take (i := 44) (oi := { dst := some 146, op := Op.pick (Operand.tmp 134) (Operand.const (Value.bool true)) (Operand.tmp 145), type := 4, pos := "more.go:64", after := #[{ on := 32, ground := Ground.data }, { on := 43, ground := Ground.data }, { on := 26, ground := Ground.guard }], guard := some (26, true) }) (v := undef) rfl (by kernel_rfl) (by kernel_rfl) (by kernel_rfl) (fun _ _ _ h => h) (Or.inr ⟨by rfl, rfl⟩) (by assumption) ?_
            try simp only [Act.put, List.setIfInBounds_toArray, List.set_cons_zero, List.set_cons_succ]
            refine wpAnyH_take (i := 45) (oi := { dst := some 147, op := Op.pick (Operand.tmp 128) (Operand.tmp 146) (Operand.const (Value.bool false)), type := 4, pos := "more.go:64", after := #[{ on := 26, ground := Ground.data }, { on := 44, ground := Ground.data }, { on := 18, ground := Ground.guard }], guard := some (18, false) }) (v := ?_) rfl (by kernel_rfl) (by kernel_rfl) (by kernel_rfl) (fun _ _ _ h => h) (Or.inl ⟨by rfl, ?_⟩) (by assumption) ?_
            rotate_left
            · (intro u hSu; (try dsimp only at hSu); go_simp) <;> (try with_reducible rfl)
            try simp only [Act.put, List.setIfInBounds_toArray, List.set_cons_zero, List.set_cons_succ]
            refine wpAnyH_take (i := 46) (oi := { dst := some 148, op := Op.pick (Operand.tmp 120) (Operand.const (Value.bool true)) (Operand.tmp 147), type := 4, pos := "more.go:64", after := #[{ on := 18, ground := Ground.data }, { on := 45, ground := Ground.data }], guard := none }) (v := ?_) rfl (by kernel_rfl) (by kernel_rfl) (by kernel_rfl) (fun _ _ _ h => h) (Or.inl ⟨by rfl, ?_⟩) (by assumption) ?_
            rotate_left
            · (intro u hSu; (try dsimp only at hSu); go_simp) <;> (try with_reducible rfl)
            try simp only [Act.put, List.setIfInBounds_toArray, List.set_cons_zero, List.set_cons_succ]
            refine wpAnyH_done (by kernel_rfl) ?_ _
            go_wp2_with fail
            exact ⟨⟨i + 1, by omega, by go_num, Lib.hid ⟨HR.out.1.below HA.out, own_below HR.out.2 HA.out⟩⟩, by simp [intOf]; omega⟩
        · have hnl2 : ¬ (i : Int) < (T.length : Int) := by omega
          go_wp2_with fail
          go_ret
          exact ⟨rfl, HR.out.1.b⟩
theorem Ordr_walk (ht : TyOk W.heap.size W) (h l : Int) (q : Option Addr) (x : List Two) (m : Nat) (hq : LiesAt W q (flat Two.cells x)) (hx : x.length ≤ maxLen) : Calls Tryz.prog 6 #[.agg #[.int .i64 h, .int .i64 l], .slice q x.length m] W fun e w' => e = .returned (.bool true) ∧ Below W.heap.size W w' := by
  by_cases k : geOk h l = true ∧ h ≤ 200 ∧ x.length ≤ 60
  · obtain ⟨k0, k1, k2⟩ := k
    have hq2 := geOk_yes k0
    obtain ⟨H, rfl⟩ := Int.eq_ofNat_of_zero_le (show 0 ≤ h by omega)
    obtain ⟨L, rfl⟩ := Int.eq_ofNat_of_zero_le (show 0 ≤ l by omega)
    exact Ordr_yes ht H L k0 (by omega) q x m hq k2
  · exact Ordr_no ht h l q x.length m (by unfold maxLen at hx; omega) k
end
end Go.Proofs.YtjpiadhhdgclpaaGreatDoor
