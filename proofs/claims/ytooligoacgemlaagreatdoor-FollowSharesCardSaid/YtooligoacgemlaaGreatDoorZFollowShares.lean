/- FollowShares: the walk. -/
import Derived.Test.YtooligoacgemlaaGreatDoorZFollowLaws
import Derived.Test.YtooligoacgemlaaGreatDoorZGeo
import Derived.Test.YtooligoacgemlaaGreatDoorZPairOpen
import Derived.Test.YtooligoacgemlaaGreatDoorZStoreC
set_option linter.unusedVariables false
set_option linter.unusedSimpArgs false
namespace Go.Proofs.YtooligoacgemlaaGreatDoor
open Go.RowKit Sec
open Go.Proofs.YtooligoacgemlaaGreatDoor.Bk

section
variable {W : World}
set_option maxRecDepth 100000 in
set_option maxHeartbeats 4000000 in
theorem Shar_no (ht : TyOk W.heap.size W) (h l : Int) (q q2 : Option Addr) (n m n2 m2 : Nat) (hn : (n : Int) ≤ 9223372036854775807) (hn2 : (n2 : Int) ≤ 9223372036854775807) (no : ¬ (geOk h l = true ∧ h ≤ 100 ∧ n ≤ 20 ∧ n2 ≤ 60)) : Calls Tryz.prog 5 #[.agg #[.int .i64 h, .int .i64 l], .slice q n m, .slice q2 n2 m2] W fun e w' => e = .returned (.bool true) ∧ Below W.heap.size W w' := by
  have HT := Lib.hid ht
  have HR := Lib.hid (fun u => rgeo_is h l u)
  have cases : geOk h l = false ∨ (geOk h l = true ∧ (100 < h ∨ (h ≤ 100 ∧ ((20 : Int) < (n : Int) ∨ ((n : Int) ≤ 20 ∧ (60 : Int) < (n2 : Int)))))) := by
    cases q : geOk h l
    · exact .inl rfl
    · have no2 : ¬ (h ≤ 100 ∧ n ≤ 20 ∧ n2 ≤ 60) := fun x => no ⟨q, x⟩
      exact .inr ⟨rfl, by omega⟩
  clear no ht
  generalize geOk h l = ok at *
  rcases cases with rfl | ⟨rfl, c1 | ⟨c1, c2 | ⟨c2, c3⟩⟩⟩
  all_goals
    go_enter Tryz.func5, Tryz.ntmps5
    go_wp2_with (first
      | (go_at_call 6; refine (HR.out _).mono ?_; rintro e' w1 ⟨rfl, b1⟩; have H1 := Lib.hid (GBox.laid b1); obtain ⟨_, c0, _⟩ := H1.out.1; clear b1)
      | (go_at_call 7; refine (foalive_is ((HT.out.below H1.out.2).more H1.out.2.size)).mono ?_; rintro e' w2 ⟨rfl, b2⟩; have H2 := Lib.hid (geo_next H1.out.2 b2); clear b2))
    go_ret
    exact ⟨rfl, H2.out⟩
theorem vals_flat : ∀ l : List Int, vals l = flat (fun z : Int => [Value.int .i64 z]) l
  | [] => rfl
  | z :: l => by
    show Value.int .i64 z :: vals l = [Value.int .i64 z] ++ flat _ l
    rw [vals_flat l]
    rfl
theorem lies_num {w : World} {a : Option Addr} {l : List Int} (h : LiesAt w a (vals l)) {k : Nat} (hk : k < l.length) : ∃ g o : Nat, a = some ⟨g, o, none⟩ ∧ g < w.heap.size ∧ w.cell? ⟨g, o + k, none⟩ = some (.int .i64 (l.getD k 0)) := by
  rw [vals_flat] at h
  obtain ⟨g, o, h1, h2, h3⟩ := h.elem (k := 1) (fun _ => rfl) (by decide) (List.getElem?_eq_getElem hk)
  have := h3 0 _ rfl
  rw [Nat.mul_one, Nat.add_zero] at this
  exact ⟨g, o, h1, h2, by rw [this, List.getD_eq_getElem?_getD, List.getElem?_eq_getElem hk]; rfl⟩
theorem LwM.mono {W u : World} {h l : Int} {B s H L mb n n' : Nat} {V : List Int} {v : Value} {T : List Int} {D : DataW Unit} (x : LwM W h l B s H L V v T mb n D u) (hn : n ≤ n') : LwM W h l B s H L V v T mb n' D u :=
  ⟨x.x, x.o, x.m.mono hn, x.bm, x.ne⟩
theorem LwM.elem {W u : World} {h l : Int} {B s H L mb n g c : Nat} {V : List Int} {T : List Int} {D : DataW Unit} (x : LwM W h l B s H L V (.slice (some ⟨g, 0, none⟩) T.length c) T mb n D u) {j : Nat} (hj : j < T.length) : u.cell? ⟨g, j, none⟩ = some (.int .i64 (T.getD j 0)) :=
  (owns_cell x.o (show (vals T)[j]? = some (.int .i64 (T.getD j 0)) by simp [vals, hj])).1
theorem LwA.g {W : World} {h l : Int} {B s H L : Nat} {V : List Int} {v : Value} {T : List Int} {u : World} (x : LwA W h l B s H L V v T u) : GBox u W.heap.size h l := by
  obtain ⟨⟨G, x1, _⟩, _⟩ := x
  exact x1.g
set_option maxRecDepth 100000 in
set_option maxHeartbeats 8000000 in
theorem Shar_yes (ht : TyOk W.heap.size W) (H L : Nat) (hg : geOk H L = true) (hH : H ≤ 100) (q : Option Addr) (l : List Two) (m : Nat) (hq : LiesAt W q (flat Two.cells l)) (hl : l.length ≤ 20) (q2 : Option Addr) (ol : List Int) (m2 : Nat) (hq2 : LiesAt W q2 (vals ol)) (hol : ol.length ≤ 60) : Calls Tryz.prog 5 #[.agg #[.int .i64 (H : Int), .int .i64 (L : Int)], .slice q l.length m, .slice q2 ol.length m2] W fun e w' => e = .returned (.bool true) ∧ Below W.heap.size W w' := by
  obtain ⟨i0, hi, hz0, hz1, hz2⟩ := info_parts (show (Tryz.prog.info? 3).map (fun i => (i.zero, i.size, i.bytes)) = some (some (.int .i64 0), 1, 8) by kernel_rfl)
  have HI := Lib.hid (And.intro hi (And.intro hz0 (And.intro hz1 hz2)))
  clear hi hz0 hz1 hz2
  have hge := geOk_yes hg
  have HT := Lib.hid ht
  have HR := Lib.hid (fun u => rgeo_is H L u)
  rw [hg] at HR
  have HBg : Hid (∀ u, TyOk u.heap.size u → Calls Tryz.prog 16 #[.agg #[.int .i64 (H : Int), .int .i64 (L : Int)]] u fun r w' => ∃ s p, r = .returned (.tuple #[.pointer (some ⟨p, 0, none⟩), .pointer (some ⟨s, 0, none⟩)]) ∧ St u.heap.size (fun b => b < u.heap.size) w' s H L (freshC H) ∧ Below u.heap.size u w') := Lib.hid (fun u x => Begin_st x H L (by omega))
  have HL := Lib.hid hq
  have HLo := Lib.hid hq2
  have HO0 := Lib.hid (Ordered.zero hg (L := L))
  have HNew := Lib.hid (fun B G u s V (x : St B G u s H L V) (sl wo : Int) => anew_st x sl wo)
  have HM := Lib.hid (GBox.made W (H : Int) (L : Int) 23)
  have hi0 : ¬ (100 : Int) < (H : Int) := by omega
  have hl1 : ¬ (20 : Int) < (l.length : Int) := by omega
  have hl2 : (l.length : Int) ≤ 20 := by omega
  have ho1 : ¬ (60 : Int) < (ol.length : Int) := by omega
  have ho2 : (ol.length : Int) ≤ 60 := by omega
  clear ht hg hge hq hq2
  go_enter Tryz.func5, Tryz.ntmps5
  go_wp2_with (first
    | (go_at_call 6; refine (HR.out _).mono ?_; rintro e' w1 ⟨rfl, b1⟩; have H1 := Lib.hid (GBox.laid b1); obtain ⟨_, c0, c1⟩ := H1.out.1; clear b1)
    | (go_at_call 7; refine (foalive_is ((HT.out.below H1.out.2).more H1.out.2.size)).mono ?_; rintro e' w2 ⟨rfl, b2⟩; replace H1 := Lib.hid (And.intro (H1.out.1.below b2) (geo_next H1.out.2 b2)); clear b2 c0 c1; obtain ⟨_, c0, c1⟩ := H1.out.1)
    | (go_at_call 16; refine (HBg.out _ ((HT.out.below H1.out.2).more H1.out.2.size)).mono ?_; rintro e' w3 ⟨s, p, rfl, h3, b3⟩; have HS := Lib.hid (LwA.start (LwS.start H1.out.1 H1.out.2 h3 b3)); clear h3 b3 c0 c1))
  clear H1 HR HBg HT HM
  generalize w2.heap.size = B at *
  go_loopw [9, 10] (fun v i wr => ∃ (k : Nat) (V T : List Int), k ≤ l.length ∧ i = .int .i64 (k : Int) ∧ T.length ≤ k ∧ Hid (Ordered H L V T) ∧ Hid (LwA W H L B s H L V v T wr)) (fun _ i _ => l.length - (intOf i).toNat)
  case atStart => exact ⟨0, freshC H, [], Nat.zero_le _, rfl, Nat.le_refl _, HO0, HS⟩
  case round =>
    clear HS HO0
    obtain ⟨k, V, T, hk, rfl, hT, HO, HS⟩ := hrel
    have hk60 : (k : Int) ≤ 20 := by omega
    have hT60 : T.length ≤ 20 := by omega
    have hTi : (T.length : Int) ≤ 20 := by omega
    by_cases hlt : k < l.length
    · obtain ⟨g1, og, rfl, hg1, e1⟩ := HL.out.elem Two.len (by omega) (List.getElem?_eq_getElem hlt)
      have e1_0 := e1 0 _ rfl
      have e1_1 := e1 1 _ rfl
      rw [Nat.add_zero] at e1_0
      clear e1
      have HD : Hid (∀ u, Below W.heap.size W u → u.cell? ⟨g1, og + k * 2, none⟩ = some (.int .i64 l[k].a) ∧ u.cell? ⟨g1, og + k * 2 + 1, none⟩ = some (.int .i64 l[k].b)) := Lib.hid (fun u y => ⟨(y.cell (p := ⟨g1, og + k * 2, none⟩) hg1).trans e1_0, (y.cell (p := ⟨g1, og + k * 2 + 1, none⟩) hg1).trans e1_1⟩)
      generalize l[k].a = xa at *
      generalize l[k].b = xb at *
      have hi1 : (k : Int) < (l.length : Int) := by omega
      clear e1_0 e1_1
      obtain ⟨e1_0, e1_1⟩ := HD.out _ HS.out.b
      have HNy : Hid (∀ u, LwA W H L B s H L V u9 T u → Calls Tryz.prog 17 #[.pointer (some ⟨s, 0, none⟩), .int .i64 xa, .int .i64 xb] u fun e w' => e = .returned (.tuple #[.int .i64 (newA H L V xa xb), .int .i64 (newE H L V xa xb)]) ∧ LwA W H L B s H L (newW H L V xa xb) u9 T w') := Lib.hid (fun u x => x.new (fun G y => HNew.out _ _ _ _ _ y xa xb))
      by_cases e0 : newE H L V xa xb = 0
      · obtain ⟨o1, o2, o3, o4⟩ := HO.out.step e0
        have hfr := HO.out.fr
        have hsh := shOk_yes o2
        rw [o1, e0] at HNy
        have HO2 := Lib.hid o4
        clear o1 o2 o3 o4 e0 HO
        generalize newW H L V xa xb = V2 at *
        generalize hFr V = fr at *
        clear hsh
        clear hfr
        go_wp2_with fail
        go_region_held3 (fun u => u.cell? ⟨g1, og + k * 2, none⟩ = some (.int .i64 xa) ∧ u.cell? ⟨g1, og + k * 2 + 1, none⟩ = some (.int .i64 xb)) (first
            | assumption
            | exact HD.out _ HS.out.b
            | exact HD.out _ HS.out.b.drew
            | exact HD.out _ H2.out.b) (first
          | (go_at_call 17
             refine (HNy.out _ (by first | exact HS.out | exact HS.out.below (Below.refl _ _).drew)).mono ?_
             rintro e' w4 ⟨rfl, h4⟩
             have H2 := Lib.hid h4
             clear h4))
        all_goals
          have hBs : B ≤ w4.heap.size := H2.out.st.elim fun G y => y.le
          have hA1 : T.length + 1 ≤ maxLen := by unfold maxLen; omega
          have hA2 : (T.length + 1) * 8 ≤ 140737488355328 := by omega
          go_wp2_with (first
            | (refine wpList_append_lies _ rfl (.tmp 79) (.tmp 81) 25 rfl B 3 i0 _ 1 8 Tryz.underlying25 HI.out.1 HI.out.2.1 HI.out.2.2.1 HI.out.2.2.2 rfl (by omega) u9 T.length (vals T) rfl (H2.out.o.alloc _) _ 1 1 [.int .i64 fr] rfl rfl (by exact World.news_of_block (heap_alloc_last _ _)) (by intro u hu; simp at hu; rw [hu]; rfl) (by decide) hA1 hA2 (Nat.le_trans hBs (by rw [size_alloc]; exact Nat.le_succ _)) _ rfl ?_
               intro g5 cap w5 hown5 hgr5 hat5 hlt5
               have HY := Lib.hid (And.intro hown5 (And.intro hgr5 (And.intro hat5 hlt5)))
               clear hown5 hgr5 hat5 hlt5))
          have HY2 := Lib.hid (H2.out.push ((Below.refl w4.heap.size w4).alloc (Nat.le_refl _) _) rfl HY.out.1 HY.out.2.1 HY.out.2.2.1 HY.out.2.2.2)
          clear HY
          exact ⟨⟨k + 1, V2, T ++ [fr], by omega, by go_num, by rw [List.length_append, List.length_singleton]; omega, HO2, HY2⟩, by simp [intOf]; omega⟩
      · have hE : newE H L V xa xb = 1 ∨ newE H L V xa xb = 6 := by
          rcases newE_cases H L V xa xb with q | q | q
          · exact .inl q.1
          · exact .inr q.1
          · exact absurd q.1 e0
        rw [(new_no e0).1, (new_no e0).2] at HNy
        have hne : (newE H L V xa xb == 0) = false := beq_eq_false_iff_ne.2 e0
        have HOs := HO
        clear hE
        generalize newE H L V xa xb = ev at *
        go_wp2_with fail
        go_region_held3 (fun u => u.cell? ⟨g1, og + k * 2, none⟩ = some (.int .i64 xa) ∧ u.cell? ⟨g1, og + k * 2 + 1, none⟩ = some (.int .i64 xb)) (first
            | assumption
            | exact HD.out _ HS.out.b
            | exact HD.out _ HS.out.b.drew
            | exact HD.out _ H2.out.b) (first
          | (go_at_call 17
             refine (HNy.out _ (by first | exact HS.out | exact HS.out.below (Below.refl _ _).drew)).mono ?_
             rintro e' w4 ⟨rfl, h4⟩
             have H2 := Lib.hid h4
             clear h4))
        all_goals
          go_wp2_with fail
          exact ⟨⟨k + 1, V, T, by omega, by go_num, by omega, HO, H2⟩, by simp [intOf]; omega⟩
    · have hnl : ¬ (k : Int) < (l.length : Int) := by omega
      obtain ⟨a7, c7, rfl⟩ := owns_slice HS.out.o
      by_cases hT0 : T.length = 0
      · have hz : ((T.length : Int) == 0) = true := by rw [hT0]; rfl
        go_wp2_with fail
        go_ret
        exact ⟨rfl, HS.out.b⟩
      have hnz : ((T.length : Int) == 0) = false := beq_eq_false_iff_ne.2 (by omega)
      have hfin : fineB H L 1 (16 + (H : Int)) 1 (16 + (H : Int)) = true := by
        have x := (HO.out.shr (HS.out.st.elim fun G y => y.num)).ok
        obtain ⟨x0, x1, x2, x3⟩ := ctl_at (W := V) (sp := 1) (fr := 16 + (H : Int)) (gc := 1) (sc := 16 + (H : Int)) (by have := HO.out.len; omega)
        rwa [hOk, x0, x1, x2, x3] at x
      have HSet : Hid (∀ u, LwA W H L B s H L V (.slice a7 T.length c7) T u → Calls Tryz.prog 18 #[.pointer (some ⟨s, 0, none⟩), .agg #[.int .i64 1, .int .i64 (16 + (H : Int)), .int .i64 1, .int .i64 (16 + (H : Int))]] u fun e w' => e = .returned (.bool true) ∧ LwA W H L B s H L (ctlW V 1 (16 + (H : Int)) 1 (16 + (H : Int))) (.slice a7 T.length c7) T w') := Lib.hid (fun u x => x.new (fun G y => spset_yes y 1 (16 + (H : Int)) 1 (16 + (H : Int)) hfin))
      have HX0 := Lib.hid (HO.out.shr (HS.out.st.elim fun G y => y.num))
      have HXT := Lib.hid HO.out.sht
      have HFr0 : Hid (hFr (ctlW V 1 (16 + (H : Int)) 1 (16 + (H : Int))) = 16 + (H : Int)) := Lib.hid (ctl_at (W := V) (by have := HO.out.len; omega)).2.1
      have hmm := @run_makeMap Tryz.prog
      obtain ⟨_, c0, _⟩ := HS.out.g
      obtain ⟨g7, q7, e7, _, _, _⟩ := own_blk HS.out.o (by omega)
      obtain ⟨rfl, rfl⟩ : a7 = some ⟨g7, 0, none⟩ ∧ c7 = q7 := by simpa using e7
      clear HO HNew HL HI hfin e7
      generalize ctlW V 1 (16 + (H : Int)) 1 (16 + (H : Int)) = V1 at *
      go_wp2_with (go_at_call 18; refine (HSet.out _ HS.out).mono ?_; rintro e' w4 ⟨rfl, h4⟩; have H4 := Lib.hid (LwM.start h4); clear h4)
      clear HSet HS hmm c0
      generalize w4.heap.size = mb at *
      go_loopw [15, 99] (fun f i wr => ∃ (k : Nat) (V2 : List Int) (mv : Int → Int) (D : DataW Unit), k ≤ ol.length ∧ i = .int .i64 (k : Int) ∧ f = .int .i64 (hFr V2) ∧ Hid (Shr H L V T V2 mv) ∧ Hid (MpIs D T mv) ∧ Hid (LwM W H L B s H L V2 (.slice (some ⟨g7, 0, none⟩) T.length c7) T mb k D wr)) (fun _ i _ => ol.length - (intOf i).toNat)
      case atStart => exact ⟨0, V1, fun _ => 0, .map [], Nat.zero_le _, rfl, by rw [HFr0.out], HX0, Lib.hid (MpIs.start T), H4⟩
      case round =>
        clear HX0 HFr0 H4
        obtain ⟨k, V2, mv, D, hk, rfl, rfl, HX, HMp, HR⟩ := hrel
        by_cases hlt : k < ol.length
        · obtain ⟨g2, og2, rfl, hg2, e2⟩ := lies_num HLo.out hlt
          have hi1 : (k : Int) < (ol.length : Int) := by omega
          have d2 := (HR.out.b.cell (p := ⟨g2, og2 + k, none⟩) hg2).trans e2
          obtain ⟨⟨r0, r1⟩, j, hj, _, hr⟩ := turn_at (ol.getD k 0) T.length (by omega)
          have hTn : (T.length : Int) ≤ 20 := by omega
          have hT0' : ¬ (T.length : Int) = 0 := by omega
          have hwr : IntKind.i64.wrap ((ol.getD k 0).tmod (T.length : Int) + (T.length : Int)) = (ol.getD k 0).tmod (T.length : Int) + (T.length : Int) := by rw [IntKind.wrap_i64]; omega
          have d7 := HR.out.elem hj
          have hjI : (j : Int) < (T.length : Int) := by omega
          have ha : T.getD j 0 ∈ T := by
            rw [List.getD_eq_getElem?_getD, List.getElem?_eq_getElem hj]
            exact List.getElem_mem hj
          clear e2 r0 r1
          generalize T.getD j 0 = a at *
          generalize ol.getD k 0 = oo at *
          obtain ⟨t1, t2, _⟩ := HXT.out.each a ha
          have tz := osz_pos V a
          by_cases hm : mv a = 0
          · obtain ⟨x1, x2, x3, x4, x5, x6⟩ := HX.out.first HXT.out ha hm
            have hfr2 : 16 + (H : Int) ≤ hFr V2 ∧ hFr V2 ≤ 16 + 2 * (H : Int) := by
              obtain ⟨f1, f2, f3, f4, _⟩ := fine_yes HX.out.ok
              rw [HX.out.sp] at f4
              omega
            have hp := shOk_yes (pr_range (V.getD a.toNat 0))
            have HFo : Hid (∀ u, LwM W H L B s H L V2 (.slice (some ⟨g7, 0, none⟩) T.length c7) T mb k D u → Calls Tryz.prog 13 #[.pointer (some ⟨s, 0, none⟩), .int .i64 a] u fun e w' => e = .returned (.tuple #[.int .i64 (hFr V2), .int .i64 0]) ∧ LwM W H L B s H L (folW H L V2 a) (.slice (some ⟨g7, 0, none⟩) T.length c7) T mb k D w') := Lib.hid (fun u x => x.new (fun G y => by
              have := fFollow_is y a
              rwa [x1, x2] at this))
            have HLk : Hid (∀ u, LwM W H L B s H L (folW H L V2 a) (.slice (some ⟨g7, 0, none⟩) T.length c7) T mb k D u → (Instr.lookup 52 (.map (some mb)) (.int .i64 a) true).run Tryz.prog u = .ok (.tuple #[.int .i64 0, .bool false]) u) := Lib.hid (fun u x => by
              have := x.look HMp.out ha (by omega) (by omega)
              rwa [hm, decide_eq_false (by decide)] at this)
            have HSh : Hid (∀ u, LwM W H L B s H L (folW H L V2 a) (.slice (some ⟨g7, 0, none⟩) T.length c7) T mb k D u → Calls Tryz.prog 19 #[.pointer (some ⟨s, 0, none⟩), .int .i64 (hFr V2)] u fun e w' => e = .returned (.tuple #[.int .i64 (prS (V.getD a.toNat 0)), .int .i64 (prW (V.getD a.toNat 0)), .bool true]) ∧ Below u.heap.size u w') := Lib.hid (fun u x => by
              obtain ⟨G, y⟩ := x.st
              have := ashape_st y (hFr V2)
              rwa [shAS, shAW, if_pos x4, if_pos x4, x5, decide_eq_true x4] at this)
            have HPut : Hid (∀ u, LwM W H L B s H L (folW H L V2 a) (.slice (some ⟨g7, 0, none⟩) T.length c7) T mb k D u → ∃ u', (Instr.mapUpdate 52 (.map (some mb)) (.int .i64 a) (.int .i64 (hFr V2))).run Tryz.prog u = .ok () u' ∧ LwM W H L B s H L (folW H L V2 a) (.slice (some ⟨g7, 0, none⟩) T.length c7) T mb (k + 1) (D.put (.int .i64 a) (.lit (.int .i64 (hFr V2)))) u') := Lib.hid (fun u x => x.put (by unfold maxLen; omega) (by omega) (by omega) (by omega) (by omega))
            have HX3 := Lib.hid x3
            have HM3 := Lib.hid (HMp.out.put HR.out.isMap a (b := hFr V2) (by omega))
            have HF3 : Hid (hFr (folW H L V2 a) = hFr V2 + (1 + prS (V.getD a.toNat 0) + prW (V.getD a.toNat 0))) := Lib.hid x6
            clear x1 x2 x3 x4 x5 x6 hm HX HMp t1 t2 tz ha
            generalize (fun y => if y = a then hFr V2 else mv y) = mv3 at *
            generalize folW H L V2 a = V3 at *
            generalize prS (V.getD a.toNat 0) = ps at *
            generalize prW (V.getD a.toNat 0) = pw at *
            generalize hFr V2 = fr at *
            have hw1 : IntKind.i64.wrap (1 + ps) = 1 + ps := by rw [IntKind.wrap_i64]; omega
            have hw2 : IntKind.i64.wrap (1 + ps + pw) = 1 + ps + pw := by rw [IntKind.wrap_i64]; omega
            have hw3 : IntKind.i64.wrap (fr + (1 + ps + pw)) = fr + (1 + ps + pw) := by rw [IntKind.wrap_i64]; omega
            clear hfr2 hp
            go_wp2_with (first
              | (go_at_call 13; refine (HFo.out _ HR.out).mono ?_; rintro e' w5 ⟨rfl, h5⟩; have H5 := Lib.hid h5; have hlk := HLk.out _ H5.out; clear h5)
              | (go_at_call 19; refine (HSh.out _ H5.out).mono ?_; rintro e' w6 ⟨rfl, b6⟩; have H6 := Lib.hid (H5.out.below b6); obtain ⟨w7, hup, h7⟩ := HPut.out _ H6.out; have H7 := Lib.hid h7; clear b6 h7))
            exact ⟨⟨k + 1, V3, mv3, _, by omega, by go_num, by rw [HF3.out], HX3, HM3, H7⟩, by simp [intOf]; omega⟩
          · obtain ⟨x1, x2, x3⟩ := HX.out.again HXT.out ha hm
            have HFo : Hid (∀ u, LwM W H L B s H L V2 (.slice (some ⟨g7, 0, none⟩) T.length c7) T mb k D u → Calls Tryz.prog 13 #[.pointer (some ⟨s, 0, none⟩), .int .i64 a] u fun e w' => e = .returned (.tuple #[.int .i64 (mv a), .int .i64 0]) ∧ LwM W H L B s H L V2 (.slice (some ⟨g7, 0, none⟩) T.length c7) T mb k D w') := Lib.hid (fun u x => x.new (fun G y => by
              have := fFollow_is y a
              rwa [x1, x2, x3] at this))
            have HLk : Hid (∀ u, LwM W H L B s H L V2 (.slice (some ⟨g7, 0, none⟩) T.length c7) T mb k D u → (Instr.lookup 52 (.map (some mb)) (.int .i64 a) true).run Tryz.prog u = .ok (.tuple #[.int .i64 (mv a), .bool true]) u) := Lib.hid (fun u x => by
              have := x.look HMp.out ha (by omega) (by omega)
              rwa [decide_eq_true hm] at this)
            clear x1 x2 x3 hm t1 t2 tz ha
            have HXs := HX
            have HMs := HMp
            generalize mv a = b at *
            generalize hfq : hFr V2 = fr at *
            have HFq := Lib.hid hfq
            clear hfq
            go_wp2_with (go_at_call 13; refine (HFo.out _ HR.out).mono ?_; rintro e' w5 ⟨rfl, h5⟩; have H5 := Lib.hid h5; have hlk := HLk.out _ H5.out; clear h5)
            exact ⟨⟨k + 1, V2, mv, D, by omega, by go_num, by rw [HFq.out], HXs, HMs, Lib.hid (H5.out.mono (Nat.le_succ k))⟩, by simp [intOf]; omega⟩
        · obtain rfl : k = ol.length := by omega
          have hnl2 : ¬ (ol.length : Int) < (ol.length : Int) := by omega
          have HGt : Hid (∀ u, LwM W H L B s H L V2 (.slice (some ⟨g7, 0, none⟩) T.length c7) T mb ol.length D u → Calls Tryz.prog 20 #[.pointer (some ⟨s, 0, none⟩)] u fun e w' => e = .returned (.agg #[.int .i64 (hSp V2), .int .i64 (hFr V2), .int .i64 (hGc V2), .int .i64 (hSc V2)]) ∧ Below u.heap.size u w') := Lib.hid (fun u x => by
            obtain ⟨G, y⟩ := x.st
            exact spget_st y)
          have hfd := run_ctl1
          go_wp2_with (go_at_call 20; refine (HGt.out _ HR.out).mono ?_; rintro e' w5 ⟨rfl, b5⟩; have H5 := Lib.hid (geo_next HR.out.b b5); clear b5)
          go_ret
          exact ⟨rfl, H5.out⟩
theorem Shar_walk (ht : TyOk W.heap.size W) (h l : Int) (q : Option Addr) (x : List Two) (m : Nat) (q2 : Option Addr) (ol : List Int) (m2 : Nat) (hq : LiesAt W q (flat Two.cells x)) (hx : x.length ≤ maxLen) (hq2 : LiesAt W q2 (vals ol)) (ho : ol.length ≤ maxLen) : Calls Tryz.prog 5 #[.agg #[.int .i64 h, .int .i64 l], .slice q x.length m, .slice q2 ol.length m2] W fun e w' => e = .returned (.bool true) ∧ Below W.heap.size W w' := by
  by_cases k : geOk h l = true ∧ h ≤ 100 ∧ x.length ≤ 20 ∧ ol.length ≤ 60
  · obtain ⟨k0, k1, k2, k3⟩ := k
    have hge := geOk_yes k0
    obtain ⟨H, rfl⟩ := Int.eq_ofNat_of_zero_le (show 0 ≤ h by omega)
    obtain ⟨L, rfl⟩ := Int.eq_ofNat_of_zero_le (show 0 ≤ l by omega)
    exact Shar_yes ht H L k0 (by omega) q x m hq k2 q2 ol m2 hq2 k3
  · exact Shar_no ht h l q q2 x.length m ol.length m2 (by unfold maxLen at hx; omega) (by unfold maxLen at ho; omega) k
end
end Go.Proofs.YtooligoacgemlaaGreatDoor
