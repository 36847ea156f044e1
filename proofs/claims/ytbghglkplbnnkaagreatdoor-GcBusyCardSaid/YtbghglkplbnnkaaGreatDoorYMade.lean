import Derived.Deep.RegionHeld3
import Derived.Deep.Cut
import Derived.Deep.CutBlock
import Derived.Deep.DeepCutAuto
import Derived.Test.YtbghglkplbnnkaaGreatDoorYMadeA
set_option linter.unusedVariables false
set_option linter.unusedSimpArgs false
namespace Go.Proofs.YtbghglkplbnnkaaGreatDoor
open Go.RowKit Sec
open Go.Proofs.YtbghglkplbnnkaaGreatDoor.Bk

set_option maxRecDepth 100000 in
set_option maxHeartbeats 2000000 in
theorem named_is (T : List Int) (va : Option Addr) (c : Nat) (n : Int) {w : World} (h : LiesAt w va (vals T)) (hT : T.length ≤ 1000) :
    Calls Tryz.prog 32 #[.slice va T.length c, .int .i64 n] w fun e w' => e = .returned (.int .i64 (namI T n)) ∧ w' = w := by
  by_cases h1 : n < 1
  · rw [show namI T n = 0 from if_pos (.inl h1)]
    clear h
    go_enter Tryz.func32, Tryz.ntmps32
    go_wp2_with fail
    go_ret
    exact ⟨rfl, rfl⟩
  · by_cases h2 : (T.length : Int) < n
    · rw [show namI T n = 0 from if_pos (.inr h2)]
      clear h
      go_enter Tryz.func32, Tryz.ntmps32
      go_wp2_with fail
      go_ret
      exact ⟨rfl, rfl⟩
    · obtain ⟨k, hk⟩ := Int.eq_ofNat_of_zero_le (show 0 ≤ n - 1 by omega)
      rw [show namI T n = T.getD k 0 by rw [namI, if_neg (fun q => q.elim h1 h2), hk, Int.toNat_natCast]]
      have hlt : k < T.length := by omega
      obtain ⟨g2, og, rfl, hg2, e2⟩ := num_lies h hlt
      have hki : (k : Int) < (T.length : Int) := by omega
      have hw : IntKind.i64.wrap (k : Int) = (k : Int) := w64_nd (by omega) (by omega)
      generalize T.getD k 0 = x at *
      clear h
      go_enter Tryz.func32, Tryz.ntmps32
      go_wp2_with fail
      go_ret
      exact ⟨rfl, rfl⟩
theorem made_boxes (w : World) (h l : Int) (v0 v1 : Value) : Below w.heap.size w (((w.alloc (.cells #[.int .i64 h, .int .i64 l] 23)).alloc (.cells #[v0, v1] 27)).alloc (.cells #[.slice none 0 0, .slice none 0 0] 27)) ∧
    (((w.alloc (.cells #[.int .i64 h, .int .i64 l] 23)).alloc (.cells #[v0, v1] 27)).alloc (.cells #[.slice none 0 0, .slice none 0 0] 27)).cell? ⟨w.heap.size + 1, 0, none⟩ = some v0 ∧
    (((w.alloc (.cells #[.int .i64 h, .int .i64 l] 23)).alloc (.cells #[v0, v1] 27)).alloc (.cells #[.slice none 0 0, .slice none 0 0] 27)).cell? ⟨w.heap.size + 1, 1, none⟩ = some v1 ∧
    Two2 (((w.alloc (.cells #[.int .i64 h, .int .i64 l] 23)).alloc (.cells #[v0, v1] 27)).alloc (.cells #[.slice none 0 0, .slice none 0 0] 27)) (w.heap.size + 1 + 1) (.slice none 0 0) (.slice none 0 0) ∧
    (((w.alloc (.cells #[.int .i64 h, .int .i64 l] 23)).alloc (.cells #[v0, v1] 27)).alloc (.cells #[.slice none 0 0, .slice none 0 0] 27)).heap.size = w.heap.size + 1 + 1 + 1 := by
  have t1 := Two2.made w (.int .i64 h) (.int .i64 l) 23
  have s1 : (w.alloc (.cells #[.int .i64 h, .int .i64 l] 23)).heap.size = w.heap.size + 1 := by simp
  have b1 : Below w.heap.size w (w.alloc (.cells #[.int .i64 h, .int .i64 l] 23)) := (Below.refl _ _).alloc (Nat.le_refl _) _
  generalize w.alloc (.cells #[.int .i64 h, .int .i64 l] 23) = u1 at *
  have t2 := Two2.made u1 v0 v1 27
  have s2 : (u1.alloc (.cells #[v0, v1] 27)).heap.size = w.heap.size + 1 + 1 := by simp [s1]
  have b2 : Below u1.heap.size u1 (u1.alloc (.cells #[v0, v1] 27)) := (Below.refl _ _).alloc (Nat.le_refl _) _
  rw [s1] at t2
  generalize u1.alloc (.cells #[v0, v1] 27) = u2 at *
  have t3 := Two2.made u2 (.slice none 0 0) (.slice none 0 0) 27
  have s3 : (u2.alloc (.cells #[.slice none 0 0, .slice none 0 0] 27)).heap.size = w.heap.size + 1 + 1 + 1 := by simp [s2]
  have b3 : Below u2.heap.size u2 (u2.alloc (.cells #[.slice none 0 0, .slice none 0 0] 27)) := (Below.refl _ _).alloc (Nat.le_refl _) _
  rw [s2] at t3
  generalize u2.alloc (.cells #[.slice none 0 0, .slice none 0 0] 27) = u3 at *
  have t2' := t2.below b3
  exact ⟨geo_next (geo_next b1 b2) b3, t2'.c0, t2'.c1, t3, s3⟩
theorem made_results {fn : Func} {t v : Tmp} {T : TypeId} (h : fn.results = #[.tmp v, .cell t T]) {tmps : Array Value} {P : Program} {w : World} {a : Addr} {x y : Value} (hu : tmps.getD v undef = y) (ht : tmps.getD t undef = .pointer (some a)) (hl : (loadVar T a).run P w = .ok x w) :
    (results fn tmps).run P w = .ok (.tuple #[y, x]) w := by
  have ht' : tmps[t]?.getD undef = .pointer (some a) := by simpa using ht
  have hu' : tmps[v]?.getD undef = y := by simpa using hu
  simp [results, h, ht', hu', hl, asAddr]
section
variable {w : World}
set_option maxRecDepth 100000 in
set_option maxHeartbeats 8000000 in
theorem made_is60 (ht : TyOk w.heap.size w) (H L : Nat) (hg : geOk H L = true) (G : GArg) (hG : G.At w) :
    Calls Tryz.prog 10 #[.agg #[.int .i64 (H : Int), .int .i64 (L : Int)], G.val] w fun e w' => ∃ s B V T Gw, e = .returned (.tuple #[.pointer (some ⟨s, 0, none⟩), Gw.val]) ∧ LgS w B s H L V Gw w' ∧ Fin H L V T Z0 ∧ gr H L V = some (Gw.r.l, Gw.n.map NArg.data) ∧ T.length ≤ 60 := by
  have hge := geOk_yes hg
  have HA := Lib.hid hG
  obtain ⟨ar, aa, an, ac⟩ := G
  have HM := Lib.hid (made_boxes w H L ar.val (.slice aa an.length ac))
  have HBg : Hid (∀ u, TyOk u.heap.size u → Calls Tryz.prog 31 #[.agg #[.int .i64 (H : Int), .int .i64 (L : Int)]] u fun r w' => ∃ s p, r = .returned (.tuple #[.pointer (some ⟨p, 0, none⟩), .pointer (some ⟨s, 0, none⟩)]) ∧ St u.heap.size (fun b => b < u.heap.size) w' s H L (freshC H) ∧ Below u.heap.size u w') := Lib.hid (fun u x => Begin_st x H L (by omega))
  have HT := Lib.hid ((ht.below HM.out.1).more HM.out.1.size)
  have hrl : ar.l.length ≤ maxLen := hG.1.2.2
  have hnl : an.length ≤ maxLen := hG.2.2.2
  unfold maxLen at hrl hnl
  have HQ : ∃ Q : Ending → World → Prop, Q = fun e w' => ∃ s B V T Gw, e = .returned (.tuple #[.pointer (some ⟨s, 0, none⟩), Gw.val]) ∧ LgS w B s H L V Gw w' ∧ Fin H L V T Z0 ∧ gr H L V = some (Gw.r.l, Gw.n.map NArg.data) ∧ T.length ≤ 60 := ⟨_, rfl⟩
  obtain ⟨Q, hQ⟩ := HQ
  rw [← hQ]
  have HQ := Lib.hid hQ
  have HTy := Lib.hid ht
  clear ht hG hg hge hQ
  unfold GArg.val
  go_enter Tryz.func10, Tryz.ntmps10
  go_upto_block 0 with (first
    | (go_at_call 31; refine (HBg.out _ HT.out).mono ?_; rintro e' w1 ⟨s, p, rfl, h1, b1⟩; have HS := Lib.hid (MdS.start (G := ⟨ar, aa, an, ac⟩) HM.out.1 h1 b1 HM.out.2.1 HM.out.2.2.1 HM.out.2.2.2.1); clear h1 b1))
  clear HBg HT HM
  generalize (((w.alloc (.cells #[.int .i64 (H : Int), .int .i64 (L : Int)] 23)).alloc (.cells #[ar.val, .slice aa an.length ac] 27)).alloc (.cells #[.slice none 0 0, .slice none 0 0] 27)).heap.size = B at *
  generalize hgb : w.heap.size + 1 = gb at *
  have hgw : w.heap.size ≤ gb + 1 := by omega
  clear hgb

  go_cut [8, 9, 10, 11, 12] from 27 to 86 (fun s8 _ _ _ _ wx => ∃ (va : Option Addr) (T : List Int) (vc : Nat), T.length ≤ 60 ∧ T.length ≤ an.length ∧ s8 = .slice va T.length vc ∧ Hid (MdS w ⟨ar, aa, an, ac⟩ gb B s H L (.slice va T.length vc) T T wx))
  case first =>
    clear HQ
    go_wp2_with fail
    go_loopw [8, 9] (fun s8 i wr => ∃ (k : Nat) (va : Option Addr) (T : List Int) (vc : Nat), k ≤ 60 ∧ k ≤ an.length ∧ T.length = k ∧ i = .int .i64 (k : Int) ∧ s8 = .slice va k vc ∧ Hid (MdS w ⟨ar, aa, an, ac⟩ gb B s H L (.slice va k vc) T T wr)) (fun _ i _ => 60 - (intOf i).toNat)
    case atStart => exact ⟨0, none, [], 0, by omega, Nat.zero_le _, rfl, rfl, rfl, HS⟩
    case round =>
      clear HS
      obtain ⟨k, va, T, vc, hk60, hkn, hT, rfl, rfl, HS⟩ := hrel
      obtain ⟨bx0, bx1⟩ := HS.out.box
      dsimp only at bx0 bx1
      have hki : (k : Int) ≤ 60 := by omega
      by_cases hlt : k < an.length
      · have hlti : (k : Int) < (an.length : Int) := by omega
        by_cases h60 : k < 60
        · have h60i : (k : Int) < 60 := by omega
          obtain ⟨g1, o1, rfl, hg1, e1⟩ := HA.out.2.1.elem NArg.len (by omega) (List.getElem?_eq_getElem hlt)
          have e1_0 := e1 0 _ rfl
          have e1_1 := e1 1 _ rfl
          rw [Nat.add_zero] at e1_0
          unfold IArg.val at e1_0 e1_1
          have HX := Lib.hid (HA.out.2.2.1 an[k] (List.getElem_mem hlt))
          clear e1 HA
          generalize an[k] = x at *
          obtain ⟨⟨sa, sl, sc⟩, ⟨xa, xl, xc⟩⟩ := x
          dsimp only at *
          have hsm : sl.length ≤ maxLen := HX.out.1.2.2
          have hxm : xl.length ≤ maxLen := HX.out.2.2.2
          unfold maxLen at hsm hxm
          have HD : Hid (∀ u, (∃ v Tl T', MdS w ⟨ar, some ⟨g1, o1, none⟩, an, ac⟩ gb B s H L v Tl T' u) → (u.cell? ⟨gb, 1, none⟩ = some (.slice (some ⟨g1, o1, none⟩) an.length ac)) ∧ u.cell? ⟨g1, o1 + k * 2, none⟩ = some (.slice sa sl.length sc) ∧ u.cell? ⟨g1, o1 + k * 2 + 1, none⟩ = some (.slice xa xl.length xc)) := Lib.hid (fun u ⟨v, Tl, T', y⟩ => ⟨y.box.2, (y.bel.cell (p := ⟨g1, o1 + k * 2, none⟩) hg1).trans e1_0, (y.bel.cell (p := ⟨g1, o1 + k * 2 + 1, none⟩) hg1).trans e1_1⟩)
          clear e1_0 e1_1
          rcases HS.out.new sl.length xl.length with ⟨z, hN⟩ | ⟨z, E, hE, hN⟩
          · have HN := Lib.hid hN
            clear hN
            obtain ⟨_, d0, d1⟩ := HD.out _ ⟨_, _, _, HS.out⟩
            go_upto_region 8 with fail
            go_cut [10, 11] from 27 to 86 (fun s10 s11 wx => s10 = .int .i64 z ∧ s11 = .int .i64 0 ∧ Hid (MdS w ⟨ar, some ⟨g1, o1, none⟩, an, ac⟩ gb B s H L (.slice va k vc) T (T ++ [z]) wx))
            case first =>
              go_region_held3 (fun u => u.cell? ⟨gb, 1, none⟩ = some (.slice (some ⟨g1, o1, none⟩) an.length ac) ∧ u.cell? ⟨g1, o1 + k * 2, none⟩ = some (.slice sa sl.length sc) ∧ u.cell? ⟨g1, o1 + k * 2 + 1, none⟩ = some (.slice xa xl.length xc)) (first
                | exact HD.out _ ⟨_, _, _, HS.out⟩
                | exact HD.out _ ⟨_, _, _, HS.out.below (Below.refl _ _).drew⟩
                | exact HD.out _ ⟨_, _, _, H2.out⟩) (first
                | (go_at_call 24
                   refine (HN.out _ (by first | exact Below.refl _ _ | exact (Below.refl _ _).drew)).mono ?_
                   rintro e' w5 ⟨rfl, h5⟩
                   have H2 := Lib.hid h5
                   clear h5))
              all_goals
                go_wp2_with fail
                go_meet
                exact ⟨rfl, rfl, H2⟩
            case rest =>
              obtain ⟨rfl, rfl, H2⟩ := hcut
              clear HN HS bx0 bx1 d0 d1
              obtain ⟨i0, hi, hz0, hz1, hz2⟩ := info_parts (show (Tryz.prog.info? 3).map (fun i => (i.zero, i.size, i.bytes)) = some (some (.int .i64 0), 1, 8) by kernel_rfl)
              have HI := Lib.hid (And.intro hi (And.intro hz0 (And.intro hz1 hz2)))
              clear hi hz0 hz1 hz2
              have hBs : B ≤ wc.heap.size := H2.out.le
              have HTl := Lib.hid hT
              have hA1 : k + 1 ≤ maxLen := by unfold maxLen; omega
              have hA2 : (k + 1) * 8 ≤ 140737488355328 := by omega
              have HO : Hid (wc.ownsRow B 3 1 (.slice va k vc) k (vals T)) := Lib.hid (by
                have := H2.out.o
                rwa [hT] at this)
              clear hT
              go_upto_block 2 with (first
                | (refine wpList_append_lies _ rfl (.tmp 59) (.tmp 61) 24 rfl B 3 i0 _ 1 8 Tryz.underlying24 HI.out.1 HI.out.2.1 HI.out.2.2.1 HI.out.2.2.2 rfl (by omega) (.slice va k vc) k (vals T) rfl (HO.out.alloc _) _ 1 1 [.int .i64 z] rfl rfl (by exact World.news_of_block (heap_alloc_last _ _)) (by intro u hu; simp at hu; rw [hu]; rfl) (by decide) hA1 hA2 (Nat.le_trans hBs (by rw [size_alloc]; exact Nat.le_succ _)) _ rfl ?_
                   intro g5 cap w5 hown5 hgr5 hat5 hlt5
                   have H3 := Lib.hid (H2.out.push ((Below.refl wc.heap.size wc).alloc (Nat.le_refl _) _) (by rw [HTl.out]) hown5 hgr5 hat5 hlt5)
                   clear hown5 hgr5 hat5 hlt5))
              clear H2 HO hBs hA1 hA2 HI
              go_wp2_with fail
              go_loopw [12] (fun i wr => ∃ j : Nat, j ≤ xl.length ∧ i = .int .i64 (j : Int) ∧ Hid (MdS w ⟨ar, some ⟨g1, o1, none⟩, an, ac⟩ gb B s H L (.slice (some ⟨g5, 0, none⟩) (k + 1) cap) (T ++ [z]) (T ++ [z]) wr)) (fun i _ => xl.length - (intOf i).toNat)
              case atStart => exact ⟨0, Nat.zero_le _, rfl, H3⟩
              case round =>
                clear H3
                obtain ⟨j, hj, rfl, H3⟩ := hrel
                obtain ⟨c1, _, d1⟩ := HD.out _ ⟨_, _, _, H3.out⟩
                by_cases hjl : j < xl.length
                · have hji : (j : Int) < (xl.length : Int) := by omega
                  obtain ⟨g2, o2, rfl, hg2, e2⟩ := num_lies (HX.out.2.1.below H3.out.bel) hjl
                  have HW := Lib.hid (H3.out.word (t := z) (List.mem_append.2 (.inr (List.mem_singleton.2 rfl))) (j : Int) (xl.getD j 0))
                  generalize xl.getD j 0 = y at *
                  go_wp2_with (go_at_call 26; refine HW.out.mono ?_; rintro e' w6 ⟨⟨E, rfl⟩, h6⟩; have H4 := Lib.hid h6; clear h6)
                  exact ⟨⟨j + 1, by omega, by go_num, H4⟩, by simp [intOf]; omega⟩
                · obtain rfl : j = xl.length := by omega
                  have hnlt : ¬ (xl.length : Int) < (xl.length : Int) := by omega
                  go_wp2_with fail
                  exact ⟨⟨k + 1, _, T ++ [z], cap, by omega, by omega, by rw [List.length_append, HTl.out]; rfl, by go_num, rfl, H3⟩, by simp [intOf]; omega⟩
          · have HN := Lib.hid hN
            clear hN
            obtain ⟨_, d0, d1⟩ := HD.out _ ⟨_, _, _, HS.out⟩
            have hEi : ¬ E = 0 := hE
            go_upto_region 8 with fail
            go_cut [10, 11] from 27 to 86 (fun s10 s11 wx => s10 = .int .i64 z ∧ s11 = .int .i64 E ∧ Hid (MdS w ⟨ar, some ⟨g1, o1, none⟩, an, ac⟩ gb B s H L (.slice va k vc) T T wx))
            case first =>
              go_region_held3 (fun u => u.cell? ⟨gb, 1, none⟩ = some (.slice (some ⟨g1, o1, none⟩) an.length ac) ∧ u.cell? ⟨g1, o1 + k * 2, none⟩ = some (.slice sa sl.length sc) ∧ u.cell? ⟨g1, o1 + k * 2 + 1, none⟩ = some (.slice xa xl.length xc)) (first
                | exact HD.out _ ⟨_, _, _, HS.out⟩
                | exact HD.out _ ⟨_, _, _, HS.out.below (Below.refl _ _).drew⟩
                | exact HD.out _ ⟨_, _, _, H2.out⟩) (first
                | (go_at_call 24
                   refine (HN.out _ (by first | exact Below.refl _ _ | exact (Below.refl _ _).drew)).mono ?_
                   rintro e' w5 ⟨rfl, h5⟩
                   have H2 := Lib.hid h5
                   clear h5))
              all_goals
                go_wp2_with fail
                go_meet
                exact ⟨rfl, rfl, H2⟩
            case rest =>
              obtain ⟨rfl, rfl, H2⟩ := hcut
              clear HN HS bx0 bx1 d0 d1
              go_wp2_with fail
              go_meet
              exact ⟨va, T, vc, by omega, by omega, by rw [hT], by rw [hT]; exact H2⟩
        · obtain rfl : k = 60 := by omega
          go_wp2_with fail
          go_meet
          exact ⟨va, T, vc, by omega, by omega, by rw [hT], by rw [hT]; exact HS⟩
      · obtain rfl : k = an.length := by omega
        have hnlt : ¬ (an.length : Int) < (an.length : Int) := by omega
        go_wp2_with fail
        go_meet
        exact ⟨va, T, vc, by omega, by omega, by rw [hT], by rw [hT]; exact HS⟩
  case rest =>
    clear HS
    obtain ⟨va, T, vc, hT60, hTn, rfl, HS⟩ := hcut
    go_upto_block 4 with fail
    go_wp2_with fail
    go_loopw [13] (fun i wr => ∃ k : Nat, k ≤ T.length ∧ i = .int .i64 (k : Int) ∧ Hid (MdS w ⟨ar, aa, an, ac⟩ gb B s H L (.slice va T.length vc) T T wr)) (fun i _ => 60 - (intOf i).toNat)
    case atStart => exact ⟨0, Nat.zero_le _, rfl, HS⟩
    case round =>
      clear HS
      obtain ⟨k, hk, rfl, HS⟩ := hrel
      by_cases hltT : k < T.length
      · have hlt : k < an.length := by omega
        have hlti : (k : Int) < (T.length : Int) := by omega
        have hlta : (k : Int) < (an.length : Int) := by omega
        obtain ⟨g1, o1, rfl, hg1, e1⟩ := HA.out.2.1.elem NArg.len (by omega) (List.getElem?_eq_getElem hlt)
        have e1_0 := e1 0 _ rfl
        have e1_1 := e1 1 _ rfl
        rw [Nat.add_zero] at e1_0
        unfold IArg.val at e1_0 e1_1
        have HX := Lib.hid (HA.out.2.2.1 an[k] (List.getElem_mem hlt))
        clear e1 HA
        generalize an[k] = x at *
        obtain ⟨⟨sa, sl, sc⟩, ⟨xa, xl, xc⟩⟩ := x
        dsimp only at *
        have hsm : sl.length ≤ maxLen := HX.out.1.2.2
        unfold maxLen at hsm
        have HD : Hid (∀ u v Tl T', MdS w ⟨ar, some ⟨g1, o1, none⟩, an, ac⟩ gb B s H L v Tl T' u → u.cell? ⟨gb, 1, none⟩ = some (.slice (some ⟨g1, o1, none⟩) an.length ac) ∧ u.cell? ⟨g1, o1 + k * 2, none⟩ = some (.slice sa sl.length sc)) := Lib.hid (fun u v Tl T' y => ⟨y.box.2, (y.bel.cell (p := ⟨g1, o1 + k * 2, none⟩) hg1).trans e1_0⟩)
        clear e1_0 e1_1
        go_upto_block 6 with fail
        go_wp2_with fail
        go_loopw [14] (fun i wr => ∃ j : Nat, j ≤ sl.length ∧ i = .int .i64 (j : Int) ∧ Hid (MdS w ⟨ar, some ⟨g1, o1, none⟩, an, ac⟩ gb B s H L (.slice va T.length vc) T T wr)) (fun i _ => sl.length - (intOf i).toNat)
        case atStart => exact ⟨0, Nat.zero_le _, rfl, HS⟩
        case round =>
          clear HS
          obtain ⟨j, hj, rfl, HS⟩ := hrel
          obtain ⟨c1, d0⟩ := HD.out _ _ _ _ HS.out
          by_cases hjl : j < sl.length
          · have hji : (j : Int) < (sl.length : Int) := by omega
            obtain ⟨g2, o2, rfl, hg2, e2⟩ := num_lies HX.out.1.1 hjl
            obtain ⟨a3, c3, e3, l3⟩ := HS.out.lies
            obtain ⟨g3, o3, rfl, hg3, e4⟩ := num_lies l3 hltT
            obtain ⟨rfl, rfl⟩ : va = some ⟨g3, o3, none⟩ ∧ vc = c3 := by simpa using e3
            have HE4 : Hid (∀ u, MdS w ⟨ar, some ⟨g1, o1, none⟩, an, ac⟩ gb B s H L (.slice (some ⟨g3, o3, none⟩) T.length vc) T T u → u.cell? ⟨g3, o3 + k, none⟩ = some (.int .i64 (T.getD k 0))) := Lib.hid (fun u z => by
              obtain ⟨a', c', e', l'⟩ := z.lies
              obtain ⟨g', o', q', _, q⟩ := num_lies l' hltT
              subst q'
              obtain ⟨⟨rfl, rfl⟩, _⟩ : (g3 = g' ∧ o3 = o') ∧ vc = c' := by simpa using e'
              exact q)
            have HNm : Hid (∀ u, Below wr.heap.size wr u → Calls Tryz.prog 32 #[.slice (some ⟨g3, o3, none⟩) T.length vc, .int .i64 (sl.getD j 0)] u fun e w' => e = .returned (.int .i64 (namI T (sl.getD j 0))) ∧ w' = u) := Lib.hid (fun u y => named_is T _ vc _ (l3.below y) (by omega))
            have HPt : Hid (∀ u, Below wr.heap.size wr u → Calls Tryz.prog 25 #[.pointer (some ⟨s, 0, none⟩), .int .i64 (T.getD k 0), .int .i64 (j : Int), .int .i64 (namI T (sl.getD j 0))] u fun e w' => (∃ E, e = .returned (.int .i64 E)) ∧ MdS w ⟨ar, some ⟨g1, o1, none⟩, an, ac⟩ gb B s H L (.slice (some ⟨g3, o3, none⟩) T.length vc) T T w') := Lib.hid (fun u y => (HS.out.below y).slot (by rw [List.getD_eq_getElem?_getD, List.getElem?_eq_getElem hltT]; exact List.getElem_mem _) (namI_in _ _) _)
            clear l3 e3
            generalize namI T (sl.getD j 0) = nm at *
            generalize sl.getD j 0 = y at *
            generalize T.getD k 0 = tk at *
            have HD5 := Lib.hid (fun u (z : MdS w ⟨ar, some ⟨g1, o1, none⟩, an, ac⟩ gb B s H L (.slice (some ⟨g3, o3, none⟩) T.length vc) T T u) => (show u.cell? ⟨gb, 1, none⟩ = some (.slice (some ⟨g1, o1, none⟩) an.length ac) ∧ u.cell? ⟨g1, o1 + k * 2, none⟩ = some (.slice (some ⟨g2, o2, none⟩) sl.length sc) ∧ u.cell? ⟨g2, o2 + j, none⟩ = some (.int .i64 y) ∧ u.cell? ⟨g3, o3 + k, none⟩ = some (.int .i64 tk) from ⟨(HD.out _ _ _ _ z).1, (HD.out _ _ _ _ z).2, (z.bel.cell (p := ⟨g2, o2 + j, none⟩) hg2).trans e2, HE4.out u z⟩))
            go_upto_block 7 with fail
            go_cut [] from 93 to 121 (fun wx => Hid (MdS w ⟨ar, some ⟨g1, o1, none⟩, an, ac⟩ gb B s H L (.slice (some ⟨g3, o3, none⟩) T.length vc) T T wx))
            case first =>
              clear e2 e4
              go_wp2_with fail
              go_region_held3 (fun u => u.cell? ⟨gb, 1, none⟩ = some (.slice (some ⟨g1, o1, none⟩) an.length ac) ∧ u.cell? ⟨g1, o1 + k * 2, none⟩ = some (.slice (some ⟨g2, o2, none⟩) sl.length sc) ∧ u.cell? ⟨g2, o2 + j, none⟩ = some (.int .i64 y) ∧ u.cell? ⟨g3, o3 + k, none⟩ = some (.int .i64 tk)) (first
                | exact HD5.out _ HS.out
                | exact HD5.out _ (HS.out.below (Below.refl _ _).drew)
                | exact HD5.out _ H5.out) (first
                | (go_at_call 32
                   refine (HNm.out _ (by first | exact Below.refl _ _ | exact (Below.refl _ _).drew)).mono ?_
                   rintro e' w5 ⟨rfl, hw⟩
                   first
                     | (obtain rfl : wr = w5 := hw.symm)
                     | subst hw)
                | (go_at_call 25
                   refine (HPt.out _ (by first | exact Below.refl _ _ | exact (Below.refl _ _).drew)).mono ?_
                   rintro e' w6 ⟨⟨E, rfl⟩, h6⟩
                   have H5 := Lib.hid h6
                   clear h6))
              all_goals
                go_wp2_with fail
                go_meet
                exact H5
            case rest =>
              clear HS HNm HPt HD5 HE4 c1 d0 e2 e4
              go_wp2_with fail
              exact ⟨⟨j + 1, by omega, by go_num, hcut⟩, by simp [intOf]; omega⟩
          · obtain rfl : j = sl.length := by omega
            have hnlt : ¬ (sl.length : Int) < (sl.length : Int) := by omega
            go_wp2_with fail
            exact ⟨⟨k + 1, by omega, by go_num, HS⟩, by simp [intOf]; omega⟩
      · obtain rfl : k = T.length := by omega
        have hnlt : ¬ (T.length : Int) < (T.length : Int) := by omega
        go_upto_block 8 with fail
        go_wp2_with fail
        obtain ⟨ara, arl, arc⟩ := ar
        dsimp only [IArg.val] at *
        generalize wr = wo at *
        go_loopw [15] (fun i wr => ∃ k : Nat, k ≤ 8 ∧ k ≤ arl.length ∧ i = .int .i64 (k : Int) ∧ Hid (MdS w ⟨⟨ara, arl, arc⟩, aa, an, ac⟩ gb B s H L (.slice va T.length vc) T T wr)) (fun i _ => 8 - (intOf i).toNat)
        case atStart => exact ⟨0, by omega, Nat.zero_le _, rfl, HS⟩
        case round =>
          clear HS
          obtain ⟨k, hk8, hkl, rfl, HS⟩ := hrel
          have bx := HS.out.box
          unfold IArg.val at bx
          dsimp only at bx
          obtain ⟨bx0, bx1⟩ := bx
          have hki : (k : Int) ≤ 8 := by omega
          by_cases hlt : k < arl.length
          · have hlti : (k : Int) < (arl.length : Int) := by omega
            by_cases h8 : k < 8
            · have h8i : (k : Int) < 8 := by omega
              obtain ⟨g2, o2, e9, hg2, e2⟩ := num_lies (HA.out.1.1.below HS.out.bel) hlt
              obtain rfl : ara = some ⟨g2, o2, none⟩ := e9
              dsimp only at e2
              obtain ⟨a3, c3, e3, l3⟩ := HS.out.lies
              have HNm : Hid (Calls Tryz.prog 32 #[.slice va T.length vc, .int .i64 (arl.getD k 0)] wr fun e w' => e = .returned (.int .i64 (namI T (arl.getD k 0))) ∧ w' = wr) := Lib.hid (by
                obtain ⟨rfl, rfl⟩ : va = a3 ∧ vc = c3 := by simpa using e3
                exact named_is T _ vc _ l3 (by omega))
              have HPt : Hid (Calls Tryz.prog 27 #[.pointer (some ⟨s, 0, none⟩), .int .i64 (k : Int), .int .i64 (namI T (arl.getD k 0))] wr fun e w' => (∃ E, e = .returned (.int .i64 E)) ∧ MdS w ⟨⟨some ⟨g2, o2, none⟩, arl, arc⟩, aa, an, ac⟩ gb B s H L (.slice va T.length vc) T T w') := Lib.hid (HS.out.root (namI_in _ _) _)
              clear l3 e3
              generalize namI T (arl.getD k 0) = nm at *
              generalize arl.getD k 0 = y at *
              go_wp2_with (first
                | (go_at_call 32; refine HNm.out.mono ?_; rintro e' w5 ⟨rfl, hw⟩; obtain rfl : wr = w5 := hw.symm)
                | (go_at_call 27; refine HPt.out.mono ?_; rintro e' w6 ⟨⟨E, rfl⟩, h6⟩; have H5 := Lib.hid h6; clear h6))
              exact ⟨⟨k + 1, by omega, by omega, by go_num, H5⟩, by simp [intOf]; omega⟩
            · obtain rfl : k = 8 := by omega
              obtain ⟨V, K, f, hst, hend⟩ := HS.out.told HTy.out hgw
              have HH := Lib.hid (heap_reads hst f.gi)
              have HEn := Lib.hid (And.intro f @hend)
              have HR2 := Lib.hid HS.out.res
              clear hst hend f HS HA
              unfold GArg.val IArg.val at HH
              go_wp2_with (first
                | (go_at_call 14; refine HH.out.mono ?_; rintro e' w6 ⟨b, x, c, rfl, b6, _, hR, hF⟩; have H6 := Lib.hid b6; have HRo := Lib.hid hR; have HFr := Lib.hid hF; clear b6 hR hF)
                | (go_at_call 16; refine (HRo.out _ (Below.refl _ _)).mono ?_; rintro e' w7 ⟨rfl, hw⟩; obtain rfl : w6 = w7 := hw.symm)
                | (go_at_call 15; refine (HFr.out _ (Below.refl _ _)).mono ?_; rintro e' w8 ⟨Gw, rfl, h8, r8, b8⟩; have H8 := Lib.hid (And.intro h8 (And.intro r8 (geo_next H6.out b8))); have HR3 := Lib.hid (HR2.out.below (geo_next H6.out b8)); clear h8 r8 b8; obtain ⟨_, r0, r1, s0, s1⟩ := HR3.out.below ((Below.refl w8.heap.size w8).alloc (Nat.le_refl _) (.cells #[.slice Gw.r.a Gw.r.l.length Gw.r.c, .slice Gw.a Gw.n.length Gw.c] 27))))
              go_region
              go_wp2_with fail
              refine bodyPost_ret (made_results rfl rfl rfl (((HR3.out.below ((Below.refl w8.heap.size w8).alloc (Nat.le_refl _) _)).set2 _ _).below (Below.refl _ _).drew).load) rfl ?_
              rw [HQ.out]
              exact ⟨s, w.heap.size, V, T, Gw, rfl, (HEn.out.2 H8.out.2.2 H8.out.1.1 (H8.out.1.2.mono (fun k q => ⟨Nat.le_trans H6.out.size q.1, q.2⟩)) _ _ _ _ _).below (Below.refl _ _).drew, HEn.out.1, H8.out.2.1, hT60⟩
          · obtain rfl : k = arl.length := by omega
            have hnlt2 : ¬ (arl.length : Int) < (arl.length : Int) := by omega
            obtain ⟨V, K, f, hst, hend⟩ := HS.out.told HTy.out hgw
            have HH := Lib.hid (heap_reads hst f.gi)
            have HEn := Lib.hid (And.intro f @hend)
            have HR2 := Lib.hid HS.out.res
            clear hst hend f HS HA
            unfold GArg.val IArg.val at HH
            go_wp2_with (first
              | (go_at_call 14; refine HH.out.mono ?_; rintro e' w6 ⟨b, x, c, rfl, b6, _, hR, hF⟩; have H6 := Lib.hid b6; have HRo := Lib.hid hR; have HFr := Lib.hid hF; clear b6 hR hF)
              | (go_at_call 16; refine (HRo.out _ (Below.refl _ _)).mono ?_; rintro e' w7 ⟨rfl, hw⟩; obtain rfl : w6 = w7 := hw.symm)
              | (go_at_call 15; refine (HFr.out _ (Below.refl _ _)).mono ?_; rintro e' w8 ⟨Gw, rfl, h8, r8, b8⟩; have H8 := Lib.hid (And.intro h8 (And.intro r8 (geo_next H6.out b8))); have HR3 := Lib.hid (HR2.out.below (geo_next H6.out b8)); clear h8 r8 b8; obtain ⟨_, r0, r1, s0, s1⟩ := HR3.out.below ((Below.refl w8.heap.size w8).alloc (Nat.le_refl _) (.cells #[.slice Gw.r.a Gw.r.l.length Gw.r.c, .slice Gw.a Gw.n.length Gw.c] 27))))
            go_region
            go_wp2_with fail
            refine bodyPost_ret (made_results rfl rfl rfl (((HR3.out.below ((Below.refl w8.heap.size w8).alloc (Nat.le_refl _) _)).set2 _ _).below (Below.refl _ _).drew).load) rfl ?_
            rw [HQ.out]
            exact ⟨s, w.heap.size, V, T, Gw, rfl, (HEn.out.2 H8.out.2.2 H8.out.1.1 (H8.out.1.2.mono (fun k q => ⟨Nat.le_trans H6.out.size q.1, q.2⟩)) _ _ _ _ _).below (Below.refl _ _).drew, HEn.out.1, H8.out.2.1, hT60⟩
theorem made_is (ht : TyOk w.heap.size w) (H L : Nat) (hg : geOk H L = true) (G : GArg) (hG : G.At w) :
    Calls Tryz.prog 10 #[.agg #[.int .i64 (H : Int), .int .i64 (L : Int)], G.val] w fun e w' => ∃ s B V T Gw, e = .returned (.tuple #[.pointer (some ⟨s, 0, none⟩), Gw.val]) ∧ LgS w B s H L V Gw w' ∧ Fin H L V T Z0 ∧ gr H L V = some (Gw.r.l, Gw.n.map NArg.data) :=
  (made_is60 ht H L hg G hG).mono fun _ _ ⟨s, B, V, T, Gw, h1, h2, h3, h4, _⟩ => ⟨s, B, V, T, Gw, h1, h2, h3, h4⟩
end
end Go.Proofs.YtbghglkplbnnkaaGreatDoor
