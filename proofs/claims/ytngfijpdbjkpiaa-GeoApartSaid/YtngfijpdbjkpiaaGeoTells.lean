/- GeoTells: of every geometry where each thing lies. -/
import Derived.Test.YtngfijpdbjkpiaaGeoAlive
import Derived.Test.YtngfijpdbjkpiaaGeoRef
import Derived.Deep.DeepCutAuto
namespace Go.Proofs.Ytngfijpdbjkpiaa
open Go.RowKit

theorem geo_v {a b : Int} (h : a = b) : Value.int .i64 a = .int .i64 b := by rw [h]
theorem geo_t {a b : Bool} (h : a = b) : Value.bool a = .bool b := by rw [h]
theorem gPages_no {h l : Int} (q : gOk h l = false) : gPages h l = 0 := by rw [gPages, gCells_no q]; decide
theorem gPage_no {h l no slot : Int} (q : ¬ (0 ≤ no ∧ no < gPages h l ∧ 0 ≤ slot ∧ slot < 2)) : gPage h l no slot = 0 := if_neg q
theorem gHalf_no {h l sp : Int} (q : gOk h l = false) : gHalf h l sp = false := by rw [gHalf, q]; rfl
theorem gBase_no {h l sp : Int} (q : gHalf h l sp = false) : gBase h l sp = 0 := if_neg (by rw [q]; decide)
theorem gEnd_no {h l sp : Int} (q : gHalf h l sp = false) : gEnd h l sp = 0 := if_neg (by rw [q]; decide)
theorem gIn_no {h l sp c : Int} (q : gHalf h l sp = false) : gIn h l sp c = false := by
  rw [gIn, gBase_no q, gEnd_no q]
  exact decide_eq_false (by omega)

set_option maxRecDepth 100000 in
set_option maxHeartbeats 2000000 in
theorem Tells_no (h l no slot sp c : Int) (q : gOk h l = false) (w : World) : Calls Try.prog 3 #[.agg #[.int .i64 h, .int .i64 l], .int .i64 no, .int .i64 slot, .int .i64 sp, .int .i64 c] w fun e w' => e = .returned (.bool true) ∧ Below w.heap.size w w' := by
  have HA := Lib.hid galive_is
  have HG := Lib.hid (fun u => rgeo_is h l u)
  have H1 := Lib.hid (fun u => gright_is h l u)
  have H2 := Lib.hid (fun u => gcells_is h l u)
  have H3 := Lib.hid (fun u => gpages_is h l u)
  have H4 := Lib.hid (fun u => gpage_is h l 0 0 u)
  have H5 := Lib.hid (fun u => glog_is h l u)
  have H6 := Lib.hid (fun u => gsectors_is h l u)
  have H7 := Lib.hid (fun u => gbase_is h l 0 u)
  have H8 := Lib.hid (fun u => gend_is h l 0 u)
  have H9 := Lib.hid (fun u => gin_is h l 0 16 u)
  rw [q] at HG H1
  rw [gCells_no q] at H2
  rw [gPages_no q] at H3
  rw [gPage_no (by rw [gPages_no q]; omega)] at H4
  rw [gLog_no q] at H5
  rw [gSectors_no q] at H6
  rw [gBase_no (gHalf_no q)] at H7
  rw [gEnd_no (gHalf_no q)] at H8
  rw [gIn_no (gHalf_no q)] at H9
  clear q
  go_enter Try.func3, Try.ntmps3
  go_wp2_with (first
    | (go_at_call 6; refine (HA.out _).mono ?_; rintro e w1 ⟨rfl, b1⟩; have HK := Lib.hid ((GBox.laid b1).1.keep (GBox.laid b1).2); obtain ⟨c0, c1, _, _⟩ := HK.out; clear b1)
    | (go_at_call 7; refine (HG.out _).mono ?_; rintro e w2 ⟨rfl, b2⟩; replace HK := Lib.hid (gkeep HK.out b2); clear b2 c0 c1))
  go_region_held3 (fun u => u.cell? ⟨w.heap.size, 0, none⟩ = some (.int .i64 h) ∧ u.cell? ⟨w.heap.size, 1, none⟩ = some (.int .i64 l) ∧ w.heap.size < u.heap.size ∧ Below w.heap.size w u) (first
      | assumption
      | exact HK.out
      | exact gkeep HK.out (Below.refl _ _).drew
      | exact gkeep (by assumption) b2) (first
    | (go_at_call 8; refine (H1.out _).mono ?_; rintro e' w2 ⟨rfl, b2⟩)
    | (go_at_call 9; refine (H2.out _).mono ?_; rintro e' w2 ⟨rfl, b2⟩)
    | (go_at_call 10; refine (H3.out _).mono ?_; rintro e' w2 ⟨rfl, b2⟩)
    | (go_at_call 11; refine (H4.out _).mono ?_; rintro e' w2 ⟨rfl, b2⟩)
    | (go_at_call 12; refine (H5.out _).mono ?_; rintro e' w2 ⟨rfl, b2⟩)
    | (go_at_call 13; refine (H6.out _).mono ?_; rintro e' w2 ⟨rfl, b2⟩)
    | (go_at_call 14; refine (H7.out _).mono ?_; rintro e' w2 ⟨rfl, b2⟩)
    | (go_at_call 15; refine (H8.out _).mono ?_; rintro e' w2 ⟨rfl, b2⟩)
    | (go_at_call 16; refine (H9.out _).mono ?_; rintro e' w2 ⟨rfl, b2⟩))
  rename_i hH
  have HL := Lib.hid hH
  clear hH
  go_wp2_with fail
  go_ret
  exact ⟨rfl, HL.out.2.2.2⟩
theorem gPage_or (h l no slot : Int) : (0 ≤ no ∧ no < gPages h l ∧ 0 ≤ slot ∧ slot < 2 ∧ gPage h l no slot = 2 + no * 6 + slot * 3) ∨ (¬ (0 ≤ no ∧ no < gPages h l ∧ 0 ≤ slot ∧ slot < 2) ∧ gPage h l no slot = 0) := by
  by_cases q : 0 ≤ no ∧ no < gPages h l ∧ 0 ≤ slot ∧ slot < 2
  · exact .inl ⟨q.1, q.2.1, q.2.2.1, q.2.2.2, if_pos q⟩
  · exact .inr ⟨q, if_neg q⟩
theorem gHalf_yes {h l sp : Int} (q : gOk h l = true) (hs : sp = 0 ∨ sp = 1) : gHalf h l sp = true := by
  rw [gHalf, q, Bool.true_and]
  exact decide_eq_true (by omega)
theorem gHalf_out {h l sp : Int} (hs : ¬ (sp = 0 ∨ sp = 1)) : gHalf h l sp = false := by
  rw [gHalf, show decide (0 ≤ sp ∧ sp < 2) = false from decide_eq_false (by omega), Bool.and_false]
theorem gEdge_or {h l : Int} (sp : Int) (q : gOk h l = true) : (sp = 0 ∧ gBase h l sp = 16 ∧ gEnd h l sp = 16 + h) ∨ (sp = 1 ∧ gBase h l sp = 16 + h ∧ gEnd h l sp = 16 + h + h) ∨ (sp ≠ 0 ∧ sp ≠ 1 ∧ gBase h l sp = 0 ∧ gEnd h l sp = 0) := by
  by_cases h0 : sp = 0
  · subst h0
    have e := gHalf_yes (sp := 0) q (.inl rfl)
    exact .inl ⟨rfl, by rw [gBase, if_pos e]; omega, by rw [gEnd, if_pos e]; omega⟩
  · by_cases h1 : sp = 1
    · subst h1
      have e := gHalf_yes (sp := 1) q (.inr rfl)
      exact .inr (.inl ⟨rfl, by rw [gBase, if_pos e]; omega, by rw [gEnd, if_pos e]; omega⟩)
    · have e := gHalf_out (h := h) (l := l) (sp := sp) (by omega)
      exact .inr (.inr ⟨h0, h1, gBase_no e, gEnd_no e⟩)

set_option maxRecDepth 100000 in
set_option maxHeartbeats 4000000 in
theorem Tells_yes (h l no slot sp c : Int) (q : gOk h l = true) (w : World) : Calls Try.prog 3 #[.agg #[.int .i64 h, .int .i64 l], .int .i64 no, .int .i64 slot, .int .i64 sp, .int .i64 c] w fun e w' => e = .returned (.bool true) ∧ Below w.heap.size w w' := by
  have HA := Lib.hid galive_is
  have HG := Lib.hid (fun u => rgeo_is h l u)
  have H1 := Lib.hid (fun u => gright_is h l u)
  have H2 := Lib.hid (fun u => gcells_is h l u)
  have H3 := Lib.hid (fun u => gpages_is h l u)
  have H4 := Lib.hid (fun u => gpage_is h l no slot u)
  have H5 := Lib.hid (fun u => glog_is h l u)
  have H6 := Lib.hid (fun u => gsectors_is h l u)
  have H7 := Lib.hid (fun u => gbase_is h l sp u)
  have H8 := Lib.hid (fun u => gend_is h l sp u)
  have H9 := Lib.hid (fun u => gin_is h l sp c u)
  have R2 := Lib.hid (fun u => rcells_is h l q u)
  have R3 := Lib.hid (fun u => rpages_is h l q u)
  have R5 := Lib.hid (fun u => rlogat_is h l q u)
  have R6 := Lib.hid (fun u => rsectors_is h l q u)
  have R7 := Lib.hid (fun u hs => rbase_is h l sp q hs u)
  have hq := gOk_yes q
  have hp := gPages_le h l
  have HP := Lib.hid (gPage_or h l no slot)
  have HE := Lib.hid (gEdge_or sp q)
  have HI := Lib.hid (show gIn h l sp c = decide (gBase h l sp ≤ c ∧ c < gEnd h l sp) from rfl)
  have hb : 0 ≤ gBase h l sp ∧ gBase h l sp ≤ 1000 := by have := gEdge_or sp q; omega
  rw [q] at HG H1
  clear q
  generalize gCells h l = cn at *
  generalize gPage h l no slot = pg at *
  generalize gPages h l = p at *
  generalize gLog h l = lg at *
  generalize gSectors h l = sn at *
  generalize gIn h l sp c = i at *
  generalize gBase h l sp = b at *
  generalize gEnd h l sp = d at *
  obtain ⟨t, ht⟩ : ∃ t, t = decide (0 ≤ no ∧ no < p ∧ (slot = 0 ∨ slot = 1)) := ⟨_, rfl⟩
  obtain ⟨t2, ht2⟩ : ∃ t, t = decide (sp = 0 ∨ sp = 1) := ⟨_, rfl⟩
  have HT := Lib.hid ht
  have HT2 := Lib.hid ht2
  clear ht ht2
  go_enter Try.func3, Try.ntmps3
  go_upto_region 7 with (first
    | (go_at_call 6; refine (HA.out _).mono ?_; rintro e w1 ⟨rfl, b1⟩; have HK := Lib.hid ((GBox.laid b1).1.keep (GBox.laid b1).2); obtain ⟨c0, c1, _, _⟩ := HK.out; clear b1)
    | (go_at_call 7; refine (HG.out _).mono ?_; rintro e w2 ⟨rfl, b2⟩; replace HK := Lib.hid (gkeep HK.out b2); clear b2 c0 c1; obtain ⟨c0, c1, _, _⟩ := HK.out)
    | (go_at_call 17; refine (R3.out _).mono ?_; rintro e w3 ⟨rfl, b3⟩; replace HK := Lib.hid (gkeep HK.out b3); clear b3 c0 c1))
  go_cut [2, 68] (fun s2 s68 wx => s2 = .int .i64 slot ∧ s68 = .bool t ∧ wx = w3)
  case first =>
    go_wp2_with fail
    all_goals
      go_meet
      refine ⟨geo_v (by omega), geo_t ?_, rfl⟩
      rw [HT.out]
      first
        | exact (decide_eq_true (by omega)).symm
        | exact (decide_eq_false (by omega)).symm
        | (rw [Bool.eq_iff_iff]; simp <;> omega)
  case rest =>
  obtain ⟨rfl, rfl, hw⟩ := hcut
  subst hw
  go_upto_if 68 with fail
  go_cut [12] (fun s12 wx => s12 = .int .i64 pg ∧ wx = wc)
  case first =>
    have hpg := HP.out
    cases t
    · have ht := of_decide_eq_false HT.out.symm
      go_wp2_with fail
      go_meet
      exact ⟨geo_v (by omega), rfl⟩
    · have ht := of_decide_eq_true HT.out.symm
      go_wp2_with fail
      go_meet
      exact ⟨geo_v (by omega), rfl⟩
  case rest =>
    obtain ⟨rfl, hw⟩ := hcut
    subst hw
    clear HP HT
    go_upto_region 10 with fail
    go_cut [3, 80] (fun s3 s80 wx => s3 = .int .i64 sp ∧ s80 = .bool t2 ∧ wx = wc)
    case first =>
      go_wp2_with fail
      all_goals
        go_meet
        refine ⟨geo_v (by omega), geo_t ?_, rfl⟩
        rw [HT2.out]
        first
          | exact (decide_eq_true (by omega)).symm
          | exact (decide_eq_false (by omega)).symm
          | (rw [Bool.eq_iff_iff]; simp <;> omega)
    case rest =>
    obtain ⟨rfl, rfl, hw⟩ := hcut
    subst hw
    go_upto_if 80 with fail
    go_cut [13, 14, 15] (fun s13 s14 s15 wx => s13 = .int .i64 b ∧ s14 = .int .i64 d ∧ s15 = .bool i ∧ wx.cell? ⟨w.heap.size, 0, none⟩ = some (.int .i64 h) ∧ wx.cell? ⟨w.heap.size, 1, none⟩ = some (.int .i64 l) ∧ w.heap.size < wx.heap.size ∧ Below w.heap.size w wx)
    case first =>
      have he := HE.out
      obtain ⟨c0, c1, _, _⟩ := HK.out
      cases t2
      · have ht := of_decide_eq_false HT2.out.symm
        go_wp2_with fail
        go_meet
        refine ⟨geo_v (by omega), geo_v (by omega), geo_t ?_, HK.out⟩
        rw [HI.out]
        exact (decide_eq_false (by omega)).symm
      · have ht := of_decide_eq_true HT2.out.symm
        go_wp2_with (go_at_call 18; refine (R7.out _ ht).mono ?_; rintro e w4 ⟨rfl, b4⟩; replace HK := Lib.hid (gkeep HK.out b4); clear b4 c0 c1; obtain ⟨c0, c1, _, _⟩ := HK.out)
        all_goals
          go_meet
          refine ⟨rfl, geo_v (by omega), geo_t ?_, HK.out⟩
          rw [HI.out]
          first
            | exact (decide_eq_true (by omega)).symm
            | exact (decide_eq_false (by omega)).symm
            | (rw [Bool.eq_iff_iff]; simp <;> omega)
            | (simp only [IntKind.wrap_i64]; rw [Bool.eq_iff_iff]; simp <;> omega)
    case rest =>
      obtain ⟨rfl, rfl, rfl, hK⟩ := hcut
      replace HK := Lib.hid hK
      clear hK HE HI hb R7 R3
      go_wp2_with fail
      go_region_held3 (fun u => u.cell? ⟨w.heap.size, 0, none⟩ = some (.int .i64 h) ∧ u.cell? ⟨w.heap.size, 1, none⟩ = some (.int .i64 l) ∧ w.heap.size < u.heap.size ∧ Below w.heap.size w u) (first
          | assumption
          | exact HK.out
          | exact gkeep HK.out (Below.refl _ _).drew
          | exact gkeep (by assumption) b2) (first
        | (go_at_call 8; refine (H1.out _).mono ?_; rintro e' w2 ⟨rfl, b2⟩)
        | (go_at_call 9; refine (H2.out _).mono ?_; rintro e' w2 ⟨rfl, b2⟩)
        | (go_at_call 19; refine (R2.out _).mono ?_; rintro e' w2 ⟨rfl, b2⟩)
        | (go_at_call 10; refine (H3.out _).mono ?_; rintro e' w2 ⟨rfl, b2⟩)
        | (go_at_call 11; refine (H4.out _).mono ?_; rintro e' w2 ⟨rfl, b2⟩)
        | (go_at_call 12; refine (H5.out _).mono ?_; rintro e' w2 ⟨rfl, b2⟩)
        | (go_at_call 20; refine (R5.out _).mono ?_; rintro e' w2 ⟨rfl, b2⟩)
        | (go_at_call 13; refine (H6.out _).mono ?_; rintro e' w2 ⟨rfl, b2⟩)
        | (go_at_call 21; refine (R6.out _).mono ?_; rintro e' w2 ⟨rfl, b2⟩)
        | (go_at_call 14; refine (H7.out _).mono ?_; rintro e' w2 ⟨rfl, b2⟩)
        | (go_at_call 15; refine (H8.out _).mono ?_; rintro e' w2 ⟨rfl, b2⟩)
        | (go_at_call 16; refine (H9.out _).mono ?_; rintro e' w2 ⟨rfl, b2⟩))
      rename_i hH
      have HL := Lib.hid hH
      clear hH
      go_wp2_with fail
      go_ret
      exact ⟨rfl, HL.out.2.2.2⟩

theorem Tells_walk (h l no slot sp c : Int) (w : World) : Calls Try.prog 3 #[.agg #[.int .i64 h, .int .i64 l], .int .i64 no, .int .i64 slot, .int .i64 sp, .int .i64 c] w fun e w' => e = .returned (.bool true) ∧ Below w.heap.size w w' := by
  cases q : gOk h l
  · exact Tells_no h l no slot sp c q w
  · exact Tells_yes h l no slot sp c q w
end Go.Proofs.Ytngfijpdbjkpiaa
